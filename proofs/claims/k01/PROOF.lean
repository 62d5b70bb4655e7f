import PyProof.Rows.All
import Wide.All
import OpenK.AllK
import Wide.FinOn
import HandS.ForExc
import HandS.ForMost
import HandS.EndBits
import HandS.Wide
import HandS.ExcInit
import HandS.ExcValue
import HandS.ExcIs
import HandS.ExcField
import HandS.IsInst
import HandS.RaiseMore
import HandS.Style
import HandS.Flow
import HandS.Walk
import PySem.Challenge.RW_samelists_k01_errors_and_their_attribute
set_option Elab.async false
set_option linter.all false
set_option maxRecDepth 100000
set_option maxHeartbeats 8000000
namespace SL
open PySem PySem.W PySem.Calls PyProof.Rows PySem.HandSPX
section
variable {M : Model} {A : Around} {E : Value → Shared → Prop} {h : Heap} {g : Array GenState} {d : Drawn} {t : Nat} {os : OsState}
variable {nm q : Str} {C N : Addr} {bs bm bmB : List Value} {hdct : Bool} {sn : List Str} {sub : List Value} {ab : Bool} {col : Option Bool} {dd : Option Addr} {k0 k1 k2 k3 k5 : Option Value} {B newId initId : String}
theorem chk_new (F : ExcBaseFacts B newId initId bmB) (hT : ∀ X : String, bm.contains (.type X) = bmB.contains (.type X)) {rest : List Value} {kw : List (Str × Value)} {Q : Unit → Shared → Prop}
    (hC : h.get? C = some (excClassObj nm q C N bs bm hdct sn sub ab col dd k0 k1 k2 k3 k5 newId)) (hq : Q () ⟨h, g, d, t, os⟩) :
    wpAny M A (checkBuiltinCall newId ⟨.ref C :: rest, kw⟩) Q E ⟨h, g, d, t, os⟩ := by
  have inB : (Value.ref C :: bm).contains (.type B) = true := by rw [List.contains_cons, hT, F.hasB, Bool.or_true]
  have star := F.noStar
  simp only [checkBuiltinCall, F.newKind, F.newSplit, F.newRow]
  repeat (first
    | refine wpAny_loadPart_at hC ?_
    | (refine wpAny_isSubtype_exc hC ?_; rw [inB])
    | refine wpAny_staticBase_exc hC ?_
    | refine wpAny_madeBy_exc hC ?_
    | simp only [bne_self_eq_false, Bool.false_eq_true, if_false]
    | wp_step)
  exact hq
end
section
variable {prog : Program} {w : World} {A : Around} {E : Value → Shared → Prop} {R : Result → Shared → Prop} {h : Heap} {g : Array GenState} {d : Drawn} {t : Nat} {os : OsState}
variable {nm q : Str} {C N : Addr} {bs bm bmB : List Value} {hdct : Bool} {sn : List Str} {sub : List Value} {ab : Bool} {col : Option Bool} {dd : Option Addr} {k0 k1 k2 k3 k5 : Option Value} {B newId initId : String}
theorem new_kw (F : ExcBaseFacts B newId initId bmB) (hT : ∀ X : String, bm.contains (.type X) = bmB.contains (.type X)) {rest : List Value} {kw : List (Str × Value)}
    (hC : h.get? C = some (excClassObj nm q C N bs bm hdct sn sub ab col dd k0 k1 k2 k3 k5 newId))
    (hq : R (.ok (.ret (.ref (h.objs.size + 1)))) ⟨(h.push (kdv_tup rest)).push (excO C h.objs.size), g, d, t, os⟩) (hrest : rest.length ≤ sizeLine) :
    codeAny (model prog w) A (.builtin newId ⟨.ref C :: rest, kw⟩) R ⟨h, g, d, t, os⟩ := by
  have ends := F.ends
  have inB : (Value.ref C :: bm).contains (.type B) = true := by rw [List.contains_cons, hT, F.hasB, Bool.or_true]
  have inA : (Value.ref C :: bm).contains (.type "AttributeError") = false := by rw [List.contains_cons, hT, F.noAttr]; rfl
  have inN : (Value.ref C :: bm).contains (.type "NameError") = false := by rw [List.contains_cons, hT, F.noName]; rfl
  refine codeAny_builtinAt F.entry ?_
  unfold Builtin.«BaseException.__new__»
  refine PySem.wpAt_bind ?_
  show PySem.wpAt _ _ _ (stack >>= _) _ _ _
  refine PySem.wpAt_bind (PySem.wpAt_stack fun p below => PySem.wpAt_of_wpAny ?_)
  wp_walk
  refine PySem.wpAt_of_wpAny ?_
  rw [F.owner]
  repeat (first
    | with_reducible refine wpAny_madeHere_exc F.canon hC ?_
    | with_reducible refine wpAny_loadPart_at hC ?_
    | (with_reducible refine wpAny_isSubtype_exc hC ?_; first | rw [inB] | rw [inA] | rw [inN])
    | wp_step)
  show R _ _
  rw [Heap.size_push]
  exact hq
/-- type.__call__ of such a class, with keywords for its own maker -/
theorem tcall_kw (F : ExcBaseFacts B newId initId bmB) (hT : ∀ X : String, bm.contains (.type X) = bmB.contains (.type X)) {rest : List Value} {kw : List (Str × Value)} {fI : Addr} {Q : Fin → Shared → Prop}
    (hC : h.get? C = some (excClassObj nm q C N bs bm hdct sn sub ab col dd k0 k1 k2 k3 k5 newId))
    (hi : Looks (model prog w) h (typeLookup (.ref C) "__init__") (some (.ref fI)))
    (hb : ∀ self, Looks (model prog w) h (bindSpecial (.ref fI) self) (.ref fI, [self])) (hrest : rest.length ≤ sizeLine)
    (hq : codeAny (model prog w) A (.call (.ref fI) ⟨.ref (h.objs.size + 1) :: rest, kw⟩)
      (fun r s' => match r with | .ok (.ret v) => v = .none ∧ Q (.done (.ret (.ref (h.objs.size + 1)))) s' | .ok _ => False | .error e => E e s')
      ⟨(h.push (kdv_tup rest)).push (excO C h.objs.size), g, d, t, os⟩) :
    wpAny (model prog w) A (Builtin.«type.__call__» ⟨.ref C :: rest, kw⟩) Q E ⟨h, g, d, t, os⟩ := by
  repeat (first
    | with_reducible refine wpAny_loadPart_at hC ?_
    | with_reducible refine wpAny_madeBy_exc hC ?_
    | wp_step)
  refine codeAny_call_builtin_code (Code.quiet_builtin _ F.quiet) (chk_new F hT hC ?_)
  refine new_kw F hT hC ?_ hrest
  show wpAny _ _ _ _ _ _
  have kk : ∀ b o, h.get? b = some o → ((h.push (kdv_tup rest)).push (excO C h.objs.size)).get? b = some o :=
    fun b o e => Heap.get?_push_of_some _ (Heap.get?_push_of_some _ e)
  have hC2 := kk _ _ hC
  have hself : ((h.push (kdv_tup rest)).push (excO C h.objs.size)).get? (h.objs.size + 1) = some (excO C h.objs.size) := by heap_get
  have inC : (Value.ref C :: bm).contains (.ref C) = true := by simp
  have li := hi.keeps kk
  have lb := (hb (.ref (h.objs.size + 1))).keeps kk
  unfold isInstance
  repeat (first
    | with_reducible refine wpAny_loadPart_at hself ?_
    | (with_reducible refine wpAny_isSubtype_exc hC2 ?_; rw [inC])
    | wp_step)
  show wpAny _ _ (typeLookup (.ref C) _) _ _ _
  refine li.at ?_
  refine wpAny_holding (wpAny_bind (lb.at ?_))
  refine wpAny_bind (wpAny_call (codeAny_mono hq fun r s' z => ?_))
  rcases r with e | (v | _ | _ | _) <;> first | exact z | exact z.elim | skip
  obtain ⟨rfl, z⟩ := z
  first
    | exact wpAny_pure (wpAny_pure z)
    | (wp_walk; exact z)
theorem ccall_kw (F : ExcBaseFacts B newId initId bmB) (hT : ∀ X : String, bm.contains (.type X) = bmB.contains (.type X)) {rest : List Value} {kw : List (Str × Value)} {fI : Addr}
    (hC : h.get? C = some (excClassObj nm q C N bs bm hdct sn sub ab col dd k0 k1 k2 k3 k5 newId))
    (hi : Looks (model prog w) h (typeLookup (.ref C) "__init__") (some (.ref fI)))
    (hb : ∀ self, Looks (model prog w) h (bindSpecial (.ref fI) self) (.ref fI, [self])) (hrest : rest.length ≤ sizeLine)
    (hq : codeAny (model prog w) (A.under (.builtin "type.__call__" ⟨.ref C :: rest, kw⟩)) (.call (.ref fI) ⟨.ref (h.objs.size + 1) :: rest, kw⟩) (InitBack (h.objs.size + 1) R)
      ⟨(h.push (kdv_tup rest)).push (excO C h.objs.size), g, d, t, os⟩) :
    codeAny (model prog w) A (.call (.ref C) ⟨rest, kw⟩) R ⟨h, g, d, t, os⟩ := by
  have z1 := tc_lookup
  have z2 := tc_bind (.ref C)
  have zT : (⟨h, g, d, t, os⟩ : Shared).TypeIs (.ref C) "type" := ⟨_, hC, rfl⟩
  refine codeAny_of_tree ?_
  show wpAny _ _ (callAny (.ref C) _) _ _ _
  repeat (any_goals (first
    | assumption
    | with_reducible refine wpAny_loadPart_at hC ?_
    | wp_step))
  refine ⟨rfl, ?_⟩
  refine codeAny_call_builtin_at (Code.quiet_builtin _ (by decide +kernel)) entry_typeCall
    (wpAny_check_type_call_sub hC (tcall_kw F hT hC hi hb hrest ?_))
  refine codeAny_mono hq fun r s' z => ?_
  rcases r with e | (v | _ | _ | _) <;> exact z
end
end SL

namespace SL
open PySem PySem.Spec PyProof.Rows L2
/-! ### an own exception as a value -/
section
variable {X : Cx} {CX : CXT} {k : Nat} {fI C : Addr} {fd : FuncData} {ps : List Str} {sp : Sp} {E : XK}
theorem run_exv {pins : List (Addr × Obj)} {σ : L2.St} {H : Hp} {s : Shared} {Q : VK} {us full : List Value} {kw : List (Str × Value)} {vs : List V}
    (T : OexC X.K C) (iC : PySem.W.findIn X.K (.ref C) "__init__" = some (some (.ref fI))) (tI : PySem.W.typeIn X.K (.ref fI) = some (.type "function"))
    (F1 : FnOk X.prog X.w X.K X.mg X.base CX k fI fd ps sp) (hr : Room (k + 1) X.A) (hx : Passes CX X E) (I : Inv X pins σ H s) (hl : us.length ≤ sizeLine)
    (hb : ∀ (s' : Shared) (a : Addr), X.K.In s'.heap → BindsTo s' fd ⟨.ref a :: us, kw⟩ (ps.zip (.ref a :: full))) (r : Vals vs full)
    (h : ∀ a, H a = none → sp (.ref a :: vs) (upd H a (exo a C none)) (fun v H2 => v = .non ∧ Q (.ref a) H2) E) :
    wpAny (model X.prog X.w) X.A (call (.ref C) us kw) (EP X pins σ Q) X.xe s := by
  obtain ⟨nm, q, N, bs, bm, sn, sub, ab, col, dd, k0, k1, k2, k3, k5, hC, hbm⟩ := T.cls
  obtain ⟨hp, g, dr, tk, os⟩ := s
  have sz : hp.objs.size ≤ hp.objs.size + 1 := Nat.le_succ _
  have hn : H (hp.objs.size + 1) = none := I.hok.fresh sz
  have hq := h (hp.objs.size + 1) hn
  have kk : ∀ b o, hp.get? b = some o → ((hp.push (PySem.W.kdv_tup us)).push (PySem.HandSPX.excO C hp.objs.size)).get? b = some o :=
    fun b o e => Heap.get?_push_of_some _ (Heap.get?_push_of_some _ e)
  have new : ((hp.push (PySem.W.kdv_tup us)).push (PySem.HandSPX.excO C hp.objs.size)).get? (hp.objs.size + 1) = some (PySem.HandSPX.excO C hp.objs.size) := by heap_get
  have I2 := I.laid (t' := tk) (a := hp.objs.size + 1) (o := exo (hp.objs.size + 1) C none)
    (h' := (hp.push (PySem.W.kdv_tup us)).push (PySem.HandSPX.excO C hp.objs.size)) kk sz (exo_ok new)
  have r2 : Vals (V.ref (hp.objs.size + 1) :: vs) (Value.ref (hp.objs.size + 1) :: full) := .cons rfl r
  refine wpAny_call (ccall_kw PySem.F.excBase_ValueError (fun Y => PySem.HandSPX.refsVE_contains Y bm hbm) (I.kIn _ _ hC) (PySem.W.looks_findIn I.kIn iC)
    (fun self => PySem.W.bind_fn I.kIn self tI) hl (codeAny_mono (F1.run _ X.stack _ _ ⟨Value.ref (hp.objs.size + 1) :: us, kw⟩ (Value.ref (hp.objs.size + 1) :: full) _ _ E
      (hr.make C us kw) (I2.env0.make C us kw) (hb _ _ I2.kIn) r2 hq) fun r s' hq' => ?_))
  cases r with
  | error e => exact hx pins σ _ _ e s' I2 hq'
  | ok fl =>
    cases fl with
    | ret u =>
      obtain ⟨v, H', I3, rv, ev, q3⟩ := I2.after hq'
      subst ev
      exact ⟨rv, ⟨V.ref (hp.objs.size + 1), H', I3, rfl, q3⟩⟩
    | next => exact False.elim hq'
    | brk => exact False.elim hq'
    | cont => exact False.elim hq'
end
/-- C(e, ..), C an own exception class with its own maker, as a value -/
@[irreducible] def tExv (C : Addr) (n : Nat) (sp : Sp) (gV : List V → List V → List V) (E : XK) (t tk : TA) : TE := fun σ H Q => t σ H fun vs H1 => tk σ H1 fun zs H2 => vs.length = n ∧ n ≤ 1000 ∧
  ∀ a, H2 a = none → sp (.ref a :: gV vs zs) (upd H2 a (exo a C none)) (fun v H3 => v = .non ∧ Q (.ref a) H3) E
/-- how the arguments behind self are bound -/
structure EBn (K : PySem.W.Frag) (fd : FuncData) (ps : List Str) (n : Nat) (ks : List Str) (g : List Value → List Value → List Value) (gV : List V → List V → List V) : Prop where
  to : ∀ (s : Shared) (a : Addr) (us ws : List Value), K.In s.heap → us.length = n → ws.length = ks.length → BindsTo s fd ⟨.ref a :: us, ks.zip ws⟩ (ps.zip (.ref a :: g us ws))
  rel : ∀ {vs : List V} {us : List Value} {zs : List V} {ws : List Value}, Vals vs us → Vals zs ws → Vals (gV vs zs) (g us ws)
section
variable {X : Cx} {CX : CXT} {k n : Nat} {fI C : Addr} {fd : FuncData} {ps ks : List Str} {sp : Sp} {E : XK} {x : Str} {p pos : Pos} {e : Expr} {es : List Expr} {kws : List Keyword} {t tk : TA} {g : List Value → List Value → List Value} {gV : List V → List V → List V}
theorem pe_exv (T : OexC X.K C) (iC : PySem.W.findIn X.K (.ref C) "__init__" = some (some (.ref fI))) (tI : PySem.W.typeIn X.K (.ref fI) = some (.type "function"))
    (F1 : FnOk X.prog X.w X.K X.mg X.base CX k fI fd ps sp) (hr : Room (k + 1) X.A) (hg : Gl X x) (hm : X.mg x = some (.ref C)) (hb : EBn X.K fd ps n [] g gV) (hx : Passes CX X E) (ha : PA X (e :: es) t)
    (hdb : (x == ("__debug__" : Str)) = false := by decide) (he : starEach (e :: es) X.env = (false, eval e X.env) :: starEach es X.env := by rfl)
    (hpl : (backTo pos (starEach es X.env)).any (·.1) = false := by rfl) : PE X (.Call (.Name x p) (e :: es) [] pos) (tExv C n sp gV E t tNil) := by
  refine ⟨fun pins s σ H Q I h => ?_⟩
  refine wpAny_Call_Name_kw (ld_glob I hg hm ?_ hdb)
  unfold tExv at h
  refine PySem.W.callWith_K (h₀ := X.base) I.ok.mod.kin T.kC (thn (ha.run pos pins s σ H _ I h) fun us s1 ⟨vs, H1, I1, r, l1, l2, q⟩ => ⟨I1.kIn, ?_⟩) he hpl
  have lu : us.length = n := r.length.symm.trans l1
  exact run_exv (us := us) (kw := []) T iC tI F1 hr hx I1 (by rw [lu, sizeLine_eq]; omega) (fun s' a K' => hb.to s' a us [] K' lu rfl) (hb.rel r .nil) q
theorem pe_exv0 (T : OexC X.K C) (iC : PySem.W.findIn X.K (.ref C) "__init__" = some (some (.ref fI))) (tI : PySem.W.typeIn X.K (.ref fI) = some (.type "function"))
    (F1 : FnOk X.prog X.w X.K X.mg X.base CX k fI fd ps sp) (hr : Room (k + 1) X.A) (hg : Gl X x) (hm : X.mg x = some (.ref C)) (hb : EBn X.K fd ps 0 ks g gV) (hx : Passes CX X E) (hkw : PK X kws tk)
    (hall : (backToKw pos (keywordEach kws X.env)).all (·.1.isSome) = true := by rfl) (hks : (backToKw pos (keywordEach kws X.env)).filterMap (·.1) = ks := by rfl) (hdb : (x == ("__debug__" : Str)) = false := by decide)
    (hzl : ∀ {zs : List V} {ws : List Value}, Vals zs ws → ws.length = ks.length → True := fun _ _ => True.intro)
    (hpl : ((backTo pos (starEach [] X.env)).any (·.1) || (backToKw pos (keywordEach kws X.env)).any (·.1.isNone)) = false := by rfl) :
    PE X (.Call (.Name x p) [] kws pos) (fun σ H Q => tExv C 0 sp gV E tNil (fun σ H R => tk σ H fun zs H1 => zs.length = ks.length ∧ R zs H1) σ H Q) := by
  refine ⟨fun pins s σ H Q I h => ?_⟩
  refine wpAny_Call_Name_kw (ld_glob I hg hm ?_ hdb)
  refine PySem.W.callWith_KW0 (h₀ := X.base) I.ok.mod.kin T.kC hall ?_ hpl
  unfold tExv at h
  refine thn (hkw.run pos pins s σ H _ I h) fun ws s2 ⟨zs, H2, I2, rz, l1, _, _, q2⟩ => ⟨I2.kIn, ?_⟩
  rw [hks]
  have lw : ws.length = ks.length := rz.length.symm.trans l1
  exact run_exv (us := []) T iC tI F1 hr hx I2 (Nat.zero_le _) (fun s' a K' => hb.to s' a [] ws K' rfl lw) (hb.rel .nil rz) q2
/-- C(), an own exception class without a maker of its own -/
theorem pe_exn0 {bmB : List Value} {B newId initId : String} (F : ExcBaseFacts B newId initId bmB) (q : PySem.W.excIn X.K C bmB newId = true) (gC : X.mg x = some (.ref C)) (kC : PySem.W.keepIn X.K (.ref C) = true) (hg : Gl X x)
    (hdb : (x == ("__debug__" : Str)) = false := by decide) :
    PE X (.Call (.Name x p) [] [] pos) (fun σ H Q => ∀ a, H a = none → Q (.ref a) (upd H a (exo a C none))) := by
  refine ⟨fun pins s σ H Q I h => ?_⟩
  refine wpAny_Call_Name_kw (ld_glob I hg gC ?_ hdb)
  refine PySem.W.callWith_K0 I.kIn kC ?_
  show wpAny _ _ (call (.ref C) []) _ _ _
  obtain ⟨bm, N, nm, qn, bs, hdct, sn, sub, ab, col, dd, k0, k1, k2, k3, k5, mN, hC, hN, hni, T⟩ := exc_obj I.kIn q
  refine wpAny_call_exc_subT F T hC hN hni (fun h' a hm => ?_) (by show 0 ≤ sizeLine; exact Nat.zero_le _)
  have hn : H a = none := I.hok.gone hm.new
  obtain ⟨t, ht, _, _⟩ := hm.there
  exact ⟨.ref a, upd H a (exo a C none), I.laidN hm.keeps hm.new hn (exo_ok ht), rfl, h a hn⟩
end
/-- e.f, e an exception that is held as a value -/
def tExA (K : PySem.W.Frag) (f : Str) (te : TE) : TE := fun σ H Q => te σ H fun x H1 => ∃ (a C dx : Addr) (fs : List (Str × V)) (v : V), x = .ref a ∧ H1 a = some (exo a C (some dx)) ∧ H1 dx = some (exd dx fs) ∧
  XfC K C ∧ PySem.W.findIn K (.ref C) f = some none ∧ fs.lookup f = some v ∧ Q v H1
theorem exo_inst {X : Cx} {pins : List (Addr × Obj)} {σ : L2.St} {H : Hp} {s : Shared} {a C dx : Addr} {fs : List (Str × V)} (I : Inv X pins σ H s) (e1 : H a = some (exo a C (some dx))) (e2 : H dx = some (exd dx fs)) :
    ∃ (ox od : Obj) (mA : Str → Option Value), PySem.W.InstAt s.heap a ox C (some od) ∧ s.heap.get? dx = some od ∧ s.heap.Ns1 dx mA ∧ (∀ f, PySem.W.lookIn f od = some (mA f)) ∧ ∀ f, RelO (fs.lookup f) (mA f) := by
  obtain ⟨t1, h1⟩ := exo_at I.hok e1
  obtain ⟨mA, hns, rel⟩ := exd_at I.hok e2
  obtain ⟨od, ho, hl⟩ := lookIn_ns hns
  exact ⟨_, od, mA, ⟨h1, rfl, rfl, ho⟩, ho, hns, fun f => hl (name := f), rel⟩
theorem pe_exa {X : Cx} {e : Expr} {te : TE} {f : Str} {pos : Pos} (he : PE X e te) (hb : attributeBase e f X.env (eval e X.env) = eval e X.env := by rfl) : PE X (.Attribute e f pos) (tExA X.K f te) := by
  refine ⟨fun pins s σ H Q I h => ?_⟩
  refine attr_of hb (thn (he.run pins s σ H _ I h) fun u s1 hh => ?_)
  obtain ⟨x, H1, I1, rx, a, C, dx, fs, v, ex, e1, e2, T, hno, l, q⟩ := hh
  subst ex
  obtain rfl : u = Value.ref a := rx
  obtain ⟨ox, od, mA, J, _, _, hl, rel⟩ := exo_inst I1 e1 e2
  obtain ⟨u, hu, ru⟩ := RelO.some_of (v := v) (o := mA f) (by rw [← l]; exact rel f)
  exact HandSPX.exc_get I1.kIn J T.ga T.gg T.exC (PySem.W.findObj_own T.hdC hno rfl (by rw [hl f, hu])) (handed_of ru) ⟨v, H1, I1.tok _, ru, q⟩
end SL
namespace SL
open PySem PySem.W PySem.Spec PySem.Calls PyProof.Rows
section
variable {prog : Program} {w : World} {A : Around} {E : Value → Shared → Prop} {s : Shared} {K : Frag} {x D : Addr} {ox : Obj} {od : Option Obj}
theorem fobj_bind {name : Str} {a g : Value} (hc : (clsIn K D).isSome = true) (ha : findIn K (.ref D) name = some (some a)) (hg : specialIn K a "__get__" = some (some g)) (ht : takesIn K a = some true) :
    findObj K D od name = some (.bind g a) := by
  obtain ⟨cd, hc⟩ := Option.isSome_iff_exists.mp hc
  unfold findObj
  rw [hc, Option.bind_some, ha, Option.bind_some]
  simp [hg, ht]
/-- x.__class__ of an exception with or without a dict -/
theorem kin_cls {Q : Option Value → Shared → Prop} (c : L2.ExcC K D) (X : K.In s.heap) (I : InstAt s.heap x ox D od) (h : Q (some (.ref D)) { s with toks := s.toks + 1 }) :
    wpAny (model prog w) A (getAttr? (.ref x) "__class__") Q E s := by
  have isD : (clsIn K D).isSome = true := by
    obtain ⟨cd, hc, _⟩ := any_some c.hd
    rw [hc]
    rfl
  have fo : findObj K D od "__class__" = some (.bind (.builtin "getset_descriptor.__get__") (.builtin "object.__class__")) := fobj_bind isD c.ha c.hn c.ht
  obtain ⟨hp, g, d, t, os⟩ := s
  have T0 := I.type (M := model prog w)
  have T1 := looks_findIn (M := model prog w) X c.hg
  have T2 := looks_findIn (M := model prog w) X c.hk
  have T3 := looks_find (M := model prog w) X I fo
  have isB : Looks (model prog w) hp (isInstance (.ref x) (.type "BaseException")) true := T0.andThen (looks_subIn X c.hs)
  have u0 : (false && onTheHeap (Value.builtin "BaseException.__getattribute__")) = false := rfl
  have u2 : (Value.builtin "BaseException.__getattribute__" == Value.builtin "object.__getattribute__") = false := by decide +kernel
  have u1 : (onTheHeap (Value.ref D) && Value.builtin "BaseException.__getattribute__" == Value.builtin "object.__getattribute__") = false := by
    rw [u2]
    rfl
  unfold getAttr? getAttrBy? getAttrBy
  refine wpAny_bind (wpAny_mkText (wpAny_bind (wpAny_attempt (wpAny_holding (wpAny_bind (T0.at (wpAny_bind (T1.at ?_))))))))
  show wpAny _ _ (if (onTheHeap (Value.ref D) && Value.builtin "BaseException.__getattribute__" == Value.builtin "object.__getattribute__") = true then _ else _) _ _ _
  rw [u1, if_neg Bool.false_ne_true]
  unfold getAttrByItsOwn hookBefore
  refine wpAny_bind ?_
  rw [if_pos (show onTheHeap (Value.ref D) = true from rfl)]
  refine T2.at ?_
  refine wpAny_bind (wpAny_attempt (wpAny_holding ?_))
  unfold callGetattribute
  rw [u0, if_neg Bool.false_ne_true]
  unfold boundAndCalled
  rw [PySem.F.excAttr_ValueError.ga.bind (.ref x)]
  refine wpAny_bind (wpAny_pure ?_)
  show wpAny _ _ (call (.builtin "BaseException.__getattribute__") [.ref x, .str "__class__" t]) _ _ _
  refine wpAny_call (codeAny_call_builtin PySem.F.excAttr_ValueError.ga.plain PySem.F.entry_bexc_ga ?_)
  refine @check_slot (model prog w) _ _ ⟨hp, g, d, t + 1, os⟩ "BaseException.__getattribute__" "BaseException" "__getattribute__" (.ref x) [.str "__class__" t] [] _
    (by decide +kernel) (by decide +kernel) isB (PySem.F.args_bexc_ga (.ref x) (.str "__class__" t)) ?_
  unfold Builtin.«object.__getattribute__»
  refine wpAny_bind (wpAny_of_eq (a := ((Value.ref x : Value), [Value.str "__class__" t])) (by first | rfl | (simp only [slotArgs]; rfl)) ?_)
  refine wpAny_bind (wpAny_pure (wpAny_bind (T0.at (wpAny_bind (T3.at ?_)))))
  show wpAny _ _ (holding [Value.builtin "object.__class__"] (call (.builtin "getset_descriptor.__get__") [.builtin "object.__class__", .ref x, .ref D]) >>= ret) _ _ _
  refine wpAny_bind (wpAny_holding (wpAny_call (class_get (s := ⟨hp, g, d, t + 1, os⟩) (ox := ox) (od := od) X I c.hm ?_)))
  refine wpAny_pure ?_
  show wpAny _ _ (handedOut (.ref D)) _ _ _
  rw [handedOut_of (v := .ref D) rfl]
  first
    | exact wpAny_pure (wpAny_pure h)
    | exact wpAny_pure h
    | exact wpAny_pure (wpAny_bind (wpAny_pure (wpAny_pure h)))
theorem kit_exv (c : L2.ExcC K D) : KitX K (.ref x) (.ref D) (fun h => ∃ ox od, InstAt h x ox D od) where
  ty := fun _ _ _ I => I.elim fun _ I => I.elim fun _ I => I.type
  it := fun _ _ X _ => by
    obtain ⟨cd, hc, _⟩ := any_some c.hd
    unfold clsIn at hc
    split at hc
    · rename_i c' d' cd' sl' ho
      intro A' Q' E' s' k q
      unfold isType loadHead
      exact wpAny_bind (wpAny_loadPart (k _ _ (X _ _ ho)) (wpAny_pure q))
    · cases hc
  ne := fun h tp dd its n sl X htp => by
    obtain ⟨cd, hc, _⟩ := any_some c.hd
    refine Bool.eq_false_iff.mpr fun q => ?_
    have e : D = tp := Value.ref.inj (beq_iff_eq.mp q)
    subst e
    unfold clsIn at hc
    split at hc
    · rename_i c' d' cd' sl' ho
      have z := (X _ _ ho).symm.trans htp
      cases z
    · cases hc
  ca := fun X I k => I.elim fun _ I => I.elim fun _ I => kin_cls c X I k
end
end SL
namespace SL
open PySem PySem.Spec PyProof.Rows L2
/-- isinstance(e, c), e an exception that is held as a value -/
@[irreducible] def rIsX (K : PySem.W.Frag) : List V → Hp → VK → Prop := fun xs H Q => ∃ (a D : Addr) (d : Option Addr) (c : V) (cv : Value) (b : Bool), xs = [.ref a, c] ∧ H a = some (exo a D d) ∧ (∀ dx, d = some dx → ∃ fs, H dx = some (exd dx fs)) ∧
  ExcC K D ∧ ClsV c cv ∧ PySem.W.kitOne K (.ref D) cv = some b ∧ Q (.bl b) H
theorem call_isX {X : Cx} : CallR X (.builtin "isinstance") (rIsX X.K) := by
  intro pins s σ H xs us Q I r h
  unfold rIsX at h
  obtain ⟨a, D, d, c, cv, b, rfl, e1, e2, hc, k, e, q⟩ := h
  obtain ⟨u1, u2, rfl, r1, r2⟩ := vals2 r
  have z := k.eq r2
  subst z
  obtain rfl : u1 = Value.ref a := r1
  have J : ∃ ox od, PySem.W.InstAt s.heap a ox D od := by
    obtain ⟨t1, h1⟩ := exo_at I.hok e1
    cases d with
    | none => exact ⟨_, none, h1, rfl, rfl, trivial⟩
    | some dx =>
      obtain ⟨fs, e3⟩ := e2 dx rfl
      obtain ⟨mA, hns, rel⟩ := exd_at I.hok e3
      obtain ⟨od, ho, hl⟩ := lookIn_ns hns
      exact ⟨_, some od, h1, rfl, rfl, ho⟩
  exact PySem.W.kia_one (kit_exv hc) I.kIn J e (fun z => nomatch z) fun tk => ⟨.bl b, H, I.tok tk, rfl, q⟩
end SL

/-! Defs that show things (repr): called where no guard stands. -/
namespace SL
open PySem PySem.Spec PyProof.Rows L2
section
variable {P : Program} {w : World} {K : PySem.W.Frag} {mg : Str → Option Value} {base : Heap} {CX : CXT}
structure FnG (P : Program) (w : World) (K : PySem.W.Frag) (mg : Str → Option Value) (base : Heap) (CX : CXT) (k : Nat) (f : Addr) (fd : FuncData) (ps : List Str) (sp : Sp) : Prop where
  len : ∀ vs H Q E, sp vs H Q E → vs.length = ps.length
  run : ∀ (A : Around) (outer : List Env) (s : Shared) (H : Hp) (args : Args) (us : List Value) (vs : List V) (Q : VK) (E : XK), A.guards = some [] →
    Room k A → Env0 P w K mg base A outer s H → BindsTo s fd args (ps.zip us) → Vals vs us → sp vs H Q E →
    codeAny (model P w) A (.call (.ref f) args) (CR CX outer P w H s Q E) s
theorem FnG.of {k : Nat} {f : Addr} {fd : FuncData} {ps : List Str} {sp : Sp} (F : FnOk P w K mg base CX k f fd ps sp) : FnG P w K mg base CX k f fd ps sp :=
  ⟨F.len, fun A outer s H args us vs Q E _ hr => F.run A outer s H args us vs Q E hr⟩
theorem deeper_guards {A : Around} {env : Env} (h : A.guards = some []) : (A.deeper env).guards = some [] := h
/-- a def's body at one place -/
theorem fn_at {k : Nat} {f : Addr} {name qual : Str} {params : Arguments} {body : List Stmt} {scope : Scope} {dV kV doc pm cdv ct oc : Value} {an od : Option Addr} {osl : Array (Option Value)} {N ps : List Str}
    (lk : K.lookup f = some ⟨oc, od, .func (PySem.W.fnOf name qual params body scope dV kV doc pm an cdv ct), osl⟩) (hcd : PySem.W.codeIn K cdv qual = true) (S : FnScope N ps scope)
    {A : Around} {outer : List Env} {s : Shared} {H : Hp} {args : Args} {us : List Value} {vs : List V} {Q : VK} {E : XK} (hr : Room (k + 1) A) (e0 : Env0 P w K mg base A outer s H)
    (hb : BindsTo s (PySem.W.fnOf name qual params body scope dV kV doc pm an cdv ct) args (ps.zip us)) (r : Vals vs us) (hl : vs.length = ps.length)
    (hbody : Room k (A.deeper (envOfC qual scope s.heap.objs.size f cdv)) →
      ∃ t, PSs (cxOf CX P w K mg base N qual scope f cdv A outer s H E) body t ∧ t { nx := fun _ H' => Q .non H', rt := Q } (start N vs) H) :
    codeAny (model P w) A (.call (.ref f) args) (CR CX outer P w H s Q E) s := by
  have kin : K.In s.heap := e0.mod.kin.keeps fun b o e => (e0.bs b o e).1
  have nolim : s.heap.NoLimit := e0.mod.nolimit.keeps fun b o e => (e0.bs b o e).1
  have kinds : ∀ y ∈ ps.zip us, scope.names.lookup y.1 = some .local ∨ (scope.names.lookup y.1 = some .cell ∧ ((cellsFrom (s.heap.objs.size + 1) scope.names []).lookup y.1).isSome = true) := by
    rintro ⟨n, v⟩ hy
    rcases S.par n (List.of_mem_zip hy).1 with q | q
    · exact .inl q
    · exact .inr ⟨q, PySem.W.cellsFrom_some _ _ _ (.inl q)⟩
  refine codeAny_call_function hr.depth (kin _ _ lk) rfl S.co S.gen rfl (PySem.W.codeRec_of kin hcd) (hb _ _ _ _ ?_)
  refine wpAny_newFunctionEnv_cells S.kind kinds fun env he s1 x => ?_
  subst he
  refine ⟨nolim.keeps x.toInCall.keep, codeAny_func ?_⟩
  obtain ⟨t, ht, hq⟩ := hbody (hr.deeper _)
  have I : Inv (cxOf CX P w K mg base N qual scope f cdv A outer s H E) [] (start N vs) H s1 := inv_start S hr.hd e0 hl r x
  refine wpAny_mono (ht.run [] s1 (start N vs) H _ I hq) (fun fl s' hs => ?_) fun e s' hs => hs
  cases fl with
  | ret u =>
    obtain ⟨v, σ', H', J, rv, q⟩ := hs
    exact ⟨v, H', J.os, J.bare, J.base, J.hok, rv, q⟩
  | next =>
    obtain ⟨σ', H', J, q⟩ := hs
    exact ⟨V.non, H', J.os, J.bare, J.base, J.hok, rfl, q⟩
  | brk => exact hs.elim fun _ hs => hs.elim fun _ hs => False.elim hs.2
  | cont => exact hs.elim fun _ hs => hs.elim fun _ hs => False.elim hs.2
/-- as Fun.okX, for a def that shows things -/
theorem okG {x qual : Str} {st : Stmt} {f : Addr} {fd : FuncData} {N ps : List Str} {k : Nat} {sp : Sp} (F : Fun K x qual st f fd) (S : FnScope N ps (defScope st)) (len : ∀ vs H Q E, sp vs H Q E → vs.length = ps.length)
    (hbody : ∀ (cdv : Value) (A : Around) (outer : List Env) (s : Shared) (H : Hp) (vs : List V) (Q : VK) (E : XK), (A.deeper (envOfC qual (defScope st) s.heap.objs.size f cdv)).guards = some [] →
      Room k (A.deeper (envOfC qual (defScope st) s.heap.objs.size f cdv)) → sp vs H Q E →
      ∃ t, PSs (cxOf CX P w K mg base N qual (defScope st) f cdv A outer s H E) (defBody st) t ∧ t { nx := fun _ H' => Q .non H', rt := Q } (start N vs) H) : FnG P w K mg base CX (k + 1) f fd ps sp := by
  obtain ⟨oc, od, kV, doc, pm, an, cdv, ct, osl, rfl, lk, hcd⟩ := F.ex
  exact ⟨len, fun A outer s H args us vs Q E hg hr e0 hb r hsp => fn_at lk hcd S hr e0 hb r (len _ _ _ _ hsp) fun hr1 => hbody cdv A outer s H vs Q E (deeper_guards hg) hr1 hsp⟩
/-- .. nothing leaves it -/
theorem okG0 {x qual : Str} {st : Stmt} {f : Addr} {fd : FuncData} {N ps : List Str} {k : Nat} {sp : Sp} (F : Fun K x qual st f fd) (S : FnScope N ps (defScope st)) (len : ∀ vs H Q E, sp vs H Q E → vs.length = ps.length)
    (hbody : ∀ (cdv : Value) (A : Around) (outer : List Env) (s : Shared) (H : Hp) (vs : List V) (Q : VK) (E : XK), (A.deeper (envOfC qual (defScope st) s.heap.objs.size f cdv)).guards = some [] →
      Room k (A.deeper (envOfC qual (defScope st) s.heap.objs.size f cdv)) → sp vs H Q E →
      ∃ t, PSs (cxOf CX0 P w K mg base N qual (defScope st) f cdv A outer s H E).nox (defBody st) t ∧ t { nx := fun _ H' => Q .non H', rt := Q } (start N vs) H) : FnG P w K mg base CX0 (k + 1) f fd ps sp :=
  okG F S len fun cdv A outer s H vs Q E hg hr hsp => by
    obtain ⟨t, h, q⟩ := hbody cdv A outer s H vs Q E hg hr hsp
    exact ⟨t, h.nox, q⟩
end
section
variable {X : Cx} {CX : CXT} {k : Nat} {f : Addr} {fd : FuncData} {ps : List Str} {sp : Sp} {dvs : List V} {ds : List Value} {E : XK} {x : Str} {p pos : Pos} {e : Expr} {es : List Expr} {t : TA}
theorem run_g {pins : List (Addr × Obj)} {σ : L2.St} {H : Hp} {s : Shared} {Q : VK} {us : List Value} {vs : List V} (F : FnG X.prog X.w X.K X.mg X.base CX k f fd ps sp) (hgd : X.A.guards = some []) (hr : Room k X.A)
    (hb : Binds X.K fd ps ds) (hd : Vals dvs ds) (hx : Passes CX X E) (I : Inv X pins σ H s) (r : Vals vs us) (h : sp (vs ++ dvs) H Q E) : wpAny (model X.prog X.w) X.A (call (.ref f) us) (EP X pins σ Q) X.xe s := by
  have r2 := r.append hd
  have lens : (us ++ ds).length = ps.length := r2.length.symm.trans (F.len _ _ _ _ h)
  refine wpAny_call (codeAny_mono (F.run X.A X.stack s H ⟨us, []⟩ _ _ Q E hgd hr I.env0 (hb s us I.kIn lens) r2 h) fun r s' hq => ?_)
  match r, hq with
  | .error e, hq => exact hx pins σ H s e s' I hq
  | .ok (.ret u), hq => exact I.after hq
theorem pe_callG (F : FnG X.prog X.w X.K X.mg X.base CX k f fd ps sp) (hgd : X.A.guards = some []) (hr : Room k X.A) (hg : Gl X x) (hm : X.mg x = some (.ref f)) (hk : PySem.W.keepIn X.K (.ref f) = true) (hb : Binds X.K fd ps ds) (hd : Vals dvs ds)
    (hx : Passes CX X E) (ha : PA X (e :: es) t) (hdb : (x == ("__debug__" : Str)) = false := by decide) (he : starEach (e :: es) X.env = (false, eval e X.env) :: starEach es X.env := by rfl)
    (hpl : (backTo pos (starEach es X.env)).any (·.1) = false := by rfl) : PE X (.Call (.Name x p) (e :: es) [] pos) (tCall sp dvs E t) := by
  refine ⟨fun pins s σ H Q I h => ?_⟩
  refine wpAny_Call_Name_kw (ld_glob I hg hm ?_ hdb)
  exact PySem.W.callWith_K (h₀ := X.base) I.ok.mod.kin hk (thn (ha.run pos pins s σ H _ I h) fun us s1 ⟨vs, H1, I1, r, q⟩ => ⟨I1.kIn, run_g F hgd hr hb hd hx I1 r q⟩) he hpl
end
/-! ### repr of data -/
def rRepr (K : PySem.W.Frag) : List V → Hp → VK → Prop := fun xs H Q => ∃ (x : V) (d : PyData), xs = [x] ∧ Dp K H x d ∧ d.showable = true ∧ d.hasDict = false ∧ d.shown.length ≤ sizeLine ∧ d.depth ≤ 100 ∧ Q (.str d.shown) H
theorem call_reprD {X : Cx} (hgd : X.A.guards = some []) (hu : X.A.units + 120 < cLine) : CallR X (.builtin "repr") (rRepr X.K) := by
  intro pins s σ H xs us Q I r h
  obtain ⟨x, d, rfl, hd, h1, h2, h3, h4, q⟩ := h
  obtain ⟨u, rfl, ru⟩ := vals1 r
  obtain ⟨as, rd⟩ := Dp.reads I d x u hd ru
  have fin : ∀ (hp' : Heap) (t tk : Tok), (∀ b o, s.heap.get? b = some o → hp'.get? b = some o) → EP X pins σ Q (.str d.shown t) { s with heap := hp', toks := tk } := fun hp' t tk k => ⟨.str d.shown, H, I.kept (t' := tk) k, ⟨t, rfl⟩, q⟩
  cases hd with
  | non =>
    obtain rfl : u = Value.none := ru
    exact PySem.P.repr_of_none (fin s.heap _ _ fun _ _ e => e)
  | bl b =>
    obtain rfl : u = Value.bool b := ru
    exact PySem.P.repr_of_bool (fin s.heap _ _ fun _ _ e => e)
  | int i =>
    obtain ⟨t, rfl⟩ := (show ∃ t, u = Value.int i t from ru)
    exact PySem.P.repr_of_int (by simpa [PyData.showable] using h1) (fin s.heap _ _ fun _ _ e => e)
  | str y =>
    obtain ⟨t, rfl⟩ := (show ∃ t, u = Value.str y t from ru)
    exact PySem.P.repr_of_str (fin s.heap _ _ fun _ _ e => e) (by simpa [PyData.shown] using h3)
  | lst hq hs =>
    rename_i a vs ds
    obtain rfl : u = Value.ref a := ru
    exact repr_of_reads' rd h1 (fun z => by rw [h2] at z; cases z) hgd (by omega) (fun _ _ e => e) (fun h' u tk k => fin h' u tk k) h3
  | tup hq hs =>
    rename_i a vs ds
    obtain rfl : u = Value.ref a := ru
    exact repr_of_reads' rd h1 (fun z => by rw [h2] at z; cases z) hgd (by omega) (fun _ _ e => e) (fun h' u tk k => fin h' u tk k) h3
theorem boot_repr : bootBuiltins "repr" = some (.builtin "repr") := by decide +kernel
/-- repr(e), e data; K is told (within a comprehension it must not lean on the block) -/
theorem pe_repr {X : Cx} (K : PySem.W.Frag) {e : Expr} {te : TE} {p pos : Pos} (hgd : X.A.guards = some []) (hu : X.A.units + 120 < cLine) (hm : X.mg "repr" = none) (hg : Gl X "repr") (ha : PE X e te)
    (hs : starEach [e] X.env = (false, eval e X.env) :: starEach [] X.env := by rfl) (hK : X.K = K := by rfl) : PE X (.Call (.Name "repr" p) [e] [] pos) (tCB (rRepr K) (tCons te tNil)) := by
  subst hK
  exact pe_callB (call_reprD hgd hu) hg hm boot_repr (pa_cons ha pa_nil hs) (by decide) (by decide) hs rfl
theorem room_show {k : Nat} {A : Around} (r : Room k A) : A.units + 120 < cLine := by
  have := r.un
  omega
end SL

/-! The end of a law's row for a law that shows things. -/
namespace SL
open PySem PySem.Spec PyProof.Rows L2
section
variable {P : Program} {w : World} {K : PySem.W.Frag} {mg mb : Str → Option Value} {CX : CXT} {k : Nat} {fa a : Addr} {fd : FuncData} {x : Str} {sp : Sp} {s₁ : Shared} {vs : List Value} {ns : List Int}
/-- what a law's call leaves -/
abbrev Gone (s₁ : Shared) (r : Result) (s' : Shared) : Prop := r = .ok (.ret (.bool true)) ∧ OldK s₁.heap s'.heap ∧ s'.os = s₁.os ∧ AllBare s'.gens
theorem law_from {H : Hp} (KX : K.In s₁.heap) (hns : s₁.heap.Ns mainGlobals mg) (hb : s₁.heap.Ns builtinsNs mb) (hbb : ∀ x : Str, x ≠ "__name__" → mb x = bootBuiltins x) (hlim : s₁.heap.NoLimit) (hg : s₁.gens = #[])
    (ha : s₁.heap.get? a = some { cls := .type "list", data := .seq vs.toArray }) (hr : Room k callerA)
    (F : ∀ base : Heap, K.In base → base.Ns mainGlobals mg → FnG P w K mg base CX k fa fd [x] sp) (hbind : ∀ (s : Shared) (u : Value), BindsTo s fd ⟨[u], []⟩ [(x, u)])
    (hsp : sp [.ref a] H (fun v _ => v = .bl true) fun _ _ _ => False) (hCX : ∀ H e s', CX [] H s₁ (fun _ _ _ => False) e s' → False)
    (only : Only H) (hok : HOk P w H s₁.heap) (just : ∀ b, H b ≠ none → b = a) (notK : H a ≠ none → K.lookup a = none) :
    codeAny (model P w) callerA (.call (.ref fa) ⟨[.ref a], []⟩) (Gone s₁) s₁ := by
  have isA : ∀ {b : Addr} {u : HO}, H b = some u → b = a := fun {b u} q => just b (by rw [q]; simp)
  have lay : ∀ {b : Addr} {o : Obj}, s₁.heap.get? b = some o → H b = none → (hidT s₁.heap H).get? b = some o := fun e n => hidT_get e n
  have noD : ∀ {b : Addr} {o : Obj} {es : Array DictEntry} {ep : Nat}, s₁.heap.get? b = some o → o.data = .dict es ep → H b = none := by
    intro b o es ep e d
    cases q : H b with
    | none => rfl
    | some u =>
      have z := isA q
      subst z
      rw [ha] at e
      cases e
      exact absurd (show Data.seq vs.toArray _ = Data.dict es ep from d) (fun y => by cases y)
  have nsl : ∀ {b : Addr} {m : Str → Option Value}, s₁.heap.Ns b m → (hidT s₁.heap H).Ns b m := fun {b m} ⟨o, es, ep, e, d, r⟩ => ⟨o, es, ep, lay e (noD e d), d, r⟩
  have kin : K.In (hidT s₁.heap H) := fun b o e => lay (KX b o e) (by
    cases q : H b with
    | none => rfl
    | some u =>
      have z := isA q
      subst z
      rw [notK (by rw [q]; simp)] at e
      cases e)
  have md : Mod K mg (hidT s₁.heap H) := ⟨kin, nsl hns, ⟨mb, nsl hb, hbb⟩, let ⟨mc, h1, h2⟩ := hlim; ⟨mc, nsl h1, h2⟩⟩
  have e0 : Env0 P w K mg (hidT s₁.heap H) callerA [] s₁ H :=
    ⟨rfl, md, fun b o e => of_hidT e, Nat.le_of_eq (hidT_size _ _), trivial, fun b hb => absurd (show b ∈ ([] : List Addr) from hb) (by simp), hok, .of_eq hg⟩
  have core := (F _ kin (nsl hns)).run callerA [] s₁ H ⟨[.ref a], []⟩ [.ref a] [.ref a] _ _ rfl hr e0 (hbind s₁ (.ref a)) (.cons rfl .nil) hsp
  refine codeAny_mono core fun r s' h => ?_
  match r, h with
  | .error e, h => exact (hCX H e s' h).elim
  | .ok (.ret u), h =>
    obtain ⟨v, H', os, bare, un, hok', r', q⟩ := h
    obtain rfl : v = .bl true := q
    obtain rfl : u = Value.bool true := r'
    refine ⟨rfl, OldK.of_keep fun b o e => ?_, os, bare⟩
    cases q : H b with
    | none => exact un.keep b o e q (fun z => absurd (show b ∈ ([] : List Addr) from z) (by simp)) (by simp)
    | some u =>
      rcases only b with z | ⟨ob, xs, z⟩
      · rw [q] at z
        cases z
      · have e1 := (hok b _ z).1
        have e2 := (hok' b _ (un.frzs b ob _ z)).1
        rw [e] at e1
        cases e1
        exact e2
theorem law_callG (KX : K.In s₁.heap) (hns : s₁.heap.Ns mainGlobals mg) (hb : s₁.heap.Ns builtinsNs mb) (hbb : ∀ x : Str, x ≠ "__name__" → mb x = bootBuiltins x) (hlim : s₁.heap.NoLimit) (hg : s₁.gens = #[])
    (ha : s₁.heap.get? a = some { cls := .type "list", data := .seq vs.toArray }) (hi : IntsAre vs ns) (hl : ns.length ≤ sizeLine) (hr : Room k callerA)
    (F : ∀ base : Heap, K.In base → base.Ns mainGlobals mg → FnG P w K mg base CX k fa fd [x] sp) (hbind : ∀ (s : Shared) (u : Value), BindsTo s fd ⟨[u], []⟩ [(x, u)])
    (hsp : ∀ H : Hp, Only H → SqL K H a (ns.map V.int) → sp [.ref a] H (fun v _ => v = .bl true) fun _ _ _ => False) (hCX : ∀ H e s', CX [] H s₁ (fun _ _ _ => False) e s' → False) :
    codeAny (model P w) callerA (.call (.ref fa) ⟨[.ref a], []⟩) (Gone s₁) s₁ := by
  have rv := vals_ints hi
  have lv := hi.length
  cases hk : K.lookup a with
  | some o =>
    have e := KX a o hk
    rw [ha] at e
    cases e
    have none_ : ∀ (b : Addr) (u : HO), (fun _ => none : Hp) b = some u → False := fun b u z => by
      have z' : (none : Option HO) = some u := z
      cases z'
    exact law_from (H := fun _ => none) KX hns hb hbb hlim hg ha hr F hbind
      (hsp _ (fun _ => .inl rfl) (.inr ⟨_, vs.toArray, _, hk, rfl, rfl, rfl, by rw [List.size_toArray, lv]; exact hl, by simpa using rv⟩)) hCX
      (fun _ => .inl rfl) (fun b u z => (none_ b u z).elim) (fun b z => absurd rfl z) (fun z => absurd rfl z)
  | none =>
    let H : Hp := fun b => if b = a then some (.frz { cls := .type "list", data := .seq vs.toArray } (.lst (ns.map V.int))) else none
    have at_ : H a = some (.frz { cls := .type "list", data := .seq vs.toArray } (.lst (ns.map V.int))) := if_pos rfl
    have off : ∀ b, b ≠ a → H b = none := fun b hb => if_neg hb
    have onl : Only H := fun b => by
      by_cases hb : b = a
      · exact .inr ⟨_, _, if_pos hb⟩
      · exact .inl (off b hb)
    refine law_from (H := H) KX hns hb hbb hlim hg ha hr F hbind (hsp _ onl (.inl (.inr ⟨_, at_⟩))) hCX onl (fun b u z => ?_) (fun b z => ?_) fun _ => hk
    · by_cases hb : b = a
      · subst hb
        rw [at_] at z
        cases z
        exact ⟨ha, by rw [List.length_map]; exact hl, vs, _, rv, ha⟩
      · rw [off b hb] at z
        cases z
    · by_cases hb : b = a
      · exact hb
      · exact absurd (off b hb) z
end
theorem walk_ofG {l : PySem.W.OpenLaw} {n k : Nat} {q : Program} {loose : List Str} {XP : (Str → Option Value) → Heap → Prop} {YP : World → Heap → Prop} {d : DefRec} {K : Params → PySem.W.Frag} {CX : World → CXT} {sp : World → Sp} {x : Str}
    (hn : l.most = some n) (hn2 : n ≤ sizeLine) (hdf : d.params.defaults = []) (hr : Room k callerA) (hY : ∀ (w : World) (h : Heap), YP w h → (K w.params).In h)
    (F : ∀ (w : World) (mg : Str → Option Value) (fa : Addr) (h : Heap), (K w.params).In h → h.Ns mainGlobals mg → mg d.name = some (.ref fa) →
      ∃ fd : FuncData, (∀ (s : Shared) (u : Value), BindsTo s fd ⟨[u], []⟩ [(x, u)]) ∧
        ∀ base : Heap, (K w.params).In base → base.Ns mainGlobals mg → FnG l.prog w (K w.params) mg base (CX w) k fa fd [x] (sp w))
    (hsp : ∀ (w : World) (H : Hp) (a : Addr) (ns : List Int), ns.length ≤ n → (∀ z ∈ ns, Builtin.Int.intBits z ≤ 1048576) → Only H → SqL (K w.params) H a (ns.map V.int) → sp w [.ref a] H (fun v _ => v = .bl true) fun _ _ _ => False)
    (hCX : ∀ (w : World) (H : Hp) (s : Shared) (e : Value) (s' : Shared), CX w [] H s (fun _ _ _ => False) e s' → False) :
    PySem.W.WalkO q loose XP YP l.row.toRowW d [] (fun f vs => PySem.call f vs) :=
  Att.attach_callB hn hdf fun w s₀ s₁ mg mb fa o pm cd doc a vs ns G Y ho hd hcd hmg hobj hints hlen hbits hg => by
    have KX := hY w _ Y
    obtain ⟨fd, hb, hF⟩ := F w mg fa _ KX G.T.g hmg
    exact law_callG KX G.T.g G.T.b G.T.builtins G.T.nolimit hg hobj hints (Nat.le_trans hlen hn2) hr hF hb (fun H hO hS => hsp w H a ns hlen hbits hO hS) fun H e s' => hCX w H s₁ e s'
end SL

/-! Comprehensions whose elements leave the heap as it is; slices; small things. -/
namespace SL
open PySem PySem.Spec PyProof.Rows L2
theorem take_fm {α β : Type} {f : α → Option β} {xs : List α} {i : Nat} {x : α} (hx : xs[i]? = some x) : (xs.take (i + 1)).filterMap f = (xs.take i).filterMap f ++ (f x).toList := by
  rw [List.take_add_one, hx, List.filterMap_append]
  cases h : f x <;> simp [h]
theorem fm_put {xs : List V} {f : V → Option V} {H1 : Hp} {D : Addr} {i : Nat} {x y : V} (hx : xs[i]? = some x) (hy : f x = some y) (hz : xs.length < sizeLine) :
    ∃ acc, (upd H1 D (.lst ((xs.take i).filterMap f))) D = some (.lst acc) ∧ acc.length < sizeLine ∧ upd (upd H1 D (.lst ((xs.take i).filterMap f))) D (.lst (acc ++ [y])) = upd H1 D (.lst ((xs.take (i + 1)).filterMap f)) := by
  refine ⟨_, upd_same, ?_, ?_⟩
  · refine Nat.lt_of_le_of_lt (List.length_filterMap_le ..) (Nat.lt_of_le_of_lt ?_ hz)
    rw [List.length_take]
    omega
  · rw [upd_upd, take_fm hx, hy]
    rfl
theorem fm_skip {xs : List V} {f : V → Option V} {H1 : Hp} {D : Addr} {i : Nat} {x : V} (hx : xs[i]? = some x) (hy : f x = none) :
    upd H1 D (.lst ((xs.take i).filterMap f)) = upd H1 D (.lst ((xs.take (i + 1)).filterMap f)) := by
  rw [take_fm hx, hy]
  simp
/-- a comprehension over a list: f x what comes of x, if anything -/
theorem lc_fm {K : PySem.W.Frag} {a : Addr} {xs : List V} {g : TG} {tt : TT} {te : TE} {vs : List Nat} {σ : L2.St} {H1 : Hp} {D : Addr} {Qd : Hp → Prop} (f : V → Option V) (hS : SqL K H1 a xs) (hD : H1 D = none)
    (hs : ∀ i x, xs[i]? = some x → g x (wipe σ vs) (upd H1 D (.lst ((xs.take i).filterMap f))) fun σ2 H2 => wipe σ2 vs = wipe σ vs ∧ tt σ2 H2 fun b H3 =>
      if b = true then te σ2 H3 fun y H4 => ∃ acc, H4 D = some (.lst acc) ∧ acc.length < sizeLine ∧ upd H4 D (.lst (acc ++ [y])) = upd H1 D (.lst ((xs.take (i + 1)).filterMap f))
      else H3 = upd H1 D (.lst ((xs.take (i + 1)).filterMap f)))
    (hd : Qd (upd H1 D (.lst (xs.filterMap f)))) :
    ∃ W : Nat → Nat → Hp → Prop, (∃ m, W 0 m (upd H1 D (.lst []))) ∧ ∀ i m H, W i m H →
      ((Itl K a).stop i H ∧ Qd H) ∨ ((Itl K a).go i H ∧ ∃ Nx : Hp → Prop, (∀ H', Nx H' → ∃ m', m' < m ∧ W (i + 1) m' H') ∧ ∀ x H', (Itl K a).yld i H x H' → g x (wipe σ vs) H' fun σ2 H2 => wipe σ2 vs = wipe σ vs ∧ tt σ2 H2 fun b H3 =>
        if b = true then te σ2 H3 fun y H4 => ∃ acc, H4 D = some (.lst acc) ∧ acc.length < sizeLine ∧ Nx (upd H4 D (.lst (acc ++ [y]))) else Nx H3) := by
  refine lc_list (K := K) (a := a) (xs := xs) (fun i H => H = upd H1 D (.lst ((xs.take i).filterMap f))) (by simp) ?_ ?_ ?_
  · rintro i H _ rfl
    rcases hS with (h | ⟨o, h⟩) | h
    · exact .inl (.inl (by rw [upd_ne (ne_of_none h hD)]; exact h))
    · exact .inl (.inr ⟨o, by rw [upd_ne (ne_of_none h hD)]; exact h⟩)
    · exact .inr h
  · rintro i x H hx rfl
    exact hs i x hx
  · rintro H rfl
    rw [List.take_length]
    exact hd
theorem sq_new {K : PySem.W.Frag} {H : Hp} {a p : Addr} {o : HO} {xs : List V} (h : SqL K H a xs) (hp : H p = none) : SqL K (upd H p o) a xs := by
  rcases h with (h | ⟨u, h⟩) | h
  · exact .inl (.inl (by rw [upd_ne (ne_of_none h hp)]; exact h))
  · exact .inl (.inr ⟨u, by rw [upd_ne (ne_of_none h hp)]; exact h⟩)
  · exact .inr h
theorem cut_from0 {xs : List V} {k : Nat} (h : xs.length ≤ k) : cutV xs (some 0) (some (k : Int)) = xs := by
  unfold cutV
  have e1 : HT.sIx xs.length 0 (some 0) = 0 := by
    rw [show (0 : Int) = ((0 : Nat) : Int) from rfl, HT.sIx_nat]
    omega
  have e2 : HT.sIx xs.length xs.length (some (k : Int)) = xs.length := by
    rw [HT.sIx_nat]
    omega
  rw [e1, e2]
  simp
/-- what stood stands, but for some -/
def SameBut (bs : List Addr) (H H' : Hp) : Prop := ∀ b o, H b = some o → b ∉ bs → H' b = some o
theorem SameBut.of {H H' : Hp} {bs : List Addr} (h : Same H H') : SameBut bs H H' := fun b o e _ => h b o e
theorem SameBut.refl {H : Hp} {bs : List Addr} : SameBut bs H H := fun _ _ e _ => e
theorem SameBut.trans {H H1 H2 : Hp} {bs : List Addr} (a : SameBut bs H H1) (b : SameBut bs H1 H2) : SameBut bs H H2 := fun c o e n => b c o (a c o e n) n
theorem SameBut.new {H H' : Hp} {bs : List Addr} {p : Addr} {o : HO} (a : SameBut bs H H') (hp : H' p = none) : SameBut bs H (upd H' p o) := fun c u e n => by
  rw [upd_ne (ne_of_none (a c u e n) hp)]
  exact a c u e n
theorem SameBut.put {H H' : Hp} {bs : List Addr} {p : Addr} {o : HO} (a : SameBut bs H H') (hp : p ∈ bs) : SameBut bs H (upd H' p o) := fun c u e n => by
  rw [upd_ne (fun z : c = p => n (by rw [z]; exact hp))]
  exact a c u e n
theorem SameBut.mono {H H' : Hp} {bs cs : List Addr} (a : SameBut bs H H') (h : ∀ b ∈ bs, b ∈ cs) : SameBut cs H H' := fun c u e n => a c u e fun z => n (h c z)
theorem Same.new {H : Hp} {p : Addr} {o : HO} (hp : H p = none) : Same H (upd H p o) := fun c u e => by
  rw [upd_ne (ne_of_none e hp)]
  exact e
/-- a statement, then a block: what holds between them -/
theorem seq_cut {t1 t2 : TS} {D : Ends} {σ : L2.St} {H : Hp} (I : L2.St → Hp → Prop) (h1 : ∀ D' : Ends, (∀ σ' H', I σ' H' → D'.nx σ' H') → D'.rt = D.rt → D'.bk = D.bk → D'.ct = D.ct → t1 D' σ H)
    (h2 : ∀ σ' H', I σ' H' → t2 D σ' H') : tSeq t1 t2 D σ H := h1 { D with nx := t2 D } h2 rfl rfl rfl
theorem dp_ints {K : PySem.W.Frag} {H : Hp} : ∀ zs : List Int, DpAll K H (zs.map V.int) (zs.map PyData.int)
  | [] => .nil
  | z :: r => .cons (.int z) (dp_ints r)
theorem canLay_ints : ∀ zs : List Int, PyData.canLayAll0 (zs.map PyData.int) = true
  | [] => rfl
  | z :: r => by
    show (_ && _) = true
    rw [canLay_ints r]
    rfl
theorem depth_ints : ∀ zs : List Int, PyData.depthAll (zs.map PyData.int) = 0
  | [] => rfl
  | z :: r => by
    show max _ _ = 0
    rw [depth_ints r]
    rfl
theorem shaped_ints (zs : List Int) : SeqAt.shaped (.list (zs.map PyData.int)) = true := by
  unfold SeqAt.shaped
  have e1 : (PyData.list (zs.map PyData.int)).canLay0 = true := canLay_ints zs
  have e2 : (PyData.list (zs.map PyData.int)).depth = 1 := by
    show PyData.depthAll _ + 1 = 1
    rw [depth_ints]
  rw [e1, e2]
  rfl
theorem eqv_ints_nil (zs : List Int) : PyData.eqv (.list (zs.map PyData.int)) (.list []) = zs.isEmpty := by
  cases zs <;> rfl
theorem int_at {ns : List Int} {i : Nat} {x : V} (h : (ns.map V.int)[i]? = some x) : ∃ z, x = V.int z := by
  rw [List.getElem?_map] at h
  cases e : ns[i]? with
  | none => rw [e] at h; cases h
  | some z => rw [e] at h; exact ⟨z, (Option.some.inj h).symm⟩
end SL

namespace L01
open PySem L2 SL
def top (i : Nat) : Stmt := PySem.Challenge.pw_samelists_k01_errors_and_their_attribute.main.body.getD i (.Pass ⟨0, 0, 0, 0⟩)
abbrev sDeal : Stmt := top 12
abbrev sDraw : Stmt := top 13
def absI (i : Int) : Int := if 0 - i > i then 0 - i else i
theorem absI_nonneg (i : Int) : 0 ≤ absI i := by
  unfold absI
  split <;> omega
def absF : V → Option V := fun v => match v with
  | .int i => some (.int (if 0 - i > i then 0 - i else i))
  | _ => none
theorem absF_map (ns : List Int) : (ns.map V.int).filterMap absF = (ns.map absI).map V.int := by
  induction ns with
  | nil => rfl
  | cons n r ih =>
    rw [List.map_cons, List.filterMap_cons]
    show V.int (if 0 - n > n then 0 - n else n) :: _ = _
    rw [ih]
    rfl
def bigI (i : Int) : Bool := decide ((10 : Int) ^ (18 : Int).toNat ≤ i)
def bigF : V → Option V := fun v => match v with
  | .int i => if (10 : Int) ^ (18 : Int).toNat ≤ i then some (.int i) else none
  | _ => none
theorem bigF_map (ns : List Int) : (ns.map V.int).filterMap bigF = (ns.filter bigI).map V.int := by
  induction ns with
  | nil => rfl
  | cons n r ih =>
    rw [List.map_cons, List.filterMap_cons, List.filter_cons]
    by_cases h : (10 : Int) ^ (18 : Int).toNat ≤ n
    · have e : bigF (V.int n) = some (V.int n) := if_pos h
      rw [e, if_pos (show bigI n = true from decide_eq_true h), List.map_cons, ih]
    · have e : bigF (V.int n) = none := if_neg h
      rw [e, if_neg (show ¬ bigI n = true by unfold bigI; rw [decide_eq_false h]; exact Bool.false_ne_true), ih]
/-- the dealer: at d a list of the numbers still to be drawn from (at c) and of the last mixed one -/
def Deal (H : Hp) (d c : Addr) : Prop := d ≠ c ∧ ∃ (zs : List Int) (m : Int), H d = some (.lst [.ref c, .int m]) ∧ H c = some (.lst (zs.map V.int)) ∧ (∀ z ∈ zs, 0 ≤ z) ∧ zs.length ≤ 63 ∧ 0 ≤ m ∧ m < 2147483647
def spDeal (K : PySem.W.Frag) : Sp := fun vs H Q _ => ∃ (a : Addr) (ns : List Int), vs = [.ref a, .int 0] ∧ SqL K H a (ns.map V.int) ∧ ns.length ≤ 63 ∧
  ∀ d c H', Deal H' d c → H d = none → H c = none → Same H H' → Q (.ref d) H'
structure Nms (mg : Str → Option Value) : Prop where
  max : mg "max" = none
  int : mg "int" = none
section
variable {P : Program} {w : World} {K : PySem.W.Frag} {mg : Str → Option Value} {base : Heap}
abbrev nDeal : List Str := ["_law_script", "_law_base", "_law_cell", "_law_cells", "_law_mixed"]
theorem scDeal : FnScope nDeal ["_law_script", "_law_base"] (defScope sDeal) := ⟨rfl, rfl, rfl, by decide +kernel, rfl, by decide +kernel, by decide +kernel⟩
theorem ok_deal {f : Addr} {fd : FuncData} (F : Fun K "_law_deal" "_law_deal" sDeal f fd) (T : Nms mg) : FnOk P w K mg base CX0 1 f fd ["_law_script", "_law_base"] (spDeal K) := by
  refine F.ok scDeal (fun vs H Q E h => ?_) (fun cdv A outer s H vs Q E hr h => ?_)
  · obtain ⟨a, ns, rfl, _⟩ := h
    rfl
  · obtain ⟨a, ns, rfl, hS, hlen, k⟩ := h
    refine ⟨_, pss_cons (ps_setLc (i := 3) (own := [("_law_cell", 2)]) (g := gName 2) (tt := tYes) rfl scDeal.nd rfl rfl (sw_true rfl rfl rfl (by decide +kernel)) (pi_list (pe_slice sl_list (pv 0) (po_some (pv 1)) (po_some pe_int)))
        (blkOk_by (N := nDeal) (sc := defScope sDeal) (by decide +kernel)) (fun _ _ _ _ _ => pg_name (i := 2) scDeal.nd rfl (Or.inl rfl)) (fun _ _ _ _ _ => pts_nil)
        (fun _ _ _ _ _ => pe_callB (call_max2 rfl) (by rfl) T.max (by decide +kernel) (pa_cons (pv 2) (pa_cons (pe_op op_sub pe_int (pv 2)) pa_nil))))
      (pss_cons (ps_set (i := 4) scDeal.nd rfl (Or.inl rfl) (pe_op op_add pe_int (pe_op op_mul pe_int (pv 1))))
      (pss_cons (ps_for PassesOwn.never rfl (pi_list (pv 3)) (pg_name (i := 2) scDeal.nd rfl (Or.inl rfl))
        (pss_one (ps_set (i := 4) scDeal.nd rfl (Or.inl rfl) (pe_op op_mod (pe_callTy call_int1 (by rfl) T.int (by decide +kernel) (pa_cons (pe_op op_add (pe_op op_mul (pv 4) pe_int) (pe_op op_mod (pe_callTy call_int1 (by rfl) T.int (by decide +kernel) (pa_cons (pv 2) pa_nil)) pe_int)) pa_nil)) pe_int))))
      (pss_one (ps_ret (pe_lst (pa_cons (pe_revL (pe_lc (own := [("_law_cell", 2)]) (g := gName 2) rfl scDeal.nd (pi_list (pv 3)) (blkOk_by (N := nDeal) (sc := defScope sDeal) (by decide +kernel)) (fun _ _ _ _ _ => pg_name (i := 2) scDeal.nd rfl (Or.inl rfl))
          (fun _ _ _ _ _ => pts_one (pt_cmpR op_ge (pv 2) (pe_op op_pow pe_int pe_int) (nomark _))) (fun _ _ _ _ _ => pv 2))) (pa_cons (pv 4) pa_nil))))))), ?_⟩
    have nn : (ns.map V.int).length < sizeLine := by rw [List.length_map]; exact Nat.lt_of_le_of_lt hlen (by decide)
    have ec : cutV (ns.map V.int) (some 0) (some 63) = ns.map V.int := cut_from0 (k := 63) (by rw [List.length_map]; exact hlen)
    refine ⟨_, rfl, _, rfl, 0, rfl, 63, rfl, a, ns.map V.int, rfl, hS, fun p hp => ?_⟩
    rw [ec]
    refine ⟨p, rfl, ⟨_, SqL.of upd_same⟩, fun D hD => ?_⟩
    refine lc_fm (K := K) (a := p) (xs := ns.map V.int) absF (SqL.of upd_same) hD ?_ ?_
    · intro i x hx
      obtain ⟨z, rfl⟩ := int_at hx
      refine ⟨rfl, V.int z, rfl, V.int z, rfl, _, _, rfl, rfl, _, _, rfl, fm_put hx rfl nn⟩
    · rw [absF_map]
      have cz : ∀ z ∈ ns.map absI, 0 ≤ z := fun z hz => by
        obtain ⟨y, _, rfl⟩ := List.mem_map.mp hz
        exact absI_nonneg y
      have cl : (ns.map absI).length ≤ 63 := by rw [List.length_map]; exact hlen
      generalize ns.map absI = cs at cz cl
      have n2 : (cs.map V.int).length < sizeLine := by rw [List.length_map]; exact Nat.lt_of_le_of_lt cl (by decide)
      refine ⟨V.int 0, rfl, 11, 0, rfl, rfl, .inl ⟨by decide, by decide⟩, _, _, rfl, rfl, ?_⟩
      have s1 : Same H (upd (upd H p (.lst (ns.map V.int))) D (.lst (cs.map V.int))) := (Same.new hp).trans (Same.new hD)
      have nD : (upd (upd H p (.lst (ns.map V.int))) D (.lst (cs.map V.int))) D = some (.lst (cs.map V.int)) := upd_same
      generalize upd (upd H p (.lst (ns.map V.int))) D (.lst (cs.map V.int)) = G at s1 nD
      refine ⟨_, rfl, D, rfl, ⟨_, SqL.of nD⟩, for_list (K := K) (a := D) (xs := cs.map V.int) (fun i σ H' => H' = G ∧ ∃ m v, σ = [some (.ref a), some (.int 0), v, some (.ref D), some (.int m)] ∧ 0 ≤ m ∧ m < 2147483647)
        ⟨rfl, _, _, rfl, by decide, by decide⟩ (fun i σ H' _ h => by rw [h.1]; exact SqL.of nD) ?_ ?_⟩
      · rintro i y σ H' hi ⟨rfl, m, v, rfl, m0, m1⟩
        obtain ⟨z, rfl⟩ := int_at hi
        exact ⟨_, rfl, _, _, rfl, rfl, .inl ⟨by omega, by omega⟩, _, rfl, .inl ⟨_, rfl, _, _, rfl, rfl, (by show (0 : Int) < 2147483629; decide), _, _, rfl, rfl, .inl ⟨_, rfl, _, _, rfl, rfl, (by show (0 : Int) < 2147483647; decide), rfl, _, _, rfl,
          Int.emod_nonneg _ (by decide), Int.emod_lt_of_pos _ (by decide)⟩⟩⟩
      · rintro σ H' ⟨rfl, m, v, rfl, m0, m1⟩
        refine ⟨_, rfl, D, rfl, ⟨_, SqL.of nD⟩, fun D2 hD2 => ?_⟩
        refine lc_fm (K := K) (a := D) (xs := cs.map V.int) bigF (SqL.of nD) hD2 ?_ ?_
        · intro i x hx
          obtain ⟨z, rfl⟩ := int_at hx
          refine ⟨rfl, V.int z, rfl, 10, 18, rfl, rfl, ⟨by decide, by decide, by decide⟩, z, _, rfl, rfl, _, rfl, ?_⟩
          refine ite2 (fun hb => ?_) (fun hb => ?_)
          · exact ⟨_, rfl, fm_put hx (if_pos (of_decide_eq_true hb)) n2⟩
          · exact fm_skip hx (if_neg fun h => hb (decide_eq_true h))
        · rw [bigF_map]
          refine ⟨D2, _, rfl, SqL.of upd_same, fun q hq => ⟨_, rfl, by show 2 ≤ sizeLine; decide, fun d hd => ?_⟩⟩
          have s2 := (s1.trans (Same.new hD2)).trans (Same.new (o := .lst ((cs.filter bigI).map V.int).reverse) hq)
          refine k d q _ ⟨?_, (cs.filter bigI).reverse, m, upd_same, ?_, ?_, ?_, m0, m1⟩ (s2.free hd) ((s1.trans (Same.new hD2)).free hq) (s2.trans (Same.new hd))
          · intro e
            rw [e, upd_same] at hd
            cases hd
          · have nq : q ≠ d := fun e => by rw [← e, upd_same] at hd; cases hd
            rw [upd_ne nq, upd_same, List.map_reverse]
          · intro z hz
            exact cz z (List.mem_filter.mp (List.mem_reverse.mp hz)).1
          · rw [List.length_reverse]
            exact Nat.le_trans (List.length_filter_le ..) cl
/-! ### a draw -/
def DealAt (H : Hp) (d c : Addr) (zs : List Int) (m : Int) : Prop := d ≠ c ∧ H d = some (.lst [.ref c, .int m]) ∧ H c = some (.lst (zs.map V.int)) ∧ (∀ z ∈ zs, 0 ≤ z) ∧ zs.length ≤ 63 ∧ 0 ≤ m ∧ m < 2147483647
theorem DealAt.new {H : Hp} {d c p : Addr} {zs : List Int} {m : Int} {o : HO} (D : DealAt H d c zs m) (hp : H p = none) : DealAt (upd H p o) d c zs m := by
  obtain ⟨n, h1, h2, r⟩ := D
  exact ⟨n, by rw [upd_ne (ne_of_none h1 hp)]; exact h1, by rw [upd_ne (ne_of_none h2 hp)]; exact h2, r⟩
theorem Deal.at {H : Hp} {d c : Addr} : Deal H d c ↔ ∃ zs m, DealAt H d c zs m := by
  constructor
  · rintro ⟨n, zs, m, h1, h2, h3, h4, h5, h6⟩
    exact ⟨zs, m, n, h1, h2, h3, h4, h5, h6⟩
  · rintro ⟨zs, m, n, h1, h2, h3, h4, h5, h6⟩
    exact ⟨n, zs, m, h1, h2, h3, h4, h5, h6⟩
def spDraw : Sp := fun vs H Q _ => ∃ (d c : Addr) (n : Int), vs = [.ref d, .int n] ∧ 0 < n ∧ n.natAbs.log2 < 9000 ∧ Deal H d c ∧ ∀ r H', 0 ≤ r → r < n → Deal H' d c → SameBut [d, c] H H' → Q (.int r) H'
abbrev nDraw : List Str := ["_law_deal_here", "_law_many", "_law_left"]
theorem scDraw : FnScope nDraw ["_law_deal_here", "_law_many"] (defScope sDraw) := ⟨rfl, rfl, rfl, by decide +kernel, rfl, by decide +kernel, by decide +kernel⟩
theorem ok_draw {f : Addr} {fd : FuncData} (F : Fun K "_law_draw" "_law_draw" sDraw f fd) (T : Nms mg) : FnOk P w K mg base CX0 1 f fd ["_law_deal_here", "_law_many"] spDraw := by
  refine F.ok scDraw (fun vs H Q E h => ?_) (fun cdv A outer s H vs Q E hr h => ?_)
  · obtain ⟨d, c, n, rfl, _⟩ := h
    rfl
  · obtain ⟨d, c, n, rfl, n0, n9, hD, k⟩ := h
    obtain ⟨zs0, m0, hD⟩ := Deal.at.mp hD
    refine ⟨_, pss_cons (ps_while PassesOwn.never (PW.pt (pw_and (pt_cmpR (op_neD hr.units) (pe_ix ix_list (pv 0) pe_int (fun _ _ => rfl)) (pe_lst pa_nil) (nomark _))
          (pw_and1 (pt_cmpR op_eq (pe_ix ix_list (pe_ix ix_list (pv 0) pe_int (fun _ _ => rfl)) (pe_un un_neg pe_int) (fun _ _ => rfl)) pe_int (nomark _)))))
        (pss_one (ps_expr (pe_bm0 PySem.F.plainAttrs_list PySem.F.slot_list_pop PySem.F.type_list_pop mt_pop (pe_ix ix_list (pv 0) pe_int (fun _ _ => rfl))))))
      (pss_cons (ps_if (pt_cmpR (op_neD hr.units) (pe_ix ix_list (pv 0) pe_int (fun _ _ => rfl)) (pe_lst pa_nil) (nomark _))
        (pss_cons (ps_set (i := 2) scDraw.nd rfl (Or.inl rfl) (pe_bm0 PySem.F.plainAttrs_list PySem.F.slot_list_pop PySem.F.type_list_pop mt_pop (pe_ix ix_list (pv 0) pe_int (fun _ _ => rfl))))
          (pss_cons (ps_expr (pe_bm PySem.F.plainAttrs_list PySem.F.slot_list_append PySem.F.type_list_append mt_append (pe_ix ix_list (pv 0) pe_int (fun _ _ => rfl)) (pa_cons (pe_op op_fdivW (pv 2) (pv 1)) pa_nil)))
          (pss_one (ps_ret (pe_op op_mod (pe_callTy call_int1 (by rfl) T.int (by decide +kernel) (pa_cons (pv 2) pa_nil)) (pv 1)))))) pss_nil)
      (pss_cons (ps_asg (pe_op op_mod (pe_callTy call_int1 (by rfl) T.int (by decide +kernel) (pa_cons (pe_op op_mul (pe_ix ix_list (pv 0) pe_int (fun _ _ => rfl)) pe_int) pa_nil)) pe_int) (pg_sub (pv 0) pe_int set_list))
      (pss_one (ps_ret (pe_op op_mod (pe_callTy call_int1 (by rfl) T.int (by decide +kernel) (pa_cons (pe_op op_fdiv (pe_ix ix_list (pv 0) pe_int (fun _ _ => rfl)) pe_int) pa_nil)) (pv 1)))))), ?_⟩
    have nx : ∀ (zs : List Int), V.ref c = V.ref c := fun _ => rfl
    refine seq_cut (fun σ H' => σ = [some (.ref d), some (.int n), none] ∧ SameBut [d, c] H H' ∧ ∃ zs m, DealAt H' d c zs m) (fun D' hnx _ _ _ => ?_) ?_
    · refine ⟨fun j σ H' => σ = [some (.ref d), some (.int n), none] ∧ SameBut [d, c] H H' ∧ ∃ zs m, DealAt H' d c zs m ∧ zs.length = j, ⟨_, rfl, SameBut.refl, zs0, m0, hD, rfl⟩, ?_⟩
      rintro j σ H1 ⟨rfl, s1, zs, m, hD1, rfl⟩
      refine ⟨_, rfl, d, _, 0, .ref c, rfl, rfl, SqL.of hD1.2.1, atI_nat (j := 0) rfl, Nat.zero_le _, fun p hp => ?_⟩
      have hD2 := hD1.new (o := .lst []) hp
      refine ⟨_, .list [], .lst (SqL.of hD2.2.2.1) (dp_ints zs), .lst (SqL.of upd_same) .nil, shaped_ints zs, rfl, _, rfl, ?_⟩
      rw [eqv_ints_nil]
      have s2 := s1.new (o := .lst []) hp
      generalize upd H1 p (.lst []) = G at hD2 s2
      obtain ⟨ndc, h1, h2, hz, hl, b0, b1⟩ := id hD2
      rcases List.eq_nil_or_concat zs with e | ⟨ys, z, e⟩
      · subst e
        exact hnx _ _ ⟨rfl, s2, _, _, hD2⟩
      · rw [List.concat_eq_append] at e
        subst e
        have em : (ys ++ [z]).map V.int = ys.map V.int ++ [V.int z] := by simp
        have ne : (!(ys ++ [z]).isEmpty) = true := by cases ys <;> rfl
        rw [ne]
        refine iteT ⟨_, rfl, d, _, 0, .ref c, rfl, rfl, SqL.of h1, atI_nat (j := 0) rfl, 1, rfl, c, _, -1, .int z, rfl, rfl, SqL.of h2, ?_, rfl, _, rfl, ?_⟩
        · rw [em]
          exact atI_last _ _
        · refine ite2 (fun _ => ?_) (fun _ => ?_)
          · refine ⟨_, fun σ' H' q => q, _, rfl, d, _, 0, .ref c, rfl, rfl, SqL.of h1, atI_nat (j := 0) rfl, .inl ⟨rfl, _, SqL.of h2⟩, c, _, .int z, rfl, rfl, h2, ?_, ?_⟩
            · rw [em]
              simp
            · refine ⟨ys.length, by simp, rfl, s2.put (by simp), ys, m, ⟨ndc, ?_, ?_, fun y hy => hz y (by simp [hy]), ?_, b0, b1⟩, rfl⟩
              · rw [upd_ne ndc]
                exact h1
              · rw [upd_same, em, List.dropLast_concat]
              · rw [List.length_append, List.length_singleton] at hl
                omega
          · exact hnx _ _ ⟨rfl, s2, _, _, hD2⟩
    · rintro σ H1 ⟨rfl, s1, zs, m, hD1⟩
      refine ⟨_, rfl, d, _, 0, .ref c, rfl, rfl, SqL.of hD1.2.1, atI_nat (j := 0) rfl, Nat.zero_le _, fun p hp => ?_⟩
      have hD2 := hD1.new (o := .lst []) hp
      refine ⟨_, .list [], .lst (SqL.of hD2.2.2.1) (dp_ints zs), .lst (SqL.of upd_same) .nil, shaped_ints zs, rfl, _, rfl, ?_⟩
      rw [eqv_ints_nil]
      have s2 := s1.new (o := .lst []) hp
      generalize upd H1 p (.lst []) = G at hD2 s2
      obtain ⟨ndc, h1, h2, hz, hl, b0, b1⟩ := id hD2
      rcases List.eq_nil_or_concat zs with e | ⟨ys, z, e⟩
      · subst e
        refine iteF ?_
        refine ⟨_, rfl, d, _, 1, .int m, rfl, rfl, SqL.of h1, atI_nat (j := 1) rfl, _, _, rfl, rfl, .inl ⟨by omega, by omega⟩, .inl ⟨_, rfl, _, _, rfl, rfl, (by show (0 : Int) < 2147483647; decide), ?_⟩⟩
        refine ⟨_, rfl, d, _, 1, 1, rfl, rfl, h1, by rfl, ?_⟩
        have q0 : 0 ≤ m * 48271 % 2147483647 := Int.emod_nonneg _ (by decide)
        have q1 : m * 48271 % 2147483647 < 2147483647 := Int.emod_lt_of_pos _ (by decide)
        refine ⟨_, rfl, d, _, 1, .int (m * 48271 % 2147483647), rfl, rfl, SqL.of upd_same, atI_nat (j := 1) rfl, _, _, rfl, rfl, ⟨by decide, by decide⟩, .inl ⟨_, rfl, _, rfl, _, _, rfl, rfl, n0, ?_⟩⟩
        exact k _ _ (Int.emod_nonneg _ (by omega)) (Int.emod_lt_of_pos _ n0) ⟨ndc, [], m * 48271 % 2147483647, upd_same, by rw [upd_ne ndc.symm]; exact h2, (fun z hz => by cases hz), Nat.zero_le _, q0, q1⟩ (s2.put (by simp))
      · rw [List.concat_eq_append] at e
        subst e
        have em : (ys ++ [z]).map V.int = ys.map V.int ++ [V.int z] := by simp
        have ne : (!(ys ++ [z]).isEmpty) = true := by cases ys <;> rfl
        rw [ne]
        refine iteT ⟨_, rfl, d, _, 0, .ref c, rfl, rfl, SqL.of h1, atI_nat (j := 0) rfl, .inl ⟨rfl, _, SqL.of h2⟩, c, _, .int z, rfl, rfl, h2, by rw [em]; simp, ?_⟩
        rw [em, List.dropLast_concat]
        have z0 : 0 ≤ z := hz z (by simp)
        have ly : ys.length < 63 := by rw [List.length_append, List.length_singleton] at hl; omega
        have s3 := s2.put (o := .lst (ys.map V.int)) (p := c) (by simp)
        have h1' : (upd G c (.lst (ys.map V.int))) d = some (.lst [.ref c, .int m]) := by rw [upd_ne ndc]; exact h1
        have h2' : (upd G c (.lst (ys.map V.int))) c = some (.lst (ys.map V.int)) := upd_same
        generalize upd G c (.lst (ys.map V.int)) = G2 at s3 h1' h2'
        refine ⟨_, rfl, d, _, 0, .ref c, rfl, rfl, SqL.of h1', atI_nat (j := 0) rfl, .inl ⟨rfl, _, SqL.of h2'⟩, _, rfl, _, rfl, z, n, rfl, rfl, ⟨n0, n9⟩, c, _, _, rfl, rfl, h2', ?_, ?_⟩
        · rw [List.length_map]
          exact Nat.lt_of_lt_of_le ly (by decide)
        · refine ⟨_, rfl, .inl ⟨_, rfl, _, rfl, _, _, rfl, rfl, n0, ?_⟩⟩
          refine k _ _ (Int.emod_nonneg _ (by omega)) (Int.emod_lt_of_pos _ n0) ⟨ndc, ys ++ [z / n], m, ?_, ?_, ?_, ?_, b0, b1⟩ (s3.put (by simp))
          · rw [upd_ne ndc]
            exact h1'
          · rw [upd_same]
            simp
          · intro y hy
            rcases List.mem_append.mp hy with hy | hy
            · exact hz y (by simp [hy])
            · rw [List.mem_singleton.mp hy]
              exact Int.ediv_nonneg z0 (by omega)
          · rw [List.length_append, List.length_singleton]
            omega
end
end L01

/-! Drawn values of any kind: the data. -/
namespace L01
open PySem L2 SL
/-- what _law_any may give with n levels left -/
inductive Any : Nat → PyData → Prop
  | non (n : Nat) : Any n .none
  | int (n : Nat) (i : Int) (h : i.natAbs < 2 ^ 70) : Any n (.int i)
  | bl (n : Nat) (b : Bool) : Any n (.bool b)
  | str (n : Nat) (x : Str) (h : (reprText x).length ≤ 12) : Any n (.str x)
  | lst (n : Nat) (ds : List PyData) (hl : ds.length ≤ 3) (h : ∀ d ∈ ds, Any n d) : Any (n + 1) (.list ds)
  | tup (n : Nat) (ds : List PyData) (hl : ds.length ≤ 3) (h : ∀ d ∈ ds, Any n d) : Any (n + 1) (.tuple ds)
  | one (n : Nat) (ds : List PyData) (hl : ds.length ≤ 3) (h : ∀ d ∈ ds, Any n d) : Any (n + 1) (.list [.list ds])
def most : Nat → Nat
  | 0 => 100
  | n + 1 => 9 * most n + 200
theorem most_pos (n : Nat) : 100 ≤ most n := by
  cases n with
  | zero => exact Nat.le_refl _
  | succ n => show 100 ≤ 9 * most n + 200; omega
structure Shows (d : PyData) (dep len : Nat) : Prop where
  sh : d.showable = true
  nd : d.hasDict = false
  dp : d.depth ≤ dep
  ln : d.shown.length ≤ len
theorem all_shows {dep len : Nat} : ∀ ds : List PyData, (∀ d ∈ ds, Shows d dep len) → PyData.showableAll ds = true ∧ PyData.hasDictAll ds = false ∧ PyData.depthAll ds ≤ dep ∧ ((PyData.shownAll ds).map (·.length)).sum ≤ ds.length * len ∧ (PyData.shownAll ds).length = ds.length
  | [], _ => ⟨rfl, rfl, Nat.zero_le _, Nat.zero_le _, rfl⟩
  | d :: r, h => by
    obtain ⟨h1, h2, h3, h4, h5⟩ := all_shows r fun x hx => h x (List.mem_cons_of_mem _ hx)
    have k := h d List.mem_cons_self
    refine ⟨?_, ?_, ?_, ?_, ?_⟩
    · show (_ && _) = true
      rw [k.sh, h1]
      rfl
    · show (_ || _) = false
      rw [k.nd, h2]
      rfl
    · show max _ _ ≤ dep
      exact Nat.max_le.mpr ⟨k.dp, h3⟩
    · show (((PyData.shown d) :: PyData.shownAll r).map (·.length)).sum ≤ (r.length + 1) * len
      rw [List.map_cons, List.sum_cons, Nat.add_mul, Nat.one_mul]
      have := k.ln
      omega
    · show (PyData.shownAll r).length + 1 = r.length + 1
      rw [h5]
theorem list_shows {dep len : Nat} {ds : List PyData} (hl : ds.length ≤ 3) (h : ∀ d ∈ ds, Shows d dep len) : Shows (.list ds) (dep + 1) (3 * len + 20) := by
  obtain ⟨h1, h2, h3, h4, h5⟩ := all_shows ds h
  refine ⟨h1, h2, Nat.succ_le_succ h3, ?_⟩
  have e := listText_len_le (PyData.shownAll ds)
  have e2 : ds.length * len ≤ 3 * len := Nat.mul_le_mul_right _ hl
  show (listText (PyData.shownAll ds)).length ≤ _
  omega
theorem tuple_shows {dep len : Nat} {ds : List PyData} (hl : ds.length ≤ 3) (h : ∀ d ∈ ds, Shows d dep len) : Shows (.tuple ds) (dep + 1) (3 * len + 20) := by
  obtain ⟨h1, h2, h3, h4, h5⟩ := all_shows ds h
  refine ⟨h1, h2, Nat.succ_le_succ h3, ?_⟩
  have e := tupleText_len_le (PyData.shownAll ds)
  have e2 : ds.length * len ≤ 3 * len := Nat.mul_le_mul_right _ hl
  show (tupleText (PyData.shownAll ds)).length ≤ _
  omega
theorem Shows.mono {d : PyData} {a b x y : Nat} (h : Shows d a x) (h1 : a ≤ b) (h2 : x ≤ y) : Shows d b y := ⟨h.sh, h.nd, Nat.le_trans h.dp h1, Nat.le_trans h.ln h2⟩
theorem log_lt {i : Int} {k : Nat} (h : i.natAbs < 2 ^ k) (hk : 0 < k) : i.natAbs.log2 < k := PySem.Flt.log2_lt_of hk h
theorem int_shows {i : Int} (h : i.natAbs < 2 ^ 70) : Shows (.int i) 0 71 := by
  have hl := log_lt h (by decide)
  refine ⟨decide_eq_true (by omega), rfl, Nat.le_refl _, ?_⟩
  have e := int_text_length_le (k := 70) (by decide) hl
  show (Str.ofString (toString i)).length ≤ 71
  rw [ofString_length]
  omega
theorem any_shows : ∀ {n : Nat} {d : PyData}, Any n d → Shows d (2 * n) (most n) := by
  intro n d h
  induction h with
  | non n => exact ⟨rfl, rfl, Nat.zero_le _, Nat.le_trans (by decide) (most_pos n)⟩
  | int n i h => exact (int_shows h).mono (Nat.zero_le _) (Nat.le_trans (by decide) (most_pos n))
  | bl n b => exact ⟨rfl, rfl, Nat.zero_le _, Nat.le_trans (by cases b <;> decide) (most_pos n)⟩
  | str n x h => exact ⟨rfl, rfl, Nat.zero_le _, Nat.le_trans h (Nat.le_trans (by decide) (most_pos n))⟩
  | lst n ds hl h ih => exact (list_shows hl ih).mono (by omega) (by show _ ≤ 9 * most n + 200; omega)
  | tup n ds hl h ih => exact (tuple_shows hl ih).mono (by omega) (by show _ ≤ 9 * most n + 200; omega)
  | one n ds hl h ih =>
    have e := list_shows hl ih
    refine (list_shows (ds := [.list ds]) (by show 1 ≤ 3; decide) (fun d hd => ?_)).mono (a := 2 * n + 1 + 1) (x := 3 * (3 * most n + 20) + 20) (by omega) (by show _ ≤ 9 * most n + 200; omega)
    rw [List.mem_singleton.mp hd]
    exact e
/-! ### what is new -/
/-- what of H' was not in H -/
def nw (H H' : Hp) : Hp := fun b => match H b with
  | none => H' b
  | some _ => none
theorem nw_of {H H' : Hp} {b : Addr} {o : HO} (h0 : H b = none) (h : H' b = some o) : nw H H' b = some o := by
  unfold nw
  rw [h0]
  exact h
theorem nw_inv {H H' : Hp} {b : Addr} {o : HO} (h : nw H H' b = some o) : H b = none ∧ H' b = some o := by
  unfold nw at h
  cases e : H b with
  | none =>
    rw [e] at h
    exact ⟨rfl, h⟩
  | some u =>
    rw [e] at h
    cases h
theorem nw_same {H H' : Hp} : Same (nw H H') H' := fun b o h => (nw_inv h).2
/-- later changes of what stood do not matter -/
theorem nw_but {H H' H2 : Hp} {bs : List Addr} (s : SameBut bs H' H2) (hb : ∀ b ∈ bs, H b ≠ none) : Same (nw H H') (nw H H2) := fun b o h => by
  obtain ⟨h0, h1⟩ := nw_inv h
  exact nw_of h0 (s b o h1 fun hm => hb b hm h0)
theorem nw_back {H H1 H2 : Hp} (h : ∀ b, H1 b = none → H b = none) : Same (nw H1 H2) (nw H H2) := fun b o e => by
  obtain ⟨h0, h1⟩ := nw_inv e
  exact nw_of (h b h0) h1
mutual
theorem Dp.mono {K : PySem.W.Frag} {H H' : Hp} (s : Same H H') : ∀ (d : PyData) (v : V), Dp K H v d → Dp K H' v d
  | .none, _, .non => .non
  | .bool b, _, .bl _ => .bl b
  | .int i, _, .int _ => .int i
  | .str x, _, .str _ => .str x
  | .list ds, _, .lst h hs => .lst (s.seq h) (DpAll.mono s ds _ hs)
  | .tuple ds, _, .tup h hs => .tup (by
      rcases h with (h | ⟨o, h⟩) | h
      · exact .inl (.inl (s _ _ h))
      · exact .inl (.inr ⟨o, s _ _ h⟩)
      · exact .inr h) (DpAll.mono s ds _ hs)
theorem DpAll.mono {K : PySem.W.Frag} {H H' : Hp} (s : Same H H') : ∀ (ds : List PyData) (vs : List V), DpAll K H vs ds → DpAll K H' vs ds
  | [], _, .nil => .nil
  | d :: ds, _, .cons h hs => .cons (Dp.mono s d _ h) (DpAll.mono s ds _ hs)
end
theorem dp_snoc {K : PySem.W.Frag} {H : Hp} {v : V} {d : PyData} : ∀ {vs : List V} {ds : List PyData}, DpAll K H vs ds → Dp K H v d → DpAll K H (vs ++ [v]) (ds ++ [d])
  | _, _, .nil, h => .cons h .nil
  | _, _, .cons a b, h => .cons a (dp_snoc b h)
theorem dp_len {K : PySem.W.Frag} {H : Hp} : ∀ {vs : List V} {ds : List PyData}, DpAll K H vs ds → vs.length = ds.length
  | _, _, .nil => rfl
  | _, _, .cons _ b => congrArg (· + 1) (dp_len b)
end L01

namespace L01
open PySem L2 SL
abbrev sAny : Stmt := top 14
/-- a def of the module: its promise, where it stands -/
structure Df (P : Program) (w : World) (K : PySem.W.Frag) (mg : Str → Option Value) (base : Heap) (k : Nat) (x : Str) (f : Addr) (fd : FuncData) (ps : List Str) (sp : Sp) : Prop where
  ok : FnOk P w K mg base CX0 k f fd ps sp
  gl : mg x = some (.ref f)
  kp : PySem.W.keepIn K (.ref f) = true
  bd : Binds K fd ps []
def spAny (K : PySem.W.Frag) (n : Nat) : Sp := fun vs H Q _ => ∃ (d c : Addr) (m : Nat), vs = [.ref d, .int (m : Int)] ∧ m < n ∧ Deal H d c ∧
  ∀ v D H', Any m D → Dp K (nw H H') v D → Deal H' d c → SameBut [d, c] H H' → Q v H'
theorem Deal.new {H : Hp} {d c p : Addr} {o : HO} (D : Deal H d c) (hp : H p = none) : Deal (upd H p o) d c := by
  obtain ⟨zs, m, D⟩ := Deal.at.mp D
  exact Deal.at.mpr ⟨zs, m, D.new hp⟩
theorem Deal.put {H : Hp} {d c p : Addr} {o : HO} (D : Deal H d c) (hd : p ≠ d) (hc : p ≠ c) : Deal (upd H p o) d c := by
  obtain ⟨n, zs, m, h1, h2, h3⟩ := D
  exact ⟨n, zs, m, by rw [upd_ne hd.symm]; exact h1, by rw [upd_ne hc.symm]; exact h2, h3⟩
theorem Deal.there {H : Hp} {d c : Addr} (D : Deal H d c) : ∀ b ∈ [d, c], H b ≠ none := by
  obtain ⟨n, zs, m, h1, h2, _⟩ := D
  intro b hb e
  simp at hb
  rcases hb with rfl | rfl
  · rw [h1] at e
    cases e
  · rw [h2] at e
    cases e
theorem Deal.same {H H' : Hp} {d c : Addr} (D : Deal H d c) (s : Same H H') : Deal H' d c := by
  obtain ⟨n, zs, m, h1, h2, h3⟩ := D
  exact ⟨n, zs, m, s _ _ h1, s _ _ h2, h3⟩
theorem two_in {d c L : Addr} : ∀ b ∈ [d, c], b ∈ [d, c, L] := fun b hb => by
  simp at hb ⊢
  rcases hb with h | h
  · exact .inl h
  · exact .inr (.inl h)
theorem free_of {H H' : Hp} {bs : List Addr} (s : SameBut bs H H') (h : ∀ b ∈ bs, H' b ≠ none) {p : Addr} (hp : H' p = none) : H p = none := by
  cases e : H p with
  | none => rfl
  | some o =>
    have n : p ∉ bs := fun hm => h p hm hp
    rw [s p o e n] at hp
    cases hp
structure Nm2 (mg : Str → Option Value) : Prop extends Nms mg where
  range : mg "range" = none
  tuple : mg "tuple" = none
section
variable {P : Program} {w : World} {K : PySem.W.Frag} {mg : Str → Option Value} {base : Heap}
abbrev nAny : List Str := ["_law_deal_here", "_law_deep", "_law_form", "_law_some", "_law_k"]
theorem scAny : FnScope nAny ["_law_deal_here", "_law_deep"] (defScope sAny) := ⟨rfl, rfl, rfl, by decide +kernel, rfl, by decide +kernel, by decide +kernel⟩
theorem step_any {f fD : Addr} {fd fdD : FuncData} {n : Nat} (F : Fun K "_law_any" "_law_any" sAny f fd) (T : Nm2 mg) (D : Df P w K mg base 1 "_law_draw" fD fdD ["_law_deal_here", "_law_many"] spDraw)
    (gl : mg "_law_any" = some (.ref f)) (bd : Binds K fd ["_law_deal_here", "_law_deep"] []) (ih : FnOk P w K mg base CX0 (n + 1) f fd ["_law_deal_here", "_law_deep"] (spAny K n)) :
    FnOk P w K mg base CX0 (n + 2) f fd ["_law_deal_here", "_law_deep"] (spAny K (n + 1)) := by
  refine F.ok scAny (fun vs H Q E h => ?_) (fun cdv A outer s H vs Q E hr h => ?_)
  · obtain ⟨d, c, m, rfl, _⟩ := h
    rfl
  · obtain ⟨d, c, m, rfl, hm, hD, k⟩ := h
    have hr1 : Room 1 _ := hr.mono (by omega)
    refine ⟨_, pss_cons (ps_set (i := 2) scAny.nd rfl (Or.inl rfl) (pe_call D.ok hr1 rfl D.gl D.kp D.bd .nil pass0 (pa_cons (pv 0) (pa_cons pe_int pa_nil))))
      (pss_cons (ps_if (PW.pt (pw_or (pt_cmpR op_lt (pv 2) pe_int (nomark _)) (pw_or1 (pt_cmpR op_eq (pv 1) pe_int (nomark _)))))
        (pss_one (ps_ret (pe_ix ix_list (pe_lst (pa_cons pe_non (pa_cons (pe_op op_sub (pe_call D.ok hr1 rfl D.gl D.kp D.bd .nil pass0 (pa_cons (pv 0) (pa_cons (pe_op op_pow pe_int pe_int) pa_nil))) (pe_op op_pow pe_int pe_int))
            (pa_cons (pe_cmpR op_eq (pe_call D.ok hr1 rfl D.gl D.kp D.bd .nil pass0 (pa_cons (pv 0) (pa_cons pe_int pa_nil))) pe_int (nomark _)) (pa_cons pe_str pa_nil)))))
          (pe_op op_mod (pe_callTy call_int1 (by rfl) T.int (by decide +kernel) (pa_cons (pv 2) pa_nil)) pe_int) (fun _ _ => rfl)))) pss_nil)
      (pss_cons (ps_if (pt_cmpR op_lt (pv 2) pe_int (nomark _))
        (pss_one (ps_ret (pe_ix ix_list (pe_lst (pa_cons pe_str (pa_cons pe_str pa_nil))) (pe_op op_mod (pe_callTy call_int1 (by rfl) T.int (by decide +kernel) (pa_cons (pv 2) pa_nil)) pe_int) (fun _ _ => rfl)))) pss_nil)
      (pss_cons (ps_setLc (i := 3) (own := [("_law_k", 4)]) (g := gName 4) (tt := tYes) rfl scAny.nd rfl rfl (sw_true rfl rfl rfl (by decide +kernel))
          (pi_range1 (by rfl) T.range (pa_cons (pe_call D.ok hr1 rfl D.gl D.kp D.bd .nil pass0 (pa_cons (pv 0) (pa_cons pe_int pa_nil))) pa_nil))
          (blkOk_by (N := nAny) (sc := defScope sAny) (by decide +kernel)) (fun _ _ _ _ _ => pg_name (i := 4) scAny.nd rfl (Or.inl rfl)) (fun _ _ _ _ _ => pts_nil)
          (fun _ _ _ _ _ => pe_call ih hr (by rfl) gl F.kp bd .nil pass0 (pa_cons (pv 0) (pa_cons (pe_op op_sub (pv 1) pe_int) pa_nil))))
      (pss_one (ps_ret (pe_ix ix_list (pe_lst (pa_cons (pv 3) (pa_cons (pe_callTy call_tuple_of (by rfl) T.tuple (by decide +kernel) (pa_cons (pv 3) pa_nil)) (pa_cons (pe_lst (pa_cons (pv 3) pa_nil)) pa_nil)))) (pe_op op_sub (pv 2) pe_int) (fun _ _ => rfl))))))), ?_⟩
    refine ⟨_, rfl, d, c, 9, rfl, by decide, by decide, hD, fun r H1 r0 r1 D1 s1 => ?_⟩
    have m6 : (m : Int) = 0 ∨ 0 < m := by omega
    refine ⟨_, rfl, _, _, rfl, rfl, _, rfl, ?_⟩
    refine ite2 (fun h4 => ?base1) (fun h4 => ⟨_, rfl, rfl, _, rfl, ?or2⟩)
    case' base1 => refine iteT ?_
    case' or2 => refine ite2 (fun h0 => ?base2) (fun h0 => ?rest)
    case rest =>
      have mp : 0 < m := by
        rcases m6 with z | z
        · exact absurd (decide_eq_true (congrArg V.int z)) h0
        · exact z
      have r4 : ¬ r < 4 := fun z => h4 (decide_eq_true z)
      refine ⟨_, rfl, _, _, rfl, rfl, _, rfl, ?_⟩
      refine ite2 (fun h6 => ?_) (fun h6 => ?_)
      · refine ⟨by show 2 ≤ sizeLine; decide, fun p hp => ⟨_, rfl, .inl ⟨_, rfl, _, _, rfl, rfl, (by show (0 : Int) < 2; decide), ?_⟩⟩⟩
        have st := s1.new (o := .lst [.str "a b", .str "kinds"]) hp
        have Dt := D1.new (o := .lst [.str "a b", .str "kinds"]) hp
        have cs : r % 2 = 0 ∨ r % 2 = 1 := by omega
        rcases cs with e | e
        · exact ⟨p, _, r % 2, .str "a b", rfl, rfl, SqL.of upd_same, by rw [e]; exact atI_nat (j := 0) rfl, k _ _ _ (.str m _ (by decide +kernel)) (.str _) Dt st⟩
        · exact ⟨p, _, r % 2, .str "kinds", rfl, rfl, SqL.of upd_same, by rw [e]; exact atI_nat (j := 1) rfl, k _ _ _ (.str m _ (by decide +kernel)) (.str _) Dt st⟩
      · have r6 : ¬ r < 6 := fun z => h6 (decide_eq_true z)
        refine ⟨_, rfl, d, c, 4, rfl, by decide, by decide, D1, fun q H2 q0 q1 D2 s2 => ⟨q, rfl, by omega, by omega, fun L hL => ?_⟩⟩
        have sH2 := s1.trans s2
        have L0 : H L = none := free_of sH2 (D2.there) hL
        have Ld : L ≠ d := fun e => D2.there d (by simp) (by rw [← e]; exact hL)
        have Lc : L ≠ c := fun e => D2.there c (by simp) (by rw [← e]; exact hL)
        have hHL : SameBut [d, c] H (upd H2 L (.lst [])) := sH2.new hL
        have HLL : (upd H2 L (.lst [])) L = some (.lst []) := upd_same
        have DHL : Deal (upd H2 L (.lst [])) d c := D2.new hL
        have inHL : ∀ b ∈ [d, c, L], (upd H2 L (.lst [])) b ≠ none := fun b hb e => by
          rcases List.mem_cons.mp hb with z | hb
          · exact DHL.there b (by rw [z]; simp) e
          · rcases List.mem_cons.mp hb with z | hb
            · exact DHL.there b (by rw [z]; simp) e
            · rw [List.mem_singleton.mp hb, HLL] at e
              cases e
        have dom : ∀ b, (upd H2 L (.lst [])) b = none → H b = none := fun b hb => free_of hHL DHL.there hb
        refine lc_range (lo := 0) (n := q.toNat) (fun i G => SameBut [d, c, L] (upd H2 L (.lst [])) G ∧ Deal G d c ∧ ∃ acc ds, G L = some (.lst acc) ∧ acc.length = i ∧ DpAll K (nw (upd H2 L (.lst [])) G) acc ds ∧ ∀ e ∈ ds, Any (m - 1) e)
          ⟨.refl, DHL, [], [], HLL, rfl, .nil, fun e he => by cases he⟩ ?_ ?_
        all_goals generalize upd H2 L (.lst []) = HL at hHL HLL DHL inHL dom
        · rintro i G hi ⟨sG, DG, acc, ds, hG, hlen, hds, hany⟩
          refine ⟨rfl, _, rfl, _, rfl, _, _, rfl, rfl, d, c, m - 1, ?_, by omega, DG, fun v Dv G2 a1 a2 a3 a4 => ?_⟩
          · show [V.ref d, V.int ((m : Int) - 1)] = [V.ref d, V.int (((m - 1 : Nat)) : Int)]
            rw [show (m : Int) - 1 = ((m - 1 : Nat) : Int) by omega]
          · have hG2 : G2 L = some (.lst acc) := a4 L _ hG (by simp [Ld, Lc])
            have inG : ∀ b ∈ [d, c, L], G b ≠ none := fun b hb e => by
              rcases List.mem_cons.mp hb with z | hb
              · exact DG.there b (by rw [z]; simp) e
              · rcases List.mem_cons.mp hb with z | hb
                · exact DG.there b (by rw [z]; simp) e
                · rw [List.mem_singleton.mp hb, hG] at e
                  cases e
            have up : SameBut [d, c, L] G2 (upd G2 L (.lst (acc ++ [v]))) := SameBut.refl.put (by simp)
            have a5 : SameBut [d, c, L] G G2 := a4.mono two_in
            refine ⟨acc, hG2, ?_, sG.trans (a5.trans up), a3.put Ld Lc, acc ++ [v], ds ++ [Dv], upd_same, by simp [hlen], ?_, ?_⟩
            · rw [hlen]
              exact Nat.lt_of_lt_of_le (show i < 4 by omega) (by decide)
            · refine dp_snoc (DpAll.mono (nw_but (a5.trans up) inHL) _ _ hds) (Dp.mono ((nw_back fun b hb => free_of sG inG hb).trans (nw_but up inHL)) _ _ a2)
            · intro e he
              rcases List.mem_append.mp he with he | he
              · exact hany e he
              · rw [List.mem_singleton.mp he]
                exact a1
        · rintro G ⟨sG, DG, acc, ds, hG, hlen, hds, hany⟩
          have hl3 : ds.length ≤ 3 := by
            rw [← dp_len hds, hlen]
            omega
          refine ⟨_, rfl, _, rfl, L, acc, rfl, .inl ⟨SqL.of hG, fun t ht => ⟨_, rfl, by show 1 ≤ sizeLine; decide, fun o ho => ⟨by show 3 ≤ sizeLine; decide, fun p hp => ⟨_, rfl, _, _, rfl, rfl, ?_⟩⟩⟩⟩⟩
          have u1 : Same G (upd G t (.tup acc)) := Same.new ht
          have u2 : Same (upd G t (.tup acc)) (upd (upd G t (.tup acc)) o (.lst [.ref L])) := Same.new ho
          have u3 : Same (upd (upd G t (.tup acc)) o (.lst [.ref L])) (upd (upd (upd G t (.tup acc)) o (.lst [.ref L])) p (.lst [.ref L, .ref t, .ref o])) := Same.new hp
          have ht2 : (upd (upd G t (.tup acc)) o (.lst [.ref L])) t = some (.tup acc) := u2 _ _ upd_same
          have ho2 : (upd (upd (upd G t (.tup acc)) o (.lst [.ref L])) p (.lst [.ref L, .ref t, .ref o])) o = some (.lst [.ref L]) := u3 _ _ upd_same
          have ht3 := u3 _ _ ht2
          have hp3 : (upd (upd (upd G t (.tup acc)) o (.lst [.ref L])) p (.lst [.ref L, .ref t, .ref o])) p = some (.lst [.ref L, .ref t, .ref o]) := upd_same
          have uu := (u1.trans u2).trans u3
          have sHG : SameBut [d, c] H G := fun b u e n => sG b u (hHL b u e n) (fun hm => by
            rcases List.mem_cons.mp hm with z | hm
            · exact n (by rw [z]; simp)
            · rcases List.mem_cons.mp hm with z | hm
              · exact n (by rw [z]; simp)
              · rw [List.mem_singleton.mp hm, L0] at e
                cases e)
          have t0 : H t = none := free_of sHG DG.there ht
          have o0 : H o = none := free_of sHG DG.there (u1.free ho)
          show rIxL _ _ _ (upd (upd (upd G t (.tup acc)) o (.lst [.ref L])) p (.lst [.ref L, .ref t, .ref o])) _
          generalize upd (upd (upd G t (.tup acc)) o (.lst [.ref L])) p (.lst [.ref L, .ref t, .ref o]) = Z at ho2 ht3 hp3 uu
          have dsZ : DpAll K (nw H Z) acc ds := DpAll.mono ((nw_back dom).trans (nw_but (bs := []) (SameBut.of uu) (fun b hb => by cases hb))) _ _ hds
          have LZ : Dp K (nw H Z) (.ref L) (.list ds) := .lst (SqL.of (nw_of L0 (uu _ _ hG))) dsZ
          have sZ : SameBut [d, c] H Z := sHG.trans (SameBut.of uu)
          have DZ : Deal Z d c := DG.same uu
          have mm : m = m - 1 + 1 := by omega
          have cs : r = 6 ∨ r = 7 ∨ r = 8 := by omega
          rcases cs with e | e | e
          · exact ⟨p, _, r - 6, .ref L, rfl, rfl, SqL.of hp3, by rw [e]; exact atI_nat (j := 0) rfl, k _ _ _ (by rw [mm]; exact .lst _ ds hl3 hany) LZ DZ sZ⟩
          · exact ⟨p, _, r - 6, .ref t, rfl, rfl, SqL.of hp3, by rw [e]; exact atI_nat (j := 1) rfl, k _ _ _ (by rw [mm]; exact .tup _ ds hl3 hany) (.tup (SqT.of (nw_of t0 ht3)) dsZ) DZ sZ⟩
          · exact ⟨p, _, r - 6, .ref o, rfl, rfl, SqL.of hp3, by rw [e]; exact atI_nat (j := 2) rfl, k _ _ _ (by rw [mm]; exact .one _ ds hl3 hany) (.lst (SqL.of (nw_of o0 ho2)) (.cons LZ .nil)) DZ sZ⟩
    all_goals
      have e20 : (10 : Int) ^ (20 : Int).toNat = 100000000000000000000 := by decide
      have e19 : (10 : Int) ^ (19 : Int).toNat = 10000000000000000000 := by decide
      refine ⟨_, rfl, 10, 20, rfl, rfl, ⟨by decide, by decide, by decide⟩, d, c, _, rfl, by decide +kernel, by decide +kernel, D1, fun r2 H2 r20 r21 D2 s2 => ?_⟩
      refine ⟨10, 19, rfl, rfl, ⟨by decide, by decide, by decide⟩, _, _, rfl, rfl, _, rfl, d, c, 2, rfl, by decide, by decide, D2, fun r3 H3 r30 r31 D3 s3 => ⟨rfl, by show 4 ≤ sizeLine; decide, fun p hp => ?_⟩⟩
      refine ⟨_, rfl, .inl ⟨_, rfl, _, _, rfl, rfl, (by show (0 : Int) < 4; decide), ?_⟩⟩
      rw [e20] at r21
      have st := ((s1.trans s2).trans s3).new (o := .lst [.non, .int (r2 - 10 ^ (19 : Int).toNat), .bl (decide (V.int r3 = V.int 0)), .str ""]) hp
      have Dt := D3.new (o := .lst [.non, .int (r2 - 10 ^ (19 : Int).toNat), .bl (decide (V.int r3 = V.int 0)), .str ""]) hp
      have cs : r % 4 = 0 ∨ r % 4 = 1 ∨ r % 4 = 2 ∨ r % 4 = 3 := by omega
      rcases cs with e | e | e | e
      · exact ⟨p, _, r % 4, .non, rfl, rfl, SqL.of upd_same, by rw [e]; exact atI_nat (j := 0) rfl, k _ _ _ (.non m) .non Dt st⟩
      · exact ⟨p, _, r % 4, .int (r2 - 10 ^ (19 : Int).toNat), rfl, rfl, SqL.of upd_same, by rw [e]; exact atI_nat (j := 1) rfl, k _ _ _ (.int m _ (by rw [e19, show (2 : Nat) ^ 70 = 1180591620717411303424 by decide]; omega)) (.int _) Dt st⟩
      · exact ⟨p, _, r % 4, .bl (decide (V.int r3 = V.int 0)), rfl, rfl, SqL.of upd_same, by rw [e]; exact atI_nat (j := 2) rfl, k _ _ _ (.bl m _) (.bl _) Dt st⟩
      · exact ⟨p, _, r % 4, .str "", rfl, rfl, SqL.of upd_same, by rw [e]; exact atI_nat (j := 3) rfl, k _ _ _ (.str m _ (by decide +kernel)) (.str _) Dt st⟩
end
end L01

/-! The own errors as values. -/
namespace SL
open PySem L2
/-- at e: an error of the class at C, with v in its f -/
def Ex1 (H : Hp) (e C : Addr) (f : Str) (v : V) : Prop := ∃ dx, H e = some (exo e C (some dx)) ∧ H dx = some (exd dx [(f, v)])
theorem Ex1.mono {H H' : Hp} {e C : Addr} {f : Str} {v : V} (x : Ex1 H e C f v) (s : Same H H') : Ex1 H' e C f v := x.elim fun dx h => ⟨dx, s _ _ h.1, s _ _ h.2⟩
def spEx (C : Addr) (f : Str) : Sp := fun vs H Q _ => ∃ (a : Addr) (v : V), vs = [.ref a, v] ∧ H a = some (exo a C none) ∧ ∀ H', Ex1 H' a C f v → (∀ b o, H b = some o → b ≠ a → H' b = some o) → Q .non H'
structure Exn (P : Program) (w : World) (K : PySem.W.Frag) (mg : Str → Option Value) (base : Heap) (C : Addr) (x f : Str) (fI : Addr) (fd : FuncData) : Prop where
  ox : OexC K C
  iC : PySem.W.findIn K (.ref C) "__init__" = some (some (.ref fI))
  tI : PySem.W.typeIn K (.ref fI) = some (.type "function")
  gl : mg x = some (.ref C)
  no : PySem.W.findIn K (.ref C) f = some none
  xf : XfC K C
  ec : ExcC K C
  fn : FnOk P w K mg base CX0 1 fI fd ["self", f] (spEx C f)
  b1 : EBn K fd ["self", f] 1 [] (fun us _ => us) (fun vs _ => vs)
  b2 : EBn K fd ["self", f] 0 [f] (fun _ ws => ws) (fun _ zs => zs)
/-- the maker's body, read -/
theorem rd_ost {K : PySem.W.Frag} {C a : Addr} {f : Str} {v : V} {H : Hp} {D : Ends} (T : OexC K C) (no : PySem.W.findIn K (.ref C) f = some none) (h : H a = some (exo a C none))
    (k : ∀ H', Ex1 H' a C f v → (∀ b o, H b = some o → b ≠ a → H' b = some o) → D.nx [some (.ref a), some v] H') : tOst K f (tVar 0) (tVar 1) D [some (.ref a), some v] H := by
  refine ⟨_, rfl, _, rfl, a, C, rfl, T, no, .inl ⟨h, fun dx hdx ne => k _ ⟨dx, upd_same, by rw [upd_ne ne, upd_same]⟩ fun b o e hb => ?_⟩⟩
  rw [upd_ne hb, upd_ne (ne_of_none e hdx)]
  exact e
theorem ex_same {H H' : Hp} {a : Addr} {o : HO} (hn : H a = none) (h : ∀ b u, (upd H a o) b = some u → b ≠ a → H' b = some u) : Same H H' := fun b u e => by
  have ne := ne_of_none e hn
  exact h b u (by rw [upd_ne ne]; exact e) ne
theorem rd_exv {C : Addr} {f : Str} {σ : L2.St} {H : Hp} {Q : VK} {v : V} {te : TE} (hv : ∀ R : V → Hp → Prop, R v H → te σ H R) (k : ∀ e H', H e = none → Ex1 H' e C f v → Same H H' → Q (.ref e) H') :
    tExv C 1 (spEx C f) (fun vs _ => vs) E0 (tCons te tNil) tNil σ H Q := by
  unfold tExv
  exact hv _ ⟨rfl, by decide, fun a ha => ⟨a, v, rfl, upd_same, fun H' x s => ⟨rfl, k a H' ha x (ex_same ha s)⟩⟩⟩
theorem rd_exk {C : Addr} {f : Str} {σ : L2.St} {H : Hp} {Q : VK} {v : V} {te : TE} (hv : ∀ R : V → Hp → Prop, R v H → te σ H R) (k : ∀ e H', H e = none → Ex1 H' e C f v → Same H H' → Q (.ref e) H') :
    tExv C 0 (spEx C f) (fun _ zs => zs) E0 tNil (fun σ H R => tCons te tNil σ H fun zs H1 => zs.length = [f].length ∧ R zs H1) σ H Q := by
  unfold tExv
  exact hv _ ⟨rfl, rfl, by decide, fun a ha => ⟨a, v, rfl, upd_same, fun H' x s => ⟨rfl, k a H' ha x (ex_same ha s)⟩⟩⟩
theorem ebn1 {K : PySem.W.Frag} {x qual : Str} {st : Stmt} {f : Addr} {fd : FuncData} {p : Str} (F : Fun K x qual st f fd)
    (h : ∀ (kV doc pm : Value) (an : Option Addr) (cdv ct u v : Value), bindArgs (PySem.W.fnOf x qual (defArgs st) (defBody st) (defScope st) .none kV doc pm an cdv ct) ⟨[u, v], []⟩ = pure ([("self", u), (p, v)] : List (Str × Value))) :
    EBn K fd ["self", p] 1 [] (fun us _ => us) (fun vs _ => vs) := by
  obtain ⟨oc, od, kV, doc, pm, an, cdv, ct, osl, rfl, lk, hcd⟩ := F.ex
  exact ⟨fun s a us ws _ l1 l2 => match us, ws, l1, l2 with | [u], [], _, _ => .of_eq (h kV doc pm an cdv ct (.ref a) u), fun r _ => r⟩
theorem ebn2 {K : PySem.W.Frag} {x qual : Str} {st : Stmt} {f : Addr} {fd : FuncData} {p : Str} (F : Fun K x qual st f fd)
    (h : ∀ (kV doc pm : Value) (an : Option Addr) (cdv ct u v : Value), bindArgs (PySem.W.fnOf x qual (defArgs st) (defBody st) (defScope st) .none kV doc pm an cdv ct) ⟨[u], [(p, v)]⟩ = pure ([("self", u), (p, v)] : List (Str × Value))) :
    EBn K fd ["self", p] 0 [p] (fun _ ws => ws) (fun _ zs => zs) := by
  obtain ⟨oc, od, kV, doc, pm, an, cdv, ct, osl, rfl, lk, hcd⟩ := F.ex
  exact ⟨fun s a us ws _ l1 l2 => match us, ws, l1, l2 with | [], [v], _, _ => .of_eq (h kV doc pm an cdv ct (.ref a) v), fun _ r => r⟩
end SL
namespace L01
open PySem L2 SL
section
variable {P : Program} {w : World} {K : PySem.W.Frag} {mg : Str → Option Value} {base : Heap}
abbrev sI0 : Stmt := inClass (top 2) 0
theorem scI0 : FnScope ["self", "word"] ["self", "word"] (defScope sI0) := ⟨rfl, rfl, rfl, by decide +kernel, rfl, by decide +kernel, by decide +kernel⟩
theorem ok_i0 {f C : Addr} {fd : FuncData} (F : Fun K "__init__" "InvalidRow.__init__" sI0 f fd) (T : OexC K C) (no : PySem.W.findIn K (.ref C) "word" = some none) : FnOk P w K mg base CX0 1 f fd ["self", "word"] (spEx C "word") := by
  refine F.ok scI0 (fun vs H Q E h => ?_) (fun cdv A outer s H vs Q E hr h => ?_)
  · obtain ⟨a, v, rfl, _⟩ := h
    rfl
  · obtain ⟨a, v, rfl, h1, k⟩ := h
    exact ⟨_, pss_one (ps_ost (pv 0) (pv 1)), rd_ost T no h1 k⟩
theorem bind1_0 {f : Addr} {fd : FuncData} (F : Fun K "__init__" "InvalidRow.__init__" sI0 f fd) : EBn K fd ["self", "word"] 1 [] (fun us _ => us) (fun vs _ => vs) := ebn1 F fun _ _ _ _ _ _ _ _ => rfl
theorem bind2_0 {f : Addr} {fd : FuncData} (F : Fun K "__init__" "InvalidRow.__init__" sI0 f fd) : EBn K fd ["self", "word"] 0 ["word"] (fun _ ws => ws) (fun _ zs => zs) := ebn2 F fun _ _ _ _ _ _ _ _ => rfl
abbrev sI1 : Stmt := inClass (top 3) 0
theorem scI1 : FnScope ["self", "at"] ["self", "at"] (defScope sI1) := ⟨rfl, rfl, rfl, by decide +kernel, rfl, by decide +kernel, by decide +kernel⟩
theorem ok_i1 {f C : Addr} {fd : FuncData} (F : Fun K "__init__" "InvalidText.__init__" sI1 f fd) (T : OexC K C) (no : PySem.W.findIn K (.ref C) "at" = some none) : FnOk P w K mg base CX0 1 f fd ["self", "at"] (spEx C "at") := by
  refine F.ok scI1 (fun vs H Q E h => ?_) (fun cdv A outer s H vs Q E hr h => ?_)
  · obtain ⟨a, v, rfl, _⟩ := h
    rfl
  · obtain ⟨a, v, rfl, h1, k⟩ := h
    exact ⟨_, pss_one (ps_ost (pv 0) (pv 1)), rd_ost T no h1 k⟩
theorem bind1_1 {f : Addr} {fd : FuncData} (F : Fun K "__init__" "InvalidText.__init__" sI1 f fd) : EBn K fd ["self", "at"] 1 [] (fun us _ => us) (fun vs _ => vs) := ebn1 F fun _ _ _ _ _ _ _ _ => rfl
theorem bind2_1 {f : Addr} {fd : FuncData} (F : Fun K "__init__" "InvalidText.__init__" sI1 f fd) : EBn K fd ["self", "at"] 0 ["at"] (fun _ ws => ws) (fun _ zs => zs) := ebn2 F fun _ _ _ _ _ _ _ _ => rfl
abbrev sI2 : Stmt := inClass (top 4) 0
theorem scI2 : FnScope ["self", "name"] ["self", "name"] (defScope sI2) := ⟨rfl, rfl, rfl, by decide +kernel, rfl, by decide +kernel, by decide +kernel⟩
theorem ok_i2 {f C : Addr} {fd : FuncData} (F : Fun K "__init__" "NoName.__init__" sI2 f fd) (T : OexC K C) (no : PySem.W.findIn K (.ref C) "name" = some none) : FnOk P w K mg base CX0 1 f fd ["self", "name"] (spEx C "name") := by
  refine F.ok scI2 (fun vs H Q E h => ?_) (fun cdv A outer s H vs Q E hr h => ?_)
  · obtain ⟨a, v, rfl, _⟩ := h
    rfl
  · obtain ⟨a, v, rfl, h1, k⟩ := h
    exact ⟨_, pss_one (ps_ost (pv 0) (pv 1)), rd_ost T no h1 k⟩
theorem bind1_2 {f : Addr} {fd : FuncData} (F : Fun K "__init__" "NoName.__init__" sI2 f fd) : EBn K fd ["self", "name"] 1 [] (fun us _ => us) (fun vs _ => vs) := ebn1 F fun _ _ _ _ _ _ _ _ => rfl
theorem bind2_2 {f : Addr} {fd : FuncData} (F : Fun K "__init__" "NoName.__init__" sI2 f fd) : EBn K fd ["self", "name"] 0 ["name"] (fun _ ws => ws) (fun _ zs => zs) := ebn2 F fun _ _ _ _ _ _ _ _ => rfl
abbrev sI3 : Stmt := inClass (top 5) 0
theorem scI3 : FnScope ["self", "at"] ["self", "at"] (defScope sI3) := ⟨rfl, rfl, rfl, by decide +kernel, rfl, by decide +kernel, by decide +kernel⟩
theorem ok_i3 {f C : Addr} {fd : FuncData} (F : Fun K "__init__" "NoRow.__init__" sI3 f fd) (T : OexC K C) (no : PySem.W.findIn K (.ref C) "at" = some none) : FnOk P w K mg base CX0 1 f fd ["self", "at"] (spEx C "at") := by
  refine F.ok scI3 (fun vs H Q E h => ?_) (fun cdv A outer s H vs Q E hr h => ?_)
  · obtain ⟨a, v, rfl, _⟩ := h
    rfl
  · obtain ⟨a, v, rfl, h1, k⟩ := h
    exact ⟨_, pss_one (ps_ost (pv 0) (pv 1)), rd_ost T no h1 k⟩
theorem bind1_3 {f : Addr} {fd : FuncData} (F : Fun K "__init__" "NoRow.__init__" sI3 f fd) : EBn K fd ["self", "at"] 1 [] (fun us _ => us) (fun vs _ => vs) := ebn1 F fun _ _ _ _ _ _ _ _ => rfl
theorem bind2_3 {f : Addr} {fd : FuncData} (F : Fun K "__init__" "NoRow.__init__" sI3 f fd) : EBn K fd ["self", "at"] 0 ["at"] (fun _ ws => ws) (fun _ zs => zs) := ebn2 F fun _ _ _ _ _ _ _ _ => rfl
abbrev sI4 : Stmt := inClass (top 8) 0
theorem scI4 : FnScope ["self", "at"] ["self", "at"] (defScope sI4) := ⟨rfl, rfl, rfl, by decide +kernel, rfl, by decide +kernel, by decide +kernel⟩
theorem ok_i4 {f C : Addr} {fd : FuncData} (F : Fun K "__init__" "Stops.__init__" sI4 f fd) (T : OexC K C) (no : PySem.W.findIn K (.ref C) "at" = some none) : FnOk P w K mg base CX0 1 f fd ["self", "at"] (spEx C "at") := by
  refine F.ok scI4 (fun vs H Q E h => ?_) (fun cdv A outer s H vs Q E hr h => ?_)
  · obtain ⟨a, v, rfl, _⟩ := h
    rfl
  · obtain ⟨a, v, rfl, h1, k⟩ := h
    exact ⟨_, pss_one (ps_ost (pv 0) (pv 1)), rd_ost T no h1 k⟩
theorem bind1_4 {f : Addr} {fd : FuncData} (F : Fun K "__init__" "Stops.__init__" sI4 f fd) : EBn K fd ["self", "at"] 1 [] (fun us _ => us) (fun vs _ => vs) := ebn1 F fun _ _ _ _ _ _ _ _ => rfl
theorem bind2_4 {f : Addr} {fd : FuncData} (F : Fun K "__init__" "Stops.__init__" sI4 f fd) : EBn K fd ["self", "at"] 0 ["at"] (fun _ ws => ws) (fun _ zs => zs) := ebn2 F fun _ _ _ _ _ _ _ _ => rfl
abbrev sI5 : Stmt := inClass (top 9) 0
theorem scI5 : FnScope ["self", "name"] ["self", "name"] (defScope sI5) := ⟨rfl, rfl, rfl, by decide +kernel, rfl, by decide +kernel, by decide +kernel⟩
theorem ok_i5 {f C : Addr} {fd : FuncData} (F : Fun K "__init__" "Guarded.__init__" sI5 f fd) (T : OexC K C) (no : PySem.W.findIn K (.ref C) "name" = some none) : FnOk P w K mg base CX0 1 f fd ["self", "name"] (spEx C "name") := by
  refine F.ok scI5 (fun vs H Q E h => ?_) (fun cdv A outer s H vs Q E hr h => ?_)
  · obtain ⟨a, v, rfl, _⟩ := h
    rfl
  · obtain ⟨a, v, rfl, h1, k⟩ := h
    exact ⟨_, pss_one (ps_ost (pv 0) (pv 1)), rd_ost T no h1 k⟩
theorem bind1_5 {f : Addr} {fd : FuncData} (F : Fun K "__init__" "Guarded.__init__" sI5 f fd) : EBn K fd ["self", "name"] 1 [] (fun us _ => us) (fun vs _ => vs) := ebn1 F fun _ _ _ _ _ _ _ _ => rfl
theorem bind2_5 {f : Addr} {fd : FuncData} (F : Fun K "__init__" "Guarded.__init__" sI5 f fd) : EBn K fd ["self", "name"] 0 ["name"] (fun _ ws => ws) (fun _ zs => zs) := ebn2 F fun _ _ _ _ _ _ _ _ => rfl
end
end L01

namespace L01
open PySem L2 SL
abbrev sMade : Stmt := top 15
abbrev sKeeps : Stmt := top 16
abbrev sFlags : Stmt := top 17
def Ex0 (H : Hp) (e C : Addr) : Prop := H e = some (exo e C none)
/-- the fifteen errors -/
def Made (C : Nat → Addr) (H : Hp) (v : V) (xs : List V) : Prop := ∃ e0 e1 e2 e3 e4 e5 e6 e7 e8 e9 e10 e11 e12 e13 e14 : Addr, xs = [.ref e0, .ref e1, .ref e2, .ref e3, .ref e4, .ref e5, .ref e6, .ref e7, .ref e8, .ref e9, .ref e10, .ref e11, .ref e12, .ref e13, .ref e14] ∧ Ex1 H e0 (C 0) "word" v ∧ Ex1 H e1 (C 0) "word" v ∧ Ex1 H e2 (C 1) "at" v ∧ Ex1 H e3 (C 1) "at" v ∧ Ex1 H e4 (C 2) "name" v ∧ Ex1 H e5 (C 2) "name" v ∧ Ex1 H e6 (C 3) "at" v ∧ Ex1 H e7 (C 3) "at" v ∧ Ex1 H e8 (C 4) "at" v ∧ Ex1 H e9 (C 4) "at" v ∧ Ex1 H e10 (C 5) "name" v ∧ Ex1 H e11 (C 5) "name" v ∧ Ex0 H e12 (C 6) ∧ Ex0 H e13 (C 7) ∧ Ex0 H e14 (C 8)
def spMade (C : Nat → Addr) : Sp := fun vs H Q _ => ∃ v, vs = [v] ∧ ∀ L xs H', H L = none → H' L = some (.lst xs) → Made C H' v xs → Same H H' → Q (.ref L) H'
def spKeeps (C : Nat → Addr) (K : PySem.W.Frag) : Sp := fun vs H Q _ => ∃ a xs v, vs = [.ref a] ∧ SqL K H a xs ∧ Made C H v xs ∧ ∀ L H', H L = none → H' L = some (.lst [v, v, v, v, v, v, v, v, v, v, v, v]) → Same H H' → Q (.ref L) H'
structure Exz (K : PySem.W.Frag) (mg : Str → Option Value) (C : Addr) (x : Str) : Prop where
  q : PySem.W.excIn K C [.type "ValueError", .type "Exception", .type "BaseException", .type "object"] "ValueError.__new__" = true
  gl : mg x = some (.ref C)
  kC : PySem.W.keepIn K (.ref C) = true
  ec : ExcC K C
section
variable {P : Program} {w : World} {K : PySem.W.Frag} {mg : Str → Option Value} {base : Heap}
/-- the nine classes -/
structure Nine (P : Program) (w : World) (K : PySem.W.Frag) (mg : Str → Option Value) (base : Heap) (C : Nat → Addr) : Prop where
  x0 : ∃ fI fd, Exn P w K mg base (C 0) "InvalidRow" "word" fI fd
  x1 : ∃ fI fd, Exn P w K mg base (C 1) "InvalidText" "at" fI fd
  x2 : ∃ fI fd, Exn P w K mg base (C 2) "NoName" "name" fI fd
  x3 : ∃ fI fd, Exn P w K mg base (C 3) "NoRow" "at" fI fd
  x4 : ∃ fI fd, Exn P w K mg base (C 4) "Stops" "at" fI fd
  x5 : ∃ fI fd, Exn P w K mg base (C 5) "Guarded" "name" fI fd
  z0 : Exz K mg (C 6) "NoItem"
  z1 : Exz K mg (C 7) "Frozen"
  z2 : Exz K mg (C 8) "InvalidCommand"
abbrev nMade : List Str := ["_law_a", "_law_some"]
theorem scMade : FnScope nMade ["_law_a"] (defScope sMade) := ⟨rfl, rfl, rfl, by decide +kernel, rfl, by decide +kernel, by decide +kernel⟩
theorem ok_made {f : Addr} {fd : FuncData} {C : Nat → Addr} (F : Fun K "_law_made" "_law_made" sMade f fd) (N : Nine P w K mg base C) : FnOk P w K mg base CX0 3 f fd ["_law_a"] (spMade C) := by
  obtain ⟨fI0, fd0, E0⟩ := N.x0
  obtain ⟨fI1, fd1, E1⟩ := N.x1
  obtain ⟨fI2, fd2, E2⟩ := N.x2
  obtain ⟨fI3, fd3, E3⟩ := N.x3
  obtain ⟨fI4, fd4, E4⟩ := N.x4
  obtain ⟨fI5, fd5, E5⟩ := N.x5
  refine F.ok scMade (fun vs H Q E h => ?_) (fun cdv A outer s H vs Q E hr h => ?_)
  · obtain ⟨v, rfl, _⟩ := h
    rfl
  · obtain ⟨v, rfl, k⟩ := h
    have hr2 : Room 2 _ := hr
    refine ⟨_, pss_cons (ps_set (i := 1) scMade.nd rfl (Or.inl rfl) (pe_lst (pa_cons (pe_exv E0.ox E0.iC E0.tI E0.fn hr2 (by rfl) E0.gl E0.b1 pass0 (pa_cons (pv 0) pa_nil)) (pa_cons (pe_exv0 E0.ox E0.iC E0.tI E0.fn hr2 (by rfl) E0.gl E0.b2 pass0 (pk_cons (pv 0) pk_nil)) (pa_cons (pe_exv E1.ox E1.iC E1.tI E1.fn hr2 (by rfl) E1.gl E1.b1 pass0 (pa_cons (pv 0) pa_nil)) (pa_cons (pe_exv0 E1.ox E1.iC E1.tI E1.fn hr2 (by rfl) E1.gl E1.b2 pass0 (pk_cons (pv 0) pk_nil)) (pa_cons (pe_exv E2.ox E2.iC E2.tI E2.fn hr2 (by rfl) E2.gl E2.b1 pass0 (pa_cons (pv 0) pa_nil)) (pa_cons (pe_exv0 E2.ox E2.iC E2.tI E2.fn hr2 (by rfl) E2.gl E2.b2 pass0 (pk_cons (pv 0) pk_nil)) pa_nil)))))))) (pss_cons (ps_set (i := 1) scMade.nd rfl (Or.inl rfl) (pe_op op_cat (pv 1) (pe_lst (pa_cons (pe_exv E3.ox E3.iC E3.tI E3.fn hr2 (by rfl) E3.gl E3.b1 pass0 (pa_cons (pv 0) pa_nil)) (pa_cons (pe_exv0 E3.ox E3.iC E3.tI E3.fn hr2 (by rfl) E3.gl E3.b2 pass0 (pk_cons (pv 0) pk_nil)) (pa_cons (pe_exv E4.ox E4.iC E4.tI E4.fn hr2 (by rfl) E4.gl E4.b1 pass0 (pa_cons (pv 0) pa_nil)) (pa_cons (pe_exv0 E4.ox E4.iC E4.tI E4.fn hr2 (by rfl) E4.gl E4.b2 pass0 (pk_cons (pv 0) pk_nil)) (pa_cons (pe_exv E5.ox E5.iC E5.tI E5.fn hr2 (by rfl) E5.gl E5.b1 pass0 (pa_cons (pv 0) pa_nil)) (pa_cons (pe_exv0 E5.ox E5.iC E5.tI E5.fn hr2 (by rfl) E5.gl E5.b2 pass0 (pk_cons (pv 0) pk_nil)) pa_nil))))))))) (pss_one (ps_ret (pe_op op_cat (pv 1) (pe_lst (pa_cons (pe_exn0 PySem.F.excBase_ValueError N.z0.q N.z0.gl N.z0.kC (by rfl)) (pa_cons (pe_exn0 PySem.F.excBase_ValueError N.z1.q N.z1.gl N.z1.kC (by rfl)) (pa_cons (pe_exn0 PySem.F.excBase_ValueError N.z2.q N.z2.gl N.z2.kC (by rfl)) pa_nil)))))))), ?_⟩
    refine rd_exv (fun R q => ⟨_, rfl, q⟩) fun e0 G0 n0 x0 s0 => ?_
    refine rd_exk (fun R q => ⟨_, rfl, q⟩) fun e1 G1 n1 x1 s1 => ?_
    refine rd_exv (fun R q => ⟨_, rfl, q⟩) fun e2 G2 n2 x2 s2 => ?_
    refine rd_exk (fun R q => ⟨_, rfl, q⟩) fun e3 G3 n3 x3 s3 => ?_
    refine rd_exv (fun R q => ⟨_, rfl, q⟩) fun e4 G4 n4 x4 s4 => ?_
    refine rd_exk (fun R q => ⟨_, rfl, q⟩) fun e5 G5 n5 x5 s5 => ?_
    refine ⟨by show 6 ≤ sizeLine; decide, fun p1 hp1 => ⟨_, rfl, ?_⟩⟩
    have t1 : Same G5 (upd G5 p1 (.lst [.ref e0, .ref e1, .ref e2, .ref e3, .ref e4, .ref e5])) := Same.new hp1
    have y1 : (upd G5 p1 (.lst [.ref e0, .ref e1, .ref e2, .ref e3, .ref e4, .ref e5])) p1 = some (.lst [.ref e0, .ref e1, .ref e2, .ref e3, .ref e4, .ref e5]) := upd_same
    refine rd_exv (fun R q => ⟨_, rfl, q⟩) fun e6 G6 n6 x6 s6 => ?_
    refine rd_exk (fun R q => ⟨_, rfl, q⟩) fun e7 G7 n7 x7 s7 => ?_
    refine rd_exv (fun R q => ⟨_, rfl, q⟩) fun e8 G8 n8 x8 s8 => ?_
    refine rd_exk (fun R q => ⟨_, rfl, q⟩) fun e9 G9 n9 x9 s9 => ?_
    refine rd_exv (fun R q => ⟨_, rfl, q⟩) fun e10 G10 n10 x10 s10 => ?_
    refine rd_exk (fun R q => ⟨_, rfl, q⟩) fun e11 G11 n11 x11 s11 => ?_
    refine ⟨by show 6 ≤ sizeLine; decide, fun p2 hp2 => ?_⟩
    have t2 := Same.new (o := .lst [.ref e6, .ref e7, .ref e8, .ref e9, .ref e10, .ref e11]) hp2
    have y2 : (upd G11 p2 (.lst [.ref e6, .ref e7, .ref e8, .ref e9, .ref e10, .ref e11])) p2 = some (.lst [.ref e6, .ref e7, .ref e8, .ref e9, .ref e10, .ref e11]) := upd_same
    have m5 := ((((s6.trans s7).trans s8).trans s9).trans s10).trans s11
    refine ⟨p1, p2, _, _, rfl, rfl, (m5.trans t2) _ _ y1, y2, by show 12 ≤ sizeLine; decide, fun p3 hp3 => ⟨_, rfl, ?_⟩⟩
    have t3 : Same (upd G11 p2 (.lst [.ref e6, .ref e7, .ref e8, .ref e9, .ref e10, .ref e11])) (upd (upd G11 p2 (.lst [.ref e6, .ref e7, .ref e8, .ref e9, .ref e10, .ref e11])) p3 (.lst [.ref e0, .ref e1, .ref e2, .ref e3, .ref e4, .ref e5, .ref e6, .ref e7, .ref e8, .ref e9, .ref e10, .ref e11])) := Same.new hp3
    have y3 : (upd (upd G11 p2 (.lst [.ref e6, .ref e7, .ref e8, .ref e9, .ref e10, .ref e11])) p3 (.lst [.ref e0, .ref e1, .ref e2, .ref e3, .ref e4, .ref e5, .ref e6, .ref e7, .ref e8, .ref e9, .ref e10, .ref e11])) p3 = some (.lst [.ref e0, .ref e1, .ref e2, .ref e3, .ref e4, .ref e5, .ref e6, .ref e7, .ref e8, .ref e9, .ref e10, .ref e11]) := upd_same
    show tCons _ _ _ (upd (upd G11 p2 (.lst [.ref e6, .ref e7, .ref e8, .ref e9, .ref e10, .ref e11])) p3 (.lst [.ref e0, .ref e1, .ref e2, .ref e3, .ref e4, .ref e5, .ref e6, .ref e7, .ref e8, .ref e9, .ref e10, .ref e11])) _
    generalize upd (upd G11 p2 (.lst [.ref e6, .ref e7, .ref e8, .ref e9, .ref e10, .ref e11])) p3 (.lst [.ref e0, .ref e1, .ref e2, .ref e3, .ref e4, .ref e5, .ref e6, .ref e7, .ref e8, .ref e9, .ref e10, .ref e11]) = Z at t3 y3
    intro e12 n12 e13 n13 e14 n14
    refine ⟨by show 3 ≤ sizeLine; decide, fun p4 hp4 => ⟨p3, p4, [.ref e0, .ref e1, .ref e2, .ref e3, .ref e4, .ref e5, .ref e6, .ref e7, .ref e8, .ref e9, .ref e10, .ref e11], _, rfl, rfl, ?_, upd_same, by show 15 ≤ sizeLine; decide, fun p5 hp5 => ?_⟩⟩
    all_goals
      have w12 := Same.new (o := exo e12 (C 6) none) n12
      have w13 := Same.new (o := exo e13 (C 7) none) n13
      have w14 := Same.new (o := exo e14 (C 8) none) n14
      have w15 := Same.new (o := .lst [.ref e12, .ref e13, .ref e14]) hp4
      have z14 := w15
      have z13 := w14.trans z14
      have z12 := w13.trans z13
      have zZ := w12.trans z12
    · exact zZ _ _ y3
    · have w16 := Same.new (o := .lst ([.ref e0, .ref e1, .ref e2, .ref e3, .ref e4, .ref e5, .ref e6, .ref e7, .ref e8, .ref e9, .ref e10, .ref e11] ++ [.ref e12, .ref e13, .ref e14])) hp5
      have f14 := z14.trans w16
      have f13 := z13.trans w16
      have f12 := z12.trans w16
      have fZ := zZ.trans w16
      have f11 := (t2.trans t3).trans fZ
      have f10 := s11.trans f11
      have f9 := s10.trans f10
      have f8 := s9.trans f9
      have f7 := s8.trans f8
      have f6 := s7.trans f7
      have f5 := t1.trans (s6.trans f6)
      have f4 := s5.trans f5
      have f3 := s4.trans f4
      have f2 := s3.trans f3
      have f1 := s2.trans f2
      have f0 := s1.trans f1
      have fH := s0.trans f0
      have np : H p5 = none := ((s0.trans (s1.trans (s2.trans (s3.trans (s4.trans (s5.trans (t1.trans (m5.trans (t2.trans (t3.trans zZ)))))))))).free hp5)
      exact k p5 _ _ np upd_same ⟨e0, e1, e2, e3, e4, e5, e6, e7, e8, e9, e10, e11, e12, e13, e14, rfl, x0.mono f0, x1.mono f1, x2.mono f2, x3.mono f3, x4.mono f4, x5.mono f5, x6.mono f6, x7.mono f7, x8.mono f8, x9.mono f9, x10.mono f10, x11.mono f11, f12 _ _ upd_same, f13 _ _ upd_same, f14 _ _ upd_same⟩ fH
end
end L01

namespace L01
open PySem L2 SL
theorem lookup_one {f : Str} {v : V} : ([(f, v)] : List (Str × V)).lookup f = some v := by simp [List.lookup]
theorem Ex0.mono {H H' : Hp} {e C : Addr} (x : Ex0 H e C) (s : Same H H') : Ex0 H' e C := s _ _ x
theorem Made.mono {C : Nat → Addr} {H H' : Hp} {v : V} {xs : List V} (x : Made C H v xs) (s : Same H H') : Made C H' v xs := by
  obtain ⟨e0, e1, e2, e3, e4, e5, e6, e7, e8, e9, e10, e11, e12, e13, e14, ex, x0, x1, x2, x3, x4, x5, x6, x7, x8, x9, x10, x11, x12, x13, x14⟩ := x
  exact ⟨e0, e1, e2, e3, e4, e5, e6, e7, e8, e9, e10, e11, e12, e13, e14, ex, x0.mono s, x1.mono s, x2.mono s, x3.mono s, x4.mono s, x5.mono s, x6.mono s, x7.mono s, x8.mono s, x9.mono s, x10.mono s, x11.mono s, s _ _ x12, s _ _ x13, s _ _ x14⟩
section
variable {P : Program} {w : World} {K : PySem.W.Frag} {mg : Str → Option Value} {base : Heap}
abbrev nKeeps : List Str := ["_law_errors", "_law_found"]
theorem scKeeps : FnScope nKeeps ["_law_errors"] (defScope sKeeps) := ⟨rfl, rfl, rfl, by decide +kernel, rfl, by decide +kernel, by decide +kernel⟩
theorem ok_keeps {f : Addr} {fd : FuncData} {C : Nat → Addr} (F : Fun K "_law_keeps" "_law_keeps" sKeeps f fd) (N : Nine P w K mg base C) : FnOk P w K mg base CX0 1 f fd ["_law_errors"] (spKeeps C K) := by
  obtain ⟨fI0, fd0, E0⟩ := N.x0
  obtain ⟨fI1, fd1, E1⟩ := N.x1
  obtain ⟨fI2, fd2, E2⟩ := N.x2
  obtain ⟨fI3, fd3, E3⟩ := N.x3
  obtain ⟨fI4, fd4, E4⟩ := N.x4
  obtain ⟨fI5, fd5, E5⟩ := N.x5
  refine F.ok scKeeps (fun vs H Q E h => ?_) (fun cdv A outer s H vs Q E hr h => ?_)
  · obtain ⟨a, xs, v, rfl, _⟩ := h
    rfl
  · obtain ⟨a, xs, v, rfl, hS, M, k⟩ := h
    refine ⟨_, pss_cons (ps_set (i := 1) scKeeps.nd rfl (Or.inl rfl) (pe_lst (pa_cons (pe_exa (pe_ix ix_list (pv 0) pe_int (fun _ _ => rfl))) (pa_cons (pe_exa (pe_ix ix_list (pv 0) pe_int (fun _ _ => rfl))) (pa_cons (pe_exa (pe_ix ix_list (pv 0) pe_int (fun _ _ => rfl))) (pa_cons (pe_exa (pe_ix ix_list (pv 0) pe_int (fun _ _ => rfl))) (pa_cons (pe_exa (pe_ix ix_list (pv 0) pe_int (fun _ _ => rfl))) (pa_cons (pe_exa (pe_ix ix_list (pv 0) pe_int (fun _ _ => rfl))) pa_nil)))))))) (pss_one (ps_ret (pe_op op_cat (pv 1) (pe_lst (pa_cons (pe_exa (pe_ix ix_list (pv 0) pe_int (fun _ _ => rfl))) (pa_cons (pe_exa (pe_ix ix_list (pv 0) pe_int (fun _ _ => rfl))) (pa_cons (pe_exa (pe_ix ix_list (pv 0) pe_int (fun _ _ => rfl))) (pa_cons (pe_exa (pe_ix ix_list (pv 0) pe_int (fun _ _ => rfl))) (pa_cons (pe_exa (pe_ix ix_list (pv 0) pe_int (fun _ _ => rfl))) (pa_cons (pe_exa (pe_ix ix_list (pv 0) pe_int (fun _ _ => rfl))) pa_nil)))))))))), ?_⟩
    obtain ⟨e0, e1, e2, e3, e4, e5, e6, e7, e8, e9, e10, e11, e12, e13, e14, rfl, ⟨dx0, h0⟩, ⟨dx1, h1⟩, ⟨dx2, h2⟩, ⟨dx3, h3⟩, ⟨dx4, h4⟩, ⟨dx5, h5⟩, ⟨dx6, h6⟩, ⟨dx7, h7⟩, ⟨dx8, h8⟩, ⟨dx9, h9⟩, ⟨dx10, h10⟩, ⟨dx11, h11⟩, -⟩ := M
    refine ⟨_, rfl, a, _, 0, .ref e0, rfl, rfl, hS, atI_nat (j := 0) rfl, e0, C 0, dx0, _, v, rfl, h0.1, h0.2, E0.xf, E0.no, lookup_one, ?_⟩
    refine ⟨_, rfl, a, _, 1, .ref e1, rfl, rfl, hS, atI_nat (j := 1) rfl, e1, C 0, dx1, _, v, rfl, h1.1, h1.2, E0.xf, E0.no, lookup_one, ?_⟩
    refine ⟨_, rfl, a, _, 2, .ref e2, rfl, rfl, hS, atI_nat (j := 2) rfl, e2, C 1, dx2, _, v, rfl, h2.1, h2.2, E1.xf, E1.no, lookup_one, ?_⟩
    refine ⟨_, rfl, a, _, 3, .ref e3, rfl, rfl, hS, atI_nat (j := 3) rfl, e3, C 1, dx3, _, v, rfl, h3.1, h3.2, E1.xf, E1.no, lookup_one, ?_⟩
    refine ⟨_, rfl, a, _, 4, .ref e4, rfl, rfl, hS, atI_nat (j := 4) rfl, e4, C 2, dx4, _, v, rfl, h4.1, h4.2, E2.xf, E2.no, lookup_one, ?_⟩
    refine ⟨_, rfl, a, _, 5, .ref e5, rfl, rfl, hS, atI_nat (j := 5) rfl, e5, C 2, dx5, _, v, rfl, h5.1, h5.2, E2.xf, E2.no, lookup_one, ?_⟩
    refine ⟨by show 6 ≤ sizeLine; decide, fun p1 hp1 => ⟨_, rfl, ?_⟩⟩
    have t1 : Same H (upd H p1 (.lst [v, v, v, v, v, v])) := Same.new hp1
    have y1 : (upd H p1 (.lst [v, v, v, v, v, v])) p1 = some (.lst [v, v, v, v, v, v]) := upd_same
    show tCons _ _ _ (upd H p1 (.lst [v, v, v, v, v, v])) _
    generalize upd H p1 (.lst [v, v, v, v, v, v]) = Z at t1 y1
    have g6 : Z e6 = some (exo e6 (C 3) (some dx6)) ∧ Z dx6 = some (exd dx6 [("at", v)]) := ⟨t1 _ _ h6.1, t1 _ _ h6.2⟩
    refine ⟨_, rfl, a, _, 6, .ref e6, rfl, rfl, (t1.seq hS), atI_nat (j := 6) rfl, e6, C 3, dx6, _, v, rfl, g6.1, g6.2, E3.xf, E3.no, lookup_one, ?_⟩
    have g7 : Z e7 = some (exo e7 (C 3) (some dx7)) ∧ Z dx7 = some (exd dx7 [("at", v)]) := ⟨t1 _ _ h7.1, t1 _ _ h7.2⟩
    refine ⟨_, rfl, a, _, 7, .ref e7, rfl, rfl, (t1.seq hS), atI_nat (j := 7) rfl, e7, C 3, dx7, _, v, rfl, g7.1, g7.2, E3.xf, E3.no, lookup_one, ?_⟩
    have g8 : Z e8 = some (exo e8 (C 4) (some dx8)) ∧ Z dx8 = some (exd dx8 [("at", v)]) := ⟨t1 _ _ h8.1, t1 _ _ h8.2⟩
    refine ⟨_, rfl, a, _, 8, .ref e8, rfl, rfl, (t1.seq hS), atI_nat (j := 8) rfl, e8, C 4, dx8, _, v, rfl, g8.1, g8.2, E4.xf, E4.no, lookup_one, ?_⟩
    have g9 : Z e9 = some (exo e9 (C 4) (some dx9)) ∧ Z dx9 = some (exd dx9 [("at", v)]) := ⟨t1 _ _ h9.1, t1 _ _ h9.2⟩
    refine ⟨_, rfl, a, _, 9, .ref e9, rfl, rfl, (t1.seq hS), atI_nat (j := 9) rfl, e9, C 4, dx9, _, v, rfl, g9.1, g9.2, E4.xf, E4.no, lookup_one, ?_⟩
    have g10 : Z e10 = some (exo e10 (C 5) (some dx10)) ∧ Z dx10 = some (exd dx10 [("name", v)]) := ⟨t1 _ _ h10.1, t1 _ _ h10.2⟩
    refine ⟨_, rfl, a, _, 10, .ref e10, rfl, rfl, (t1.seq hS), atI_nat (j := 10) rfl, e10, C 5, dx10, _, v, rfl, g10.1, g10.2, E5.xf, E5.no, lookup_one, ?_⟩
    have g11 : Z e11 = some (exo e11 (C 5) (some dx11)) ∧ Z dx11 = some (exd dx11 [("name", v)]) := ⟨t1 _ _ h11.1, t1 _ _ h11.2⟩
    refine ⟨_, rfl, a, _, 11, .ref e11, rfl, rfl, (t1.seq hS), atI_nat (j := 11) rfl, e11, C 5, dx11, _, v, rfl, g11.1, g11.2, E5.xf, E5.no, lookup_one, ?_⟩
    refine ⟨by show 6 ≤ sizeLine; decide, fun p2 hp2 => ⟨p1, p2, [v, v, v, v, v, v], [v, v, v, v, v, v], rfl, rfl, Same.new hp2 _ _ y1, upd_same, by show 12 ≤ sizeLine; decide, fun p3 hp3 => ?_⟩⟩
    exact k p3 _ ((t1.trans (Same.new hp2)).free hp3) upd_same ((t1.trans (Same.new hp2)).trans (Same.new hp3))
/-! ### what kind of error -/
/-- how the nine classes lie to one another -/
structure Kinds (K : PySem.W.Frag) (mg : Str → Option Value) (C : Nat → Addr) (S : Addr) : Prop where
  kit : ∀ k j, k < 9 → j < 9 → PySem.W.kitOne K (.ref (C k)) (.ref (C j)) = some (k == j)
  same : ∀ k, k < 9 → PySem.W.kitOne K (.ref (C k)) (.ref S) = some true
  ve : ∀ k, k < 9 → PySem.W.kitOne K (.ref (C k)) (.type "ValueError") = some true
  ke : ∀ k, k < 9 → PySem.W.kitOne K (.ref (C k)) (.type "KeyError") = some false
  ec : ∀ k, k < 9 → ExcC K (C k)
  glS : mg "SameError" = some (.ref S)
  isi : mg "isinstance" = none
  mve : mg "ValueError" = none
  mke : mg "KeyError" = none
  g0 : mg "InvalidRow" = some (.ref (C 0))
  g1 : mg "InvalidText" = some (.ref (C 1))
  g2 : mg "NoName" = some (.ref (C 2))
  g3 : mg "NoRow" = some (.ref (C 3))
  g4 : mg "Stops" = some (.ref (C 4))
  g5 : mg "Guarded" = some (.ref (C 5))
  g6 : mg "NoItem" = some (.ref (C 6))
  g7 : mg "Frozen" = some (.ref (C 7))
  g8 : mg "InvalidCommand" = some (.ref (C 8))
/-- e is an error of the class C -/
def IsEx (H : Hp) (e C : Addr) : Prop := ∃ d, H e = some (exo e C d) ∧ ∀ dx, d = some dx → ∃ fs, H dx = some (exd dx fs)
theorem Ex1.is {H : Hp} {e C : Addr} {f : Str} {v : V} (x : Ex1 H e C f v) : IsEx H e C := x.elim fun dx h => ⟨some dx, h.1, fun d z => by cases z; exact ⟨_, h.2⟩⟩
theorem Ex0.is {H : Hp} {e C : Addr} (x : Ex0 H e C) : IsEx H e C := ⟨none, x, fun d z => by cases z⟩
theorem IsEx.mono {H H' : Hp} {e C : Addr} (x : IsEx H e C) (s : Same H H') : IsEx H' e C := x.elim fun d h => ⟨d, s _ _ h.1, fun dx z => (h.2 dx z).elim fun fs q => ⟨fs, s _ _ q⟩⟩
theorem rd_isx {K : PySem.W.Frag} {e D : Addr} {c : V} {cv : Value} {b : Bool} {H : Hp} {Q : VK} (x : IsEx H e D) (ec : ExcC K D) (k : ClsV c cv) (h : PySem.W.kitOne K (.ref D) cv = some b) (q : Q (.bl b) H) : rIsX K [.ref e, c] H Q := by
  obtain ⟨d, h1, h2⟩ := x
  unfold rIsX
  exact ⟨e, D, d, c, cv, b, rfl, h1, h2, ec, k, h, q⟩
def spFlags (C : Nat → Addr) : Sp := fun vs H Q _ => ∃ e k, vs = [.ref e] ∧ k < 9 ∧ IsEx H e (C k) ∧ ∀ L H', H L = none → H' L = some (.lst [.bl (k == 0), .bl (k == 1), .bl (k == 2), .bl (k == 3), .bl (k == 4), .bl (k == 5), .bl (k == 6), .bl (k == 7), .bl (k == 8), .bl true, .bl true, .bl false]) → Same H H' → Q (.ref L) H'
abbrev nFlags : List Str := ["_law_error", "_law_found"]
theorem scFlags : FnScope nFlags ["_law_error"] (defScope sFlags) := ⟨rfl, rfl, rfl, by decide +kernel, rfl, by decide +kernel, by decide +kernel⟩
theorem ok_flags {f S : Addr} {fd : FuncData} {C : Nat → Addr} (F : Fun K "_law_flags" "_law_flags" sFlags f fd) (N : Kinds K mg C S) : FnOk P w K mg base CX0 1 f fd ["_law_error"] (spFlags C) := by
  refine F.ok scFlags (fun vs H Q E h => ?_) (fun cdv A outer s H vs Q E hr h => ?_)
  · obtain ⟨e, k, rfl, _⟩ := h
    rfl
  · obtain ⟨e, k, rfl, hk, x, q⟩ := h
    refine ⟨_, pss_cons (ps_set (i := 1) scFlags.nd rfl (Or.inl rfl) (pe_lst (pa_cons (pe_callB call_isX (by rfl) N.isi (by decide +kernel) (pa_cons (pv 0) (pa_cons (pe_glob (v := .ref _) rfl N.g0 rfl) pa_nil))) (pa_cons (pe_callB call_isX (by rfl) N.isi (by decide +kernel) (pa_cons (pv 0) (pa_cons (pe_glob (v := .ref _) rfl N.g1 rfl) pa_nil))) (pa_cons (pe_callB call_isX (by rfl) N.isi (by decide +kernel) (pa_cons (pv 0) (pa_cons (pe_glob (v := .ref _) rfl N.g2 rfl) pa_nil))) pa_nil)))))
      (pss_cons (ps_set (i := 1) scFlags.nd rfl (Or.inl rfl) (pe_op op_cat (pv 1) (pe_lst (pa_cons (pe_callB call_isX (by rfl) N.isi (by decide +kernel) (pa_cons (pv 0) (pa_cons (pe_glob (v := .ref _) rfl N.g3 rfl) pa_nil))) (pa_cons (pe_callB call_isX (by rfl) N.isi (by decide +kernel) (pa_cons (pv 0) (pa_cons (pe_glob (v := .ref _) rfl N.g4 rfl) pa_nil))) (pa_cons (pe_callB call_isX (by rfl) N.isi (by decide +kernel) (pa_cons (pv 0) (pa_cons (pe_glob (v := .ref _) rfl N.g5 rfl) pa_nil))) pa_nil))))))
      (pss_cons (ps_set (i := 1) scFlags.nd rfl (Or.inl rfl) (pe_op op_cat (pv 1) (pe_lst (pa_cons (pe_callB call_isX (by rfl) N.isi (by decide +kernel) (pa_cons (pv 0) (pa_cons (pe_glob (v := .ref _) rfl N.g6 rfl) pa_nil))) (pa_cons (pe_callB call_isX (by rfl) N.isi (by decide +kernel) (pa_cons (pv 0) (pa_cons (pe_glob (v := .ref _) rfl N.g7 rfl) pa_nil))) (pa_cons (pe_callB call_isX (by rfl) N.isi (by decide +kernel) (pa_cons (pv 0) (pa_cons (pe_glob (v := .ref _) rfl N.g8 rfl) pa_nil))) pa_nil))))))
      (pss_one (ps_ret (pe_op op_cat (pv 1) (pe_lst (pa_cons (pe_callB call_isX (by rfl) N.isi (by decide +kernel) (pa_cons (pv 0) (pa_cons (pe_glob (v := .ref _) rfl N.glS rfl) pa_nil))) (pa_cons (pe_callB call_isX (by rfl) N.isi (by decide +kernel) (pa_cons (pv 0) (pa_cons (pe_bltn (v := .ty "ValueError") (by rfl) N.mve (by decide +kernel) rfl) pa_nil))) (pa_cons (pe_callB call_isX (by rfl) N.isi (by decide +kernel) (pa_cons (pv 0) (pa_cons (pe_bltn (v := .ty "KeyError") (by rfl) N.mke (by decide +kernel) rfl) pa_nil))) pa_nil))))))))), ?_⟩
    refine ⟨_, rfl, rd_isx x (N.ec k hk) (.own _) (N.kit k 0 hk (by decide)) ?_⟩
    refine ⟨_, rfl, rd_isx x (N.ec k hk) (.own _) (N.kit k 1 hk (by decide)) ?_⟩
    refine ⟨_, rfl, rd_isx x (N.ec k hk) (.own _) (N.kit k 2 hk (by decide)) ?_⟩
    refine ⟨by show 3 ≤ sizeLine; decide, fun p0 hp0 => ?_⟩
    have sm0 : Same H (upd H p0 (.lst [.bl (k == 0), .bl (k == 1), .bl (k == 2)])) := Same.new hp0
    have y0 : (upd H p0 (.lst [.bl (k == 0), .bl (k == 1), .bl (k == 2)])) p0 = some (.lst [.bl (k == 0), .bl (k == 1), .bl (k == 2)]) := upd_same
    have x := x.mono sm0
    refine ⟨_, rfl, ?_⟩
    refine ⟨_, rfl, rd_isx x (N.ec k hk) (.own _) (N.kit k 3 hk (by decide)) ?_⟩
    refine ⟨_, rfl, rd_isx x (N.ec k hk) (.own _) (N.kit k 4 hk (by decide)) ?_⟩
    refine ⟨_, rfl, rd_isx x (N.ec k hk) (.own _) (N.kit k 5 hk (by decide)) ?_⟩
    refine ⟨by show 3 ≤ sizeLine; decide, fun r1 hr1 => ⟨p0, r1, [.bl (k == 0), .bl (k == 1), .bl (k == 2)], [.bl (k == 3), .bl (k == 4), .bl (k == 5)], rfl, rfl, Same.new hr1 _ _ y0, upd_same, by show 6 ≤ sizeLine; decide, fun p1 hp1 => ?_⟩⟩
    have sm1 := (sm0.trans (Same.new (o := .lst [.bl (k == 3), .bl (k == 4), .bl (k == 5)]) hr1)).trans (Same.new (o := .lst [.bl (k == 0), .bl (k == 1), .bl (k == 2), .bl (k == 3), .bl (k == 4), .bl (k == 5)]) hp1)
    have y1 : (upd (upd (upd H p0 (.lst [.bl (k == 0), .bl (k == 1), .bl (k == 2)])) r1 (.lst [.bl (k == 3), .bl (k == 4), .bl (k == 5)])) p1 (.lst [.bl (k == 0), .bl (k == 1), .bl (k == 2), .bl (k == 3), .bl (k == 4), .bl (k == 5)])) p1 = some (.lst [.bl (k == 0), .bl (k == 1), .bl (k == 2), .bl (k == 3), .bl (k == 4), .bl (k == 5)]) := upd_same
    have x := x.mono ((Same.new (o := .lst [.bl (k == 3), .bl (k == 4), .bl (k == 5)]) hr1).trans (Same.new (o := .lst [.bl (k == 0), .bl (k == 1), .bl (k == 2), .bl (k == 3), .bl (k == 4), .bl (k == 5)]) hp1))
    refine ⟨_, rfl, ?_⟩
    refine ⟨_, rfl, rd_isx x (N.ec k hk) (.own _) (N.kit k 6 hk (by decide)) ?_⟩
    refine ⟨_, rfl, rd_isx x (N.ec k hk) (.own _) (N.kit k 7 hk (by decide)) ?_⟩
    refine ⟨_, rfl, rd_isx x (N.ec k hk) (.own _) (N.kit k 8 hk (by decide)) ?_⟩
    refine ⟨by show 3 ≤ sizeLine; decide, fun r2 hr2 => ⟨p1, r2, [.bl (k == 0), .bl (k == 1), .bl (k == 2), .bl (k == 3), .bl (k == 4), .bl (k == 5)], [.bl (k == 6), .bl (k == 7), .bl (k == 8)], rfl, rfl, Same.new hr2 _ _ y1, upd_same, by show 9 ≤ sizeLine; decide, fun p2 hp2 => ?_⟩⟩
    have sm2 := (sm1.trans (Same.new (o := .lst [.bl (k == 6), .bl (k == 7), .bl (k == 8)]) hr2)).trans (Same.new (o := .lst [.bl (k == 0), .bl (k == 1), .bl (k == 2), .bl (k == 3), .bl (k == 4), .bl (k == 5), .bl (k == 6), .bl (k == 7), .bl (k == 8)]) hp2)
    have y2 : (upd (upd (upd (upd (upd H p0 (.lst [.bl (k == 0), .bl (k == 1), .bl (k == 2)])) r1 (.lst [.bl (k == 3), .bl (k == 4), .bl (k == 5)])) p1 (.lst [.bl (k == 0), .bl (k == 1), .bl (k == 2), .bl (k == 3), .bl (k == 4), .bl (k == 5)])) r2 (.lst [.bl (k == 6), .bl (k == 7), .bl (k == 8)])) p2 (.lst [.bl (k == 0), .bl (k == 1), .bl (k == 2), .bl (k == 3), .bl (k == 4), .bl (k == 5), .bl (k == 6), .bl (k == 7), .bl (k == 8)])) p2 = some (.lst [.bl (k == 0), .bl (k == 1), .bl (k == 2), .bl (k == 3), .bl (k == 4), .bl (k == 5), .bl (k == 6), .bl (k == 7), .bl (k == 8)]) := upd_same
    have x := x.mono ((Same.new (o := .lst [.bl (k == 6), .bl (k == 7), .bl (k == 8)]) hr2).trans (Same.new (o := .lst [.bl (k == 0), .bl (k == 1), .bl (k == 2), .bl (k == 3), .bl (k == 4), .bl (k == 5), .bl (k == 6), .bl (k == 7), .bl (k == 8)]) hp2))
    refine ⟨_, rfl, ?_⟩
    refine ⟨_, rfl, rd_isx x (N.ec k hk) (.own _) (N.same k hk) ?_⟩
    refine ⟨_, rfl, rd_isx x (N.ec k hk) (.ty _) (N.ve k hk) ?_⟩
    refine ⟨_, rfl, rd_isx x (N.ec k hk) (.ty _) (N.ke k hk) ?_⟩
    refine ⟨by show 3 ≤ sizeLine; decide, fun r3 hr3 => ⟨p2, r3, [.bl (k == 0), .bl (k == 1), .bl (k == 2), .bl (k == 3), .bl (k == 4), .bl (k == 5), .bl (k == 6), .bl (k == 7), .bl (k == 8)], [.bl true, .bl true, .bl false], rfl, rfl, Same.new hr3 _ _ y2, upd_same, by show 12 ≤ sizeLine; decide, fun p3 hp3 => ?_⟩⟩
    exact q p3 _ ((sm2.trans (Same.new hr3)).free hp3) upd_same ((sm2.trans (Same.new hr3)).trans (Same.new hp3))
end
end L01

namespace L01
open PySem L2 SL
abbrev sLaw : Stmt := top 18
structure Nm3 (mg : Str → Option Value) : Prop extends Nm2 mg where
  rep : mg "repr" = none
  enu : mg "enumerate" = none
def spLaw (K : PySem.W.Frag) : Sp := fun vs H Q _ => ∃ (a : Addr) (ns : List Int), vs = [.ref a] ∧ SqL K H a (ns.map V.int) ∧ ns.length ≤ 63 ∧ ∀ H', Q (.bl true) H'
/-- the class of the i-th error -/
def kix (i : Nat) : Nat := if i < 12 then i / 2 else i - 6
theorem Made.at {C : Nat → Addr} {H : Hp} {v : V} {xs : List V} (M : Made C H v xs) : ∀ (i : Nat) (x : V), xs[i]? = some x → ∃ e, x = .ref e ∧ i < 15 ∧ IsEx H e (C (kix i)) := by
  obtain ⟨e0, e1, e2, e3, e4, e5, e6, e7, e8, e9, e10, e11, e12, e13, e14, rfl, x0, x1, x2, x3, x4, x5, x6, x7, x8, x9, x10, x11, x12, x13, x14⟩ := M
  intro i x h
  match i, h with
  | 0, h => exact ⟨e0, (Option.some.inj h).symm, by decide, Ex1.is x0⟩
  | 1, h => exact ⟨e1, (Option.some.inj h).symm, by decide, Ex1.is x1⟩
  | 2, h => exact ⟨e2, (Option.some.inj h).symm, by decide, Ex1.is x2⟩
  | 3, h => exact ⟨e3, (Option.some.inj h).symm, by decide, Ex1.is x3⟩
  | 4, h => exact ⟨e4, (Option.some.inj h).symm, by decide, Ex1.is x4⟩
  | 5, h => exact ⟨e5, (Option.some.inj h).symm, by decide, Ex1.is x5⟩
  | 6, h => exact ⟨e6, (Option.some.inj h).symm, by decide, Ex1.is x6⟩
  | 7, h => exact ⟨e7, (Option.some.inj h).symm, by decide, Ex1.is x7⟩
  | 8, h => exact ⟨e8, (Option.some.inj h).symm, by decide, Ex1.is x8⟩
  | 9, h => exact ⟨e9, (Option.some.inj h).symm, by decide, Ex1.is x9⟩
  | 10, h => exact ⟨e10, (Option.some.inj h).symm, by decide, Ex1.is x10⟩
  | 11, h => exact ⟨e11, (Option.some.inj h).symm, by decide, Ex1.is x11⟩
  | 12, h => exact ⟨e12, (Option.some.inj h).symm, by decide, Ex0.is x12⟩
  | 13, h => exact ⟨e13, (Option.some.inj h).symm, by decide, Ex0.is x13⟩
  | 14, h => exact ⟨e14, (Option.some.inj h).symm, by decide, Ex0.is x14⟩
  | n + 15, h => simp at h
theorem Made.len {C : Nat → Addr} {H : Hp} {v : V} {xs : List V} (M : Made C H v xs) : xs.length = 15 := by
  obtain ⟨e0, e1, e2, e3, e4, e5, e6, e7, e8, e9, e10, e11, e12, e13, e14, rfl, _⟩ := M
  rfl
theorem exo_lst {e C : Addr} {d : Option Addr} {xs : List V} : exo e C d ≠ .lst xs := fun z => by
  have z' : HO.ext _ = HO.lst xs := z
  cases z'
theorem exd_lst {e : Addr} {fs : List (Str × V)} {xs : List V} : exd e fs ≠ .lst xs := fun z => by
  have z' : HO.ext _ = HO.lst xs := z
  cases z'
theorem Ex1.put {H : Hp} {e C p : Addr} {f : Str} {v : V} {xs : List V} {o : HO} (x : Ex1 H e C f v) (hp : H p = some (.lst xs)) : Ex1 (upd H p o) e C f v :=
  x.elim fun dx h => ⟨dx, by rw [upd_ne (ne_of h.1 hp exo_lst)]; exact h.1, by rw [upd_ne (ne_of h.2 hp exd_lst)]; exact h.2⟩
theorem Ex0.put {H : Hp} {e C p : Addr} {xs : List V} {o : HO} (x : Ex0 H e C) (hp : H p = some (.lst xs)) : Ex0 (upd H p o) e C := by
  unfold Ex0
  rw [upd_ne (ne_of x hp exo_lst)]
  exact x
theorem Made.put {C : Nat → Addr} {H : Hp} {v : V} {xs ys : List V} {p : Addr} {o : HO} (M : Made C H v xs) (hp : H p = some (.lst ys)) : Made C (upd H p o) v xs := by
  obtain ⟨e0, e1, e2, e3, e4, e5, e6, e7, e8, e9, e10, e11, e12, e13, e14, ex, x0, x1, x2, x3, x4, x5, x6, x7, x8, x9, x10, x11, x12, x13, x14⟩ := M
  exact ⟨e0, e1, e2, e3, e4, e5, e6, e7, e8, e9, e10, e11, e12, e13, e14, ex, Ex1.put x0 hp, Ex1.put x1 hp, Ex1.put x2 hp, Ex1.put x3 hp, Ex1.put x4 hp, Ex1.put x5 hp, Ex1.put x6 hp, Ex1.put x7 hp, Ex1.put x8 hp, Ex1.put x9 hp, Ex1.put x10 hp, Ex1.put x11 hp, Ex0.put x12 hp, Ex0.put x13 hp, Ex0.put x14 hp⟩
def fl (k : Nat) : List V := [.bl (k == 0), .bl (k == 1), .bl (k == 2), .bl (k == 3), .bl (k == 4), .bl (k == 5), .bl (k == 6), .bl (k == 7), .bl (k == 8), .bl true, .bl true, .bl false]
def flD (k : Nat) : PyData := .list [.bool (k == 0), .bool (k == 1), .bool (k == 2), .bool (k == 3), .bool (k == 4), .bool (k == 5), .bool (k == 6), .bool (k == 7), .bool (k == 8), .bool true, .bool true, .bool false]
theorem fl_eq : ∀ k : Nat, k < 9 → (List.range 9).map (fun q : Nat => V.bl (decide (V.int (0 + (q : Int)) = V.int (k : Int)))) ++ [V.bl true, V.bl true, V.bl false] = fl k := by decide +kernel
theorem fd_shaped : ∀ k : Nat, k < 9 → SeqAt.shaped (flD k) = true := by decide +kernel
theorem dp_fl {K : PySem.W.Frag} {H : Hp} {L : Addr} {k : Nat} (h : H L = some (.lst (fl k))) : Dp K H (.ref L) (flD k) := .lst (SqL.of h) (.cons (.bl _) (.cons (.bl _) (.cons (.bl _) (.cons (.bl _) (.cons (.bl _) (.cons (.bl _) (.cons (.bl _) (.cons (.bl _) (.cons (.bl _) (.cons (.bl _) (.cons (.bl _) (.cons (.bl _) .nil))))))))))))
theorem kix_lt : ∀ i, i < 15 → kix i < 9 := by decide
def boxD : PyData := .list [.int 1, .tuple [.int 2]]
theorem box_shown : boxD.shown = "[1, (2,)]" := by decide +kernel
theorem dp_box {K : PySem.W.Frag} {H : Hp} {b t : Addr} (h : H b = some (.lst [.int 1, .ref t])) (ht : H t = some (.tup [.int 2])) : Dp K H (.ref b) boxD :=
  .lst (SqL.of h) (.cons (.int 1) (.cons (.tup (SqT.of ht) (.cons (.int 2) .nil)) .nil))
theorem same12 {v x : V} {i : Nat} (h : ([v, v, v, v, v, v, v, v, v, v, v, v] : List V)[i]? = some x) : x = v := by
  have := List.mem_of_getElem? h
  simpa using this
section
variable {P : Program} {w : World} {K : PySem.W.Frag} {mg : Str → Option Value} {base : Heap}
abbrev nLaw : List Str := ["_law_script", "_law_deal_here", "_law_box", "_law_errors", "_law_turn", "_law_a", "_law_place", "_law_error", "_law_spot", "_law_one", "_law_k"]
theorem scLaw : FnScope nLaw ["_law_script"] (defScope sLaw) := ⟨rfl, rfl, rfl, by decide +kernel, rfl, by decide +kernel, by decide +kernel⟩
theorem ok_law {f fA fM fK fF fL : Addr} {fd fdA fdM fdK fdF fdL : FuncData} {C : Nat → Addr} (F : Fun K "law" "law" sLaw f fd) (T : Nm3 mg)
    (DD : Df P w K mg base 1 "_law_deal" fL fdL ["_law_script", "_law_base"] (spDeal K)) (DA : Df P w K mg base 5 "_law_any" fA fdA ["_law_deal_here", "_law_deep"] (spAny K 4))
    (DM : Df P w K mg base 3 "_law_made" fM fdM ["_law_a"] (spMade C)) (DK : Df P w K mg base 1 "_law_keeps" fK fdK ["_law_errors"] (spKeeps C K)) (DF : Df P w K mg base 1 "_law_flags" fF fdF ["_law_error"] (spFlags C)) :
    FnG P w K mg base CX0 6 f fd ["_law_script"] (spLaw K) := by
  refine okG0 F scLaw (fun vs H Q E h => ?_) (fun cdv A outer s H vs Q E hgd hr h => ?_)
  · obtain ⟨a, ns, rfl, _⟩ := h
    rfl
  · obtain ⟨a, ns, rfl, hS, hlen, k⟩ := h
    have hr1 : Room 1 _ := hr.mono (by decide)
    have hr3 : Room 3 _ := hr.mono (by decide)
    have hu := room_show hr
    refine ⟨_, pss_cons (ps_set (i := 1) scLaw.nd rfl (Or.inl rfl) (pe_call DD.ok hr1 rfl DD.gl DD.kp DD.bd .nil pass0 (pa_cons (pv 0) (pa_cons pe_int pa_nil))))
      (pss_cons (ps_set (i := 2) scLaw.nd rfl (Or.inl rfl) (pe_lst (pa_cons pe_int pa_nil)))
      (pss_cons (ps_set (i := 3) scLaw.nd rfl (Or.inl rfl) (pe_call DM.ok hr3 rfl DM.gl DM.kp DM.bd .nil pass0 (pa_cons (pv 2) pa_nil)))
      (pss_cons (ps_expr (pe_bm PySem.F.plainAttrs_list PySem.F.slot_list_append PySem.F.type_list_append mt_append (pv 2) (pa_cons (pe_tup (pa_cons pe_int pa_nil)) pa_nil)))
      (pss_cons (ps_if (pt_cmpR (op_neD hr.units) (pe_lc (own := [("_law_one", 9)]) (g := gName 9) rfl scLaw.nd (pi_list (pe_call DK.ok hr1 rfl DK.gl DK.kp DK.bd .nil pass0 (pa_cons (pv 3) pa_nil))) (blkOk_by (N := nLaw) (sc := defScope sLaw) (by decide +kernel))
            (fun _ _ _ _ _ => pg_name (i := 9) scLaw.nd rfl (Or.inl rfl)) (fun _ _ _ _ _ => pts_one (pt_cmpR op_ne (pe_repr K (by exact hgd) (by exact hu) (by exact T.rep) (by rfl) (pv 9)) pe_str (nomark _))) (fun _ _ _ _ _ => pv 9))
          (pe_lst pa_nil) (nomark _)) (pss_one (ps_ret pe_bl)) pss_nil)
      (pss_cons (ps_for PassesOwn.never rfl (pi_range1 (by rfl) T.range (pa_cons pe_int pa_nil)) (pg_name (i := 4) scLaw.nd rfl (Or.inl rfl))
        (pss_cons (ps_set (i := 5) scLaw.nd rfl (Or.inr rfl) (pe_call DA.ok hr rfl DA.gl DA.kp DA.bd .nil pass0 (pa_cons (pv 1) (pa_cons pe_int pa_nil))))
        (pss_cons (ps_set (i := 3) scLaw.nd rfl (Or.inl rfl) (pe_call DM.ok hr3 rfl DM.gl DM.kp DM.bd .nil pass0 (pa_cons (pv 5) pa_nil)))
        (pss_cons (ps_if (pt_cmpR (op_neD hr.units) (pe_lc (own := [("_law_one", 9)]) (g := gName 9) rfl scLaw.nd (pi_list (pe_call DK.ok hr1 rfl DK.gl DK.kp DK.bd .nil pass0 (pa_cons (pv 3) pa_nil))) (blkOk_by (N := nLaw) (sc := defScope sLaw) (by decide +kernel))
              (fun _ _ _ _ _ => pg_name (i := 9) scLaw.nd rfl (Or.inl rfl)) (fun _ _ _ _ _ => pts_one (pt_cmpR op_ne (pe_repr K (by exact hgd) (by exact hu) (by exact T.rep) (by rfl) (pv 9)) (pe_repr K (by exact hgd) (by exact hu) (by exact T.rep) (by rfl) (pv 5)) (nomark _))) (fun _ _ _ _ _ => pv 9))
            (pe_lst pa_nil) (nomark _)) (pss_one (ps_ret pe_bl)) pss_nil)
        (pss_one (ps_for PassesOwn.never rfl (pi_enum (by rfl) T.enu (pa_cons (pv 3) pa_nil)) (pg_tup rfl (pgs_cons (pg_name (i := 6) scLaw.nd rfl (Or.inl rfl)) (pgs_cons (pg_name (i := 7) scLaw.nd rfl (Or.inl rfl)) pgs_nil)))
          (pss_cons (ps_set (i := 8) scLaw.nd rfl (Or.inr rfl) (pe_ifExp (pt_cmpR op_lt (pv 6) pe_int (nomark _)) (pe_op op_fdiv (pv 6) pe_int) (pe_op op_sub (pv 6) pe_int)))
          (pss_one (ps_if (pt_cmpR (op_neD hr.units) (pe_call DF.ok hr1 rfl DF.gl DF.kp DF.bd .nil pass0 (pa_cons (pv 7) pa_nil))
              (pe_op op_cat (pe_lc (own := [("_law_k", 10)]) (g := gName 10) (tt := tYes) rfl scLaw.nd (pi_range1 (by rfl) T.range (pa_cons pe_int pa_nil)) (blkOk_by (N := nLaw) (sc := defScope sLaw) (by decide +kernel)) (fun _ _ _ _ _ => pg_name (i := 10) scLaw.nd rfl (Or.inl rfl))
                  (fun _ _ _ _ _ => pts_nil) (fun _ _ _ _ _ => pe_cmpR op_eq (pv 10) (pv 8) (nomark _)))
                (pe_lst (pa_cons pe_bl (pa_cons pe_bl (pa_cons pe_bl pa_nil))))) (nomark _)) (pss_one (ps_ret pe_bl)) pss_nil)))))))))
      (pss_one (ps_ret pe_bl))))))), ?_⟩
    -- READING
    refine ⟨_, rfl, a, ns, rfl, hS, hlen, fun d c H1 D1 nd nc s1 => ?_⟩
    refine ⟨by show 1 ≤ sizeLine; decide, fun b hb => ?_⟩
    have D2 := D1.new (o := .lst [.int 1]) hb
    have bd : b ≠ d := fun e => D1.there d (by simp) (by rw [← e]; exact hb)
    have bc : b ≠ c := fun e => D1.there c (by simp) (by rw [← e]; exact hb)
    refine ⟨_, rfl, .ref b, rfl, fun L xs H2 nL hL M s2 => ?_⟩
    have D3 := D2.same s2
    have b2 : H2 b = some (.lst [.int 1]) := s2 _ _ upd_same
    have Lb : L ≠ b := fun e => by rw [e, upd_same] at nL; cases nL
    refine ⟨_, rfl, .inl ⟨rfl, _, SqL.of b2⟩, by show 1 ≤ sizeLine; decide, fun t ht => ⟨b, [.int 1], .ref t, rfl, rfl, Same.new ht _ _ b2, by show 1 < sizeLine; decide, ?_⟩⟩
    have tb : t ≠ b := (ne_of_none b2 ht).symm
    have zb : (upd (upd H2 t (.tup [.int 2])) b (.lst ([.int 1] ++ [.ref t]))) b = some (.lst [.int 1, .ref t]) := upd_same
    have zt : (upd (upd H2 t (.tup [.int 2])) b (.lst ([.int 1] ++ [.ref t]))) t = some (.tup [.int 2]) := by rw [upd_ne tb, upd_same]
    have zL : (upd (upd H2 t (.tup [.int 2])) b (.lst ([.int 1] ++ [.ref t]))) L = some (.lst xs) := by rw [upd_ne Lb, upd_ne (ne_of_none hL ht)]; exact hL
    have zM : Made C (upd (upd H2 t (.tup [.int 2])) b (.lst ([.int 1] ++ [.ref t]))) (.ref b) xs := (M.mono (Same.new ht)).put (Same.new ht _ _ b2)
    have zD : Deal (upd (upd H2 t (.tup [.int 2])) b (.lst ([.int 1] ++ [.ref t]))) d c := (D3.new ht).put bd bc
    generalize upd (upd H2 t (.tup [.int 2])) b (.lst ([.int 1] ++ [.ref t])) = Z at zb zt zL zM zD
    refine ⟨_, rfl, L, xs, .ref b, rfl, SqL.of zL, zM, fun R Z1 nR hR sZ => ⟨R, rfl, ⟨_, SqL.of hR⟩, fun D hD => ?_⟩⟩
    refine lc_fm (K := K) (a := R) (fun _ => none) (SqL.of hR) hD ?_ ?_
    · intro i x hx
      have ex := same12 hx
      subst ex
      have sd := sZ.trans (Same.new (o := .lst (([V.ref b, V.ref b, V.ref b, V.ref b, V.ref b, V.ref b, V.ref b, V.ref b, V.ref b, V.ref b, V.ref b, V.ref b].take i).filterMap fun _ => (none : Option V))) hD)
      exact ⟨rfl, _, rfl, .ref b, boxD, rfl, dp_box (sd _ _ zb) (sd _ _ zt), by decide, by decide, by decide +kernel, by decide, rfl, _, rfl, iteNS (by rw [box_shown]) (fm_skip hx rfl)⟩
    refine ⟨Nat.zero_le _, fun p hp => ⟨.list [], .list [], .lst (SqL.of (Same.new hp _ _ upd_same)) .nil, .lst (SqL.of upd_same) .nil, rfl, rfl, _, rfl, iteF ?_⟩⟩
    have yD := zD.same (sZ.trans ((Same.new hD).trans (Same.new (o := .lst []) hp)))
    refine ⟨4, rfl, by decide, by decide, for_range (lo := 0) (n := 4) (fun i σ G => Deal G d c ∧ ∃ o2 o3 o4 o5 o6 o7 o8 o9 o10 : Option V, σ = [some (.ref a), some (.ref d), o2, o3, o4, o5, o6, o7, o8, o9, o10]) ⟨yD, _, _, _, _, _, _, _, _, _, rfl⟩ ?_ ?_⟩
    · rintro i σ G hi ⟨DG, o2, o3, o4, o5, o6, o7, o8, o9, o10, rfl⟩
      refine ⟨_, rfl, d, c, 3, rfl, by decide, DG, fun v Dv G1 a1 a2 a3 a4 => ?_⟩
      refine ⟨_, rfl, v, rfl, fun L xs G2 nL hL M s2 => ?_⟩
      have sh := any_shows a1
      have ln : Dv.shown.length ≤ sizeLine := Nat.le_trans sh.ln (by decide)
      have dp : Dv.depth ≤ 100 := Nat.le_trans sh.dp (by decide)
      refine ⟨_, rfl, L, xs, v, rfl, SqL.of hL, M, fun R G3 nR hR s3 => ⟨R, rfl, ⟨_, SqL.of hR⟩, fun D hD => ?_⟩⟩
      refine lc_fm (K := K) (a := R) (fun _ => none) (SqL.of hR) hD ?_ ?_
      · intro i x hx
        have ex := same12 hx
        subst ex
        have dv := Dp.mono ((nw_same.trans (s2.trans s3)).trans (Same.new (o := .lst (([x, x, x, x, x, x, x, x, x, x, x, x].take i).filterMap fun _ => (none : Option V))) hD)) _ _ a2
        exact ⟨rfl, _, rfl, x, Dv, rfl, dv, sh.sh, sh.nd, ln, dp, _, rfl, x, Dv, rfl, dv, sh.sh, sh.nd, ln, dp, rfl, _, rfl, iteNS rfl (fm_skip hx rfl)⟩
      refine ⟨Nat.zero_le _, fun p hp => ⟨.list [], .list [], .lst (SqL.of (Same.new hp _ _ upd_same)) .nil, .lst (SqL.of upd_same) .nil, rfl, rfl, _, rfl, iteF ?_⟩⟩
      have sW := (s2.trans s3).trans ((Same.new (o := .lst ([v, v, v, v, v, v, v, v, v, v, v, v].filterMap fun _ => (none : Option V))) hD).trans (Same.new (o := .lst []) hp))
      have DW := a3.same sW
      have MW := M.mono (s3.trans ((Same.new (o := .lst ([v, v, v, v, v, v, v, v, v, v, v, v].filterMap fun _ => (none : Option V))) hD).trans (Same.new (o := .lst []) hp)))
      have LW := (s3.trans ((Same.new (o := .lst ([v, v, v, v, v, v, v, v, v, v, v, v].filterMap fun _ => (none : Option V))) hD).trans (Same.new (o := .lst []) hp))) _ _ hL
      refine ⟨_, rfl, L, xs, rfl, SqL.of LW, ?_⟩
      generalize upd (upd G3 D (.lst ([v, v, v, v, v, v, v, v, v, v, v, v].filterMap fun _ => (none : Option V)))) p (.lst []) = W at DW MW LW
      refine for_it (walk_enum (K := K) (a := L) (xs := xs)) (fun j σ G => Same W G ∧ ∃ q6 q7 q8 : Option V, σ = [some (.ref a), some (.ref d), o2, some (.ref L), some (.int (0 + (i : Int))), some v, q6, q7, q8, o9, o10]) ⟨Same.refl W, _, _, _, rfl⟩ (fun j σ G _ h => SqL.of (h.1 _ _ LW)) ?_ ?_
      · rintro j x σ G0 G hj ⟨sG, q6, q7, q8, rfl⟩ ⟨T, p0, y, rfl, nT, rfl, hp0, hy⟩
        obtain rfl : V.int (j : Int) = p0 := Option.some.inj hp0
        obtain ⟨e, rfl, j15, isx⟩ := MW.at j y hy
        have k9 := kix_lt j j15
        refine ⟨T, [.int (j : Int), .ref e], rfl, SqT.of upd_same, rfl, _, _, rfl, _, _, rfl, rfl, ?_⟩
        have sT : Same W (upd G0 T (.tup [.int (j : Int), .ref e])) := sG.trans (Same.new nT)
        generalize upd G0 T (.tup [.int (j : Int), .ref e]) = G at sT
        refine seq_cut (fun σ' H' => H' = G ∧ σ' = [some (.ref a), some (.ref d), o2, some (.ref L), some (.int (0 + (i : Int))), some v, some (.int (j : Int)), some (.ref e), some (.int ((kix j : Nat) : Int)), o9, o10]) (fun D' hnx _ _ _ => ?_) ?_
        · refine ⟨_, rfl, _, _, rfl, rfl, _, rfl, ite2 (fun h12 => ?_) (fun h12 => ?_)⟩
          · have h := of_decide_eq_true h12
            refine ⟨_, rfl, _, _, rfl, rfl, ⟨by decide, by decide⟩, hnx _ _ ⟨rfl, ?_⟩⟩
            have ek : ((kix j : Nat) : Int) = (j : Int) / 2 := by
              unfold kix
              rw [if_pos (by omega)]
              omega
            rw [ek]
            rfl
          · have h : ¬ ((j : Int) < 12) := fun z => h12 (decide_eq_true z)
            refine ⟨_, rfl, _, _, rfl, rfl, hnx _ _ ⟨rfl, ?_⟩⟩
            have ek : ((kix j : Nat) : Int) = (j : Int) - 6 := by
              unfold kix
              rw [if_neg (by omega)]
              omega
            rw [ek]
            rfl
        · rintro σ' G' ⟨rfl, rfl⟩
          refine ⟨_, rfl, e, kix j, rfl, k9, isx.mono sT, fun R H5 nR hR s5 => ?_⟩
          refine ⟨9, rfl, by decide, by decide, fun D hD => ?_⟩
          refine lc_range (lo := 0) (n := 9) (fun q G => G = upd H5 D (.lst ((List.range q).map (fun q : Nat => V.bl (decide (V.int (0 + (q : Int)) = V.int ((kix j : Nat) : Int))))))) rfl ?_ ?_
          · rintro q G hq rfl
            refine ⟨rfl, _, rfl, _, rfl, rfl, _, upd_same, ?_, ?_⟩
            · rw [List.length_map, List.length_range]
              exact Nat.lt_trans hq (by decide)
            · rw [upd_upd, List.range_succ, List.map_append]
              rfl
          · rintro G rfl
            refine ⟨by show 3 ≤ sizeLine; decide, fun q hq => ⟨D, q, _, _, rfl, rfl, Same.new hq _ _ upd_same, upd_same, by show 12 ≤ sizeLine; decide, fun r hr' => ?_⟩⟩
            have s6 := (Same.new (o := .lst ((List.range 9).map (fun q : Nat => V.bl (decide (V.int (0 + (q : Int)) = V.int ((kix j : Nat) : Int)))))) hD).trans (Same.new (o := .lst [V.bl true, V.bl true, V.bl false]) hq)
            have s7 := s6.trans (Same.new (o := .lst ((List.range 9).map (fun q : Nat => V.bl (decide (V.int (0 + (q : Int)) = V.int ((kix j : Nat) : Int)))) ++ [V.bl true, V.bl true, V.bl false])) hr')
            refine ⟨flD (kix j), flD (kix j), dp_fl (s7 _ _ hR), dp_fl ?_, fd_shaped _ k9, fd_shaped _ k9, _, rfl, ?_⟩
            · rw [upd_same, fl_eq _ k9]
            · rw [SeqAt.eqv_refl _ (SeqAt.canLay_of_shaped (fd_shaped _ k9))]
              refine iteF ⟨sT.trans (s5.trans s7), _, _, _, rfl⟩
      · rintro σ G ⟨sG, q6, q7, q8, rfl⟩
        exact ⟨DW.same sG, _, _, _, _, _, _, _, _, _, rfl⟩
    · rintro σ G ⟨_, o2, o3, o4, o5, o6, o7, o8, o9, o10, rfl⟩
      exact k _
end
end L01

namespace L01
open PySem L2 SL
def excB (K : PySem.W.Frag) (D : Addr) : Bool :=
  decide (PySem.W.findIn K (.ref D) "__getattribute__" = some (some (.builtin "BaseException.__getattribute__"))) && (decide (PySem.W.findIn K (.ref D) "__getattr__" = some none) &&
  (decide (PySem.W.subIn K (.ref D) (.type "BaseException") = some true) && (PySem.W.hasDictIn K D && (decide (PySem.W.findIn K (.ref D) "__class__" = some (some (.builtin "object.__class__"))) &&
  (decide (PySem.W.specialIn K (.builtin "object.__class__") "__get__" = some (some (.builtin "getset_descriptor.__get__"))) && (decide (PySem.W.takesIn K (.builtin "object.__class__") = some true) &&
  decide (PySem.W.mroIn K D (.type "object") = some true)))))))
theorem excB_ok {K : PySem.W.Frag} {D : Addr} (h : excB K D = true) : ExcC K D := by
  obtain ⟨h1, h⟩ := Bool.and_eq_true_iff.mp h
  obtain ⟨h2, h⟩ := Bool.and_eq_true_iff.mp h
  obtain ⟨h3, h⟩ := Bool.and_eq_true_iff.mp h
  obtain ⟨h4, h⟩ := Bool.and_eq_true_iff.mp h
  obtain ⟨h5, h⟩ := Bool.and_eq_true_iff.mp h
  obtain ⟨h6, h⟩ := Bool.and_eq_true_iff.mp h
  obtain ⟨h7, h8⟩ := Bool.and_eq_true_iff.mp h
  exact ⟨of_decide_eq_true h1, of_decide_eq_true h2, of_decide_eq_true h3, h4, of_decide_eq_true h5, of_decide_eq_true h6, of_decide_eq_true h7, of_decide_eq_true h8⟩
def at9 (cs : List Addr) (k : Nat) : Addr := cs.getD k 0
def kindB (K : PySem.W.Frag) (cs : List Addr) (S : Addr) (k : Nat) : Bool :=
  excB K (at9 cs k) && (decide (PySem.W.kitOne K (.ref (at9 cs k)) (.ref S) = some true) && (decide (PySem.W.kitOne K (.ref (at9 cs k)) (.type "ValueError") = some true) &&
  (decide (PySem.W.kitOne K (.ref (at9 cs k)) (.type "KeyError") = some false) && (List.range 9).all fun j => decide (PySem.W.kitOne K (.ref (at9 cs k)) (.ref (at9 cs j)) = some (k == j)))))
def kindsB (K : PySem.W.Frag) (cs : List Addr) (S : Addr) : Bool := (List.range 9).all fun k => kindB K cs S k
theorem kindsB_at {K : PySem.W.Frag} {cs : List Addr} {S : Addr} (h : kindsB K cs S = true) {k : Nat} (hk : k < 9) : kindB K cs S k = true := (List.all_eq_true.mp h) k (List.mem_range.mpr hk)
theorem kindsB_kit {K : PySem.W.Frag} {cs : List Addr} {S : Addr} (h : kindsB K cs S = true) {k j : Nat} (hk : k < 9) (hj : j < 9) : PySem.W.kitOne K (.ref (at9 cs k)) (.ref (at9 cs j)) = some (k == j) := by
  obtain ⟨_, h⟩ := Bool.and_eq_true_iff.mp (kindsB_at h hk)
  obtain ⟨_, h⟩ := Bool.and_eq_true_iff.mp h
  obtain ⟨_, h⟩ := Bool.and_eq_true_iff.mp h
  obtain ⟨_, h⟩ := Bool.and_eq_true_iff.mp h
  exact of_decide_eq_true ((List.all_eq_true.mp h) j (List.mem_range.mpr hj))
theorem kindsB_more {K : PySem.W.Frag} {cs : List Addr} {S : Addr} (h : kindsB K cs S = true) {k : Nat} (hk : k < 9) : ExcC K (at9 cs k) ∧ PySem.W.kitOne K (.ref (at9 cs k)) (.ref S) = some true ∧
    PySem.W.kitOne K (.ref (at9 cs k)) (.type "ValueError") = some true ∧ PySem.W.kitOne K (.ref (at9 cs k)) (.type "KeyError") = some false := by
  obtain ⟨h1, h⟩ := Bool.and_eq_true_iff.mp (kindsB_at h hk)
  obtain ⟨h2, h⟩ := Bool.and_eq_true_iff.mp h
  obtain ⟨h3, h⟩ := Bool.and_eq_true_iff.mp h
  obtain ⟨h4, h⟩ := Bool.and_eq_true_iff.mp h
  exact ⟨excB_ok h1, of_decide_eq_true h2, of_decide_eq_true h3, of_decide_eq_true h4⟩
section
variable {P : Program} {w : World} {K : PySem.W.Frag} {mg : Str → Option Value} {base : Heap}
theorem ok_any {f fD : Addr} {fd fdD : FuncData} (F : Fun K "_law_any" "_law_any" sAny f fd) (T : Nm2 mg) (D : Df P w K mg base 1 "_law_draw" fD fdD ["_law_deal_here", "_law_many"] spDraw)
    (gl : mg "_law_any" = some (.ref f)) (bd : Binds K fd ["_law_deal_here", "_law_deep"] []) : ∀ n, FnOk P w K mg base CX0 (n + 1) f fd ["_law_deal_here", "_law_deep"] (spAny K n)
  | 0 => ⟨fun vs H Q E h => by
      obtain ⟨d, c, m, rfl, _⟩ := h
      rfl, fun A outer s H args us vs Q E _ _ _ _ h => by
      obtain ⟨d, c, m, _, hm, _⟩ := h
      omega⟩
  | n + 1 => step_any F T D gl bd (ok_any F T D gl bd n)
end
theorem all_mk {l : PySem.W.OpenLaw} {w : World} {K : PySem.W.Frag} {h : Heap} {mg : Str → Option Value} {fa S C0 C1 C2 C3 C4 C5 C6 C7 C8 fI0 fI1 fI2 fI3 fI4 fI5 f0 f1 f2 f3 f4 f5 f6 : Addr} (X : K.In h) (G : h.Ns mainGlobals mg) (hfa : mg "law" = some (.ref fa))
    {odI0 anI0 : Option Addr} {slI0 : Array (Option Value)} {ocI0 kVI0 dcI0 pmI0 cdI0 ctI0 : Value} {nm0 q0 : Str} {N0 : Addr} {bs0 bm0 : List Value} {sn0 : List Str} {sub0 : List Value} {ab0 : Bool} {col0 : Option Bool} {dd0 : Option Addr} {ma0 mb0 mc0 md0 me0 : Option Value}
    {odI1 anI1 : Option Addr} {slI1 : Array (Option Value)} {ocI1 kVI1 dcI1 pmI1 cdI1 ctI1 : Value} {nm1 q1 : Str} {N1 : Addr} {bs1 bm1 : List Value} {sn1 : List Str} {sub1 : List Value} {ab1 : Bool} {col1 : Option Bool} {dd1 : Option Addr} {ma1 mb1 mc1 md1 me1 : Option Value}
    {odI2 anI2 : Option Addr} {slI2 : Array (Option Value)} {ocI2 kVI2 dcI2 pmI2 cdI2 ctI2 : Value} {nm2 q2 : Str} {N2 : Addr} {bs2 bm2 : List Value} {sn2 : List Str} {sub2 : List Value} {ab2 : Bool} {col2 : Option Bool} {dd2 : Option Addr} {ma2 mb2 mc2 md2 me2 : Option Value}
    {odI3 anI3 : Option Addr} {slI3 : Array (Option Value)} {ocI3 kVI3 dcI3 pmI3 cdI3 ctI3 : Value} {nm3 q3 : Str} {N3 : Addr} {bs3 bm3 : List Value} {sn3 : List Str} {sub3 : List Value} {ab3 : Bool} {col3 : Option Bool} {dd3 : Option Addr} {ma3 mb3 mc3 md3 me3 : Option Value}
    {odI4 anI4 : Option Addr} {slI4 : Array (Option Value)} {ocI4 kVI4 dcI4 pmI4 cdI4 ctI4 : Value} {nm4 q4 : Str} {N4 : Addr} {bs4 bm4 : List Value} {sn4 : List Str} {sub4 : List Value} {ab4 : Bool} {col4 : Option Bool} {dd4 : Option Addr} {ma4 mb4 mc4 md4 me4 : Option Value}
    {odI5 anI5 : Option Addr} {slI5 : Array (Option Value)} {ocI5 kVI5 dcI5 pmI5 cdI5 ctI5 : Value} {nm5 q5 : Str} {N5 : Addr} {bs5 bm5 : List Value} {sn5 : List Str} {sub5 : List Value} {ab5 : Bool} {col5 : Option Bool} {dd5 : Option Addr} {ma5 mb5 mc5 md5 me5 : Option Value}
    {od0 an0 : Option Addr} {sl0 : Array (Option Value)} {oc0 kV0 dc0 pm0 cd0 ct0 : Value}
    {od1 an1 : Option Addr} {sl1 : Array (Option Value)} {oc1 kV1 dc1 pm1 cd1 ct1 : Value}
    {od2 an2 : Option Addr} {sl2 : Array (Option Value)} {oc2 kV2 dc2 pm2 cd2 ct2 : Value}
    {od3 an3 : Option Addr} {sl3 : Array (Option Value)} {oc3 kV3 dc3 pm3 cd3 ct3 : Value}
    {od4 an4 : Option Addr} {sl4 : Array (Option Value)} {oc4 kV4 dc4 pm4 cd4 ct4 : Value}
    {od5 an5 : Option Addr} {sl5 : Array (Option Value)} {oc5 kV5 dc5 pm5 cd5 ct5 : Value}
    {od6 an6 : Option Addr} {sl6 : Array (Option Value)} {oc6 kV6 dc6 pm6 cd6 ct6 : Value}
    (aC0 : PySem.W.nsIn K mainGlobals "InvalidRow" = some (some (.ref C0)))
    (aC1 : PySem.W.nsIn K mainGlobals "InvalidText" = some (some (.ref C1)))
    (aC2 : PySem.W.nsIn K mainGlobals "NoName" = some (some (.ref C2)))
    (aC3 : PySem.W.nsIn K mainGlobals "NoRow" = some (some (.ref C3)))
    (aC4 : PySem.W.nsIn K mainGlobals "Stops" = some (some (.ref C4)))
    (aC5 : PySem.W.nsIn K mainGlobals "Guarded" = some (some (.ref C5)))
    (aC6 : PySem.W.nsIn K mainGlobals "NoItem" = some (some (.ref C6)))
    (aC7 : PySem.W.nsIn K mainGlobals "Frozen" = some (some (.ref C7)))
    (aC8 : PySem.W.nsIn K mainGlobals "InvalidCommand" = some (some (.ref C8)))
    (aS : PySem.W.nsIn K mainGlobals "SameError" = some (some (.ref S)))
    (aI0 : PySem.W.findIn K (.ref C0) "__init__" = some (some (.ref fI0)))
    (tI0 : PySem.W.typeIn K (.ref fI0) = some (.type "function"))
    (lI0 : K.lookup fI0 = some ⟨ocI0, odI0, .func (PySem.W.fnOf "__init__" "InvalidRow.__init__" (defArgs sI0) (defBody sI0) (defScope sI0) .none kVI0 dcI0 pmI0 anI0 cdI0 ctI0), slI0⟩)
    (cI0 : PySem.W.codeIn K cdI0 "InvalidRow.__init__" = true)
    (kI0 : PySem.W.keepIn K (.ref fI0) = true)
    (xL0 : K.lookup C0 = some (excClassObj nm0 q0 C0 N0 bs0 bm0 true sn0 sub0 ab0 col0 dd0 ma0 mb0 mc0 md0 me0 "ValueError.__new__"))
    (bm0_ : PySem.HandSPX.refsVE bm0 = true)
    (sa0 : PySem.W.findIn K (.ref C0) "__setattr__" = some (some (.builtin "object.__setattr__")))
    (ec0 : PySem.W.subIn K (.ref C0) (.type "BaseException") = some true)
    (ty0 : PySem.W.typeIn K (.ref C0) = some (.type "type"))
    (kC0 : PySem.W.keepIn K (.ref C0) = true)
    (no0 : PySem.W.findIn K (.ref C0) "word" = some none)
    (aI1 : PySem.W.findIn K (.ref C1) "__init__" = some (some (.ref fI1)))
    (tI1 : PySem.W.typeIn K (.ref fI1) = some (.type "function"))
    (lI1 : K.lookup fI1 = some ⟨ocI1, odI1, .func (PySem.W.fnOf "__init__" "InvalidText.__init__" (defArgs sI1) (defBody sI1) (defScope sI1) .none kVI1 dcI1 pmI1 anI1 cdI1 ctI1), slI1⟩)
    (cI1 : PySem.W.codeIn K cdI1 "InvalidText.__init__" = true)
    (kI1 : PySem.W.keepIn K (.ref fI1) = true)
    (xL1 : K.lookup C1 = some (excClassObj nm1 q1 C1 N1 bs1 bm1 true sn1 sub1 ab1 col1 dd1 ma1 mb1 mc1 md1 me1 "ValueError.__new__"))
    (bm1_ : PySem.HandSPX.refsVE bm1 = true)
    (sa1 : PySem.W.findIn K (.ref C1) "__setattr__" = some (some (.builtin "object.__setattr__")))
    (ec1 : PySem.W.subIn K (.ref C1) (.type "BaseException") = some true)
    (ty1 : PySem.W.typeIn K (.ref C1) = some (.type "type"))
    (kC1 : PySem.W.keepIn K (.ref C1) = true)
    (no1 : PySem.W.findIn K (.ref C1) "at" = some none)
    (aI2 : PySem.W.findIn K (.ref C2) "__init__" = some (some (.ref fI2)))
    (tI2 : PySem.W.typeIn K (.ref fI2) = some (.type "function"))
    (lI2 : K.lookup fI2 = some ⟨ocI2, odI2, .func (PySem.W.fnOf "__init__" "NoName.__init__" (defArgs sI2) (defBody sI2) (defScope sI2) .none kVI2 dcI2 pmI2 anI2 cdI2 ctI2), slI2⟩)
    (cI2 : PySem.W.codeIn K cdI2 "NoName.__init__" = true)
    (kI2 : PySem.W.keepIn K (.ref fI2) = true)
    (xL2 : K.lookup C2 = some (excClassObj nm2 q2 C2 N2 bs2 bm2 true sn2 sub2 ab2 col2 dd2 ma2 mb2 mc2 md2 me2 "ValueError.__new__"))
    (bm2_ : PySem.HandSPX.refsVE bm2 = true)
    (sa2 : PySem.W.findIn K (.ref C2) "__setattr__" = some (some (.builtin "object.__setattr__")))
    (ec2 : PySem.W.subIn K (.ref C2) (.type "BaseException") = some true)
    (ty2 : PySem.W.typeIn K (.ref C2) = some (.type "type"))
    (kC2 : PySem.W.keepIn K (.ref C2) = true)
    (no2 : PySem.W.findIn K (.ref C2) "name" = some none)
    (aI3 : PySem.W.findIn K (.ref C3) "__init__" = some (some (.ref fI3)))
    (tI3 : PySem.W.typeIn K (.ref fI3) = some (.type "function"))
    (lI3 : K.lookup fI3 = some ⟨ocI3, odI3, .func (PySem.W.fnOf "__init__" "NoRow.__init__" (defArgs sI3) (defBody sI3) (defScope sI3) .none kVI3 dcI3 pmI3 anI3 cdI3 ctI3), slI3⟩)
    (cI3 : PySem.W.codeIn K cdI3 "NoRow.__init__" = true)
    (kI3 : PySem.W.keepIn K (.ref fI3) = true)
    (xL3 : K.lookup C3 = some (excClassObj nm3 q3 C3 N3 bs3 bm3 true sn3 sub3 ab3 col3 dd3 ma3 mb3 mc3 md3 me3 "ValueError.__new__"))
    (bm3_ : PySem.HandSPX.refsVE bm3 = true)
    (sa3 : PySem.W.findIn K (.ref C3) "__setattr__" = some (some (.builtin "object.__setattr__")))
    (ec3 : PySem.W.subIn K (.ref C3) (.type "BaseException") = some true)
    (ty3 : PySem.W.typeIn K (.ref C3) = some (.type "type"))
    (kC3 : PySem.W.keepIn K (.ref C3) = true)
    (no3 : PySem.W.findIn K (.ref C3) "at" = some none)
    (aI4 : PySem.W.findIn K (.ref C4) "__init__" = some (some (.ref fI4)))
    (tI4 : PySem.W.typeIn K (.ref fI4) = some (.type "function"))
    (lI4 : K.lookup fI4 = some ⟨ocI4, odI4, .func (PySem.W.fnOf "__init__" "Stops.__init__" (defArgs sI4) (defBody sI4) (defScope sI4) .none kVI4 dcI4 pmI4 anI4 cdI4 ctI4), slI4⟩)
    (cI4 : PySem.W.codeIn K cdI4 "Stops.__init__" = true)
    (kI4 : PySem.W.keepIn K (.ref fI4) = true)
    (xL4 : K.lookup C4 = some (excClassObj nm4 q4 C4 N4 bs4 bm4 true sn4 sub4 ab4 col4 dd4 ma4 mb4 mc4 md4 me4 "ValueError.__new__"))
    (bm4_ : PySem.HandSPX.refsVE bm4 = true)
    (sa4 : PySem.W.findIn K (.ref C4) "__setattr__" = some (some (.builtin "object.__setattr__")))
    (ec4 : PySem.W.subIn K (.ref C4) (.type "BaseException") = some true)
    (ty4 : PySem.W.typeIn K (.ref C4) = some (.type "type"))
    (kC4 : PySem.W.keepIn K (.ref C4) = true)
    (no4 : PySem.W.findIn K (.ref C4) "at" = some none)
    (aI5 : PySem.W.findIn K (.ref C5) "__init__" = some (some (.ref fI5)))
    (tI5 : PySem.W.typeIn K (.ref fI5) = some (.type "function"))
    (lI5 : K.lookup fI5 = some ⟨ocI5, odI5, .func (PySem.W.fnOf "__init__" "Guarded.__init__" (defArgs sI5) (defBody sI5) (defScope sI5) .none kVI5 dcI5 pmI5 anI5 cdI5 ctI5), slI5⟩)
    (cI5 : PySem.W.codeIn K cdI5 "Guarded.__init__" = true)
    (kI5 : PySem.W.keepIn K (.ref fI5) = true)
    (xL5 : K.lookup C5 = some (excClassObj nm5 q5 C5 N5 bs5 bm5 true sn5 sub5 ab5 col5 dd5 ma5 mb5 mc5 md5 me5 "ValueError.__new__"))
    (bm5_ : PySem.HandSPX.refsVE bm5 = true)
    (sa5 : PySem.W.findIn K (.ref C5) "__setattr__" = some (some (.builtin "object.__setattr__")))
    (ec5 : PySem.W.subIn K (.ref C5) (.type "BaseException") = some true)
    (ty5 : PySem.W.typeIn K (.ref C5) = some (.type "type"))
    (kC5 : PySem.W.keepIn K (.ref C5) = true)
    (no5 : PySem.W.findIn K (.ref C5) "name" = some none)
    (q6 : PySem.W.excIn K C6 [.type "ValueError", .type "Exception", .type "BaseException", .type "object"] "ValueError.__new__" = true)
    (kC6 : PySem.W.keepIn K (.ref C6) = true)
    (q7 : PySem.W.excIn K C7 [.type "ValueError", .type "Exception", .type "BaseException", .type "object"] "ValueError.__new__" = true)
    (kC7 : PySem.W.keepIn K (.ref C7) = true)
    (q8 : PySem.W.excIn K C8 [.type "ValueError", .type "Exception", .type "BaseException", .type "object"] "ValueError.__new__" = true)
    (kC8 : PySem.W.keepIn K (.ref C8) = true)
    (kin_ : kindsB K [C0, C1, C2, C3, C4, C5, C6, C7, C8] S = true)
    (a0 : PySem.W.nsIn K mainGlobals "_law_deal" = some (some (.ref f0)))
    (l0 : K.lookup f0 = some ⟨oc0, od0, .func (PySem.W.fnOf "_law_deal" "_law_deal" (defArgs sDeal) (defBody sDeal) (defScope sDeal) .none kV0 dc0 pm0 an0 cd0 ct0), sl0⟩)
    (c0 : PySem.W.codeIn K cd0 "_law_deal" = true)
    (k0 : PySem.W.keepIn K (.ref f0) = true)
    (a1 : PySem.W.nsIn K mainGlobals "_law_draw" = some (some (.ref f1)))
    (l1 : K.lookup f1 = some ⟨oc1, od1, .func (PySem.W.fnOf "_law_draw" "_law_draw" (defArgs sDraw) (defBody sDraw) (defScope sDraw) .none kV1 dc1 pm1 an1 cd1 ct1), sl1⟩)
    (c1 : PySem.W.codeIn K cd1 "_law_draw" = true)
    (k1 : PySem.W.keepIn K (.ref f1) = true)
    (a2 : PySem.W.nsIn K mainGlobals "_law_any" = some (some (.ref f2)))
    (l2 : K.lookup f2 = some ⟨oc2, od2, .func (PySem.W.fnOf "_law_any" "_law_any" (defArgs sAny) (defBody sAny) (defScope sAny) .none kV2 dc2 pm2 an2 cd2 ct2), sl2⟩)
    (c2 : PySem.W.codeIn K cd2 "_law_any" = true)
    (k2 : PySem.W.keepIn K (.ref f2) = true)
    (a3 : PySem.W.nsIn K mainGlobals "_law_made" = some (some (.ref f3)))
    (l3 : K.lookup f3 = some ⟨oc3, od3, .func (PySem.W.fnOf "_law_made" "_law_made" (defArgs sMade) (defBody sMade) (defScope sMade) .none kV3 dc3 pm3 an3 cd3 ct3), sl3⟩)
    (c3 : PySem.W.codeIn K cd3 "_law_made" = true)
    (k3 : PySem.W.keepIn K (.ref f3) = true)
    (a4 : PySem.W.nsIn K mainGlobals "_law_keeps" = some (some (.ref f4)))
    (l4 : K.lookup f4 = some ⟨oc4, od4, .func (PySem.W.fnOf "_law_keeps" "_law_keeps" (defArgs sKeeps) (defBody sKeeps) (defScope sKeeps) .none kV4 dc4 pm4 an4 cd4 ct4), sl4⟩)
    (c4 : PySem.W.codeIn K cd4 "_law_keeps" = true)
    (k4 : PySem.W.keepIn K (.ref f4) = true)
    (a5 : PySem.W.nsIn K mainGlobals "_law_flags" = some (some (.ref f5)))
    (l5 : K.lookup f5 = some ⟨oc5, od5, .func (PySem.W.fnOf "_law_flags" "_law_flags" (defArgs sFlags) (defBody sFlags) (defScope sFlags) .none kV5 dc5 pm5 an5 cd5 ct5), sl5⟩)
    (c5 : PySem.W.codeIn K cd5 "_law_flags" = true)
    (k5 : PySem.W.keepIn K (.ref f5) = true)
    (a6 : PySem.W.nsIn K mainGlobals "law" = some (some (.ref f6)))
    (l6 : K.lookup f6 = some ⟨oc6, od6, .func (PySem.W.fnOf "law" "law" (defArgs sLaw) (defBody sLaw) (defScope sLaw) .none kV6 dc6 pm6 an6 cd6 ct6), sl6⟩)
    (c6 : PySem.W.codeIn K cd6 "law" = true)
    (k6 : PySem.W.keepIn K (.ref f6) = true)
    (z_max : PySem.W.nsIn K mainGlobals "max" = some none)
    (z_int : PySem.W.nsIn K mainGlobals "int" = some none)
    (z_range : PySem.W.nsIn K mainGlobals "range" = some none)
    (z_tuple : PySem.W.nsIn K mainGlobals "tuple" = some none)
    (z_repr : PySem.W.nsIn K mainGlobals "repr" = some none)
    (z_enumerate : PySem.W.nsIn K mainGlobals "enumerate" = some none)
    (z_isinstance : PySem.W.nsIn K mainGlobals "isinstance" = some none)
    (z_ValueError : PySem.W.nsIn K mainGlobals "ValueError" = some none)
    (z_KeyError : PySem.W.nsIn K mainGlobals "KeyError" = some none)
    : ∃ fd : FuncData, (∀ (s : Shared) (v : Value), BindsTo s fd ⟨[v], []⟩ [("_law_script", v)]) ∧ ∀ base : Heap, K.In base → base.Ns mainGlobals mg → FnG l.prog w K mg base CX0 6 fa fd ["_law_script"] (spLaw K) := by
  have e := hfa.symm.trans (PySem.W.mg_of X G a6)
  cases e
  have T : Nm3 mg := ⟨⟨⟨PySem.W.mg_none_of X G z_max, PySem.W.mg_none_of X G z_int⟩, PySem.W.mg_none_of X G z_range, PySem.W.mg_none_of X G z_tuple⟩, PySem.W.mg_none_of X G z_repr, PySem.W.mg_none_of X G z_enumerate⟩
  have F0 := fun_mk (st := sDeal) l0 c0 k0
  have b0 := F0.binds (ps := ["_law_script", "_law_base"]) fun _ _ _ _ _ _ us hl => match us, hl with | [_, _], _ => rfl
  have F1 := fun_mk (st := sDraw) l1 c1 k1
  have b1 := F1.binds (ps := ["_law_deal_here", "_law_many"]) fun _ _ _ _ _ _ us hl => match us, hl with | [_, _], _ => rfl
  have F2 := fun_mk (st := sAny) l2 c2 k2
  have b2 := F2.binds (ps := ["_law_deal_here", "_law_deep"]) fun _ _ _ _ _ _ us hl => match us, hl with | [_, _], _ => rfl
  have F3 := fun_mk (st := sMade) l3 c3 k3
  have b3 := F3.binds (ps := ["_law_a"]) fun _ _ _ _ _ _ us hl => match us, hl with | [_], _ => rfl
  have F4 := fun_mk (st := sKeeps) l4 c4 k4
  have b4 := F4.binds (ps := ["_law_errors"]) fun _ _ _ _ _ _ us hl => match us, hl with | [_], _ => rfl
  have F5 := fun_mk (st := sFlags) l5 c5 k5
  have b5 := F5.binds (ps := ["_law_error"]) fun _ _ _ _ _ _ us hl => match us, hl with | [_], _ => rfl
  have FI0 := fun_mk (st := sI0) lI0 cI0 kI0
  have ox0 : OexC K C0 := ⟨⟨_, _, _, _, _, _, _, _, _, _, _, _, _, _, _, xL0, bm0_⟩, sa0, ec0, ty0, kC0⟩
  have E0 := (kindsB_more kin_ (k := 0) (by decide)).1
  have FI1 := fun_mk (st := sI1) lI1 cI1 kI1
  have ox1 : OexC K C1 := ⟨⟨_, _, _, _, _, _, _, _, _, _, _, _, _, _, _, xL1, bm1_⟩, sa1, ec1, ty1, kC1⟩
  have E1 := (kindsB_more kin_ (k := 1) (by decide)).1
  have FI2 := fun_mk (st := sI2) lI2 cI2 kI2
  have ox2 : OexC K C2 := ⟨⟨_, _, _, _, _, _, _, _, _, _, _, _, _, _, _, xL2, bm2_⟩, sa2, ec2, ty2, kC2⟩
  have E2 := (kindsB_more kin_ (k := 2) (by decide)).1
  have FI3 := fun_mk (st := sI3) lI3 cI3 kI3
  have ox3 : OexC K C3 := ⟨⟨_, _, _, _, _, _, _, _, _, _, _, _, _, _, _, xL3, bm3_⟩, sa3, ec3, ty3, kC3⟩
  have E3 := (kindsB_more kin_ (k := 3) (by decide)).1
  have FI4 := fun_mk (st := sI4) lI4 cI4 kI4
  have ox4 : OexC K C4 := ⟨⟨_, _, _, _, _, _, _, _, _, _, _, _, _, _, _, xL4, bm4_⟩, sa4, ec4, ty4, kC4⟩
  have E4 := (kindsB_more kin_ (k := 4) (by decide)).1
  have FI5 := fun_mk (st := sI5) lI5 cI5 kI5
  have ox5 : OexC K C5 := ⟨⟨_, _, _, _, _, _, _, _, _, _, _, _, _, _, _, xL5, bm5_⟩, sa5, ec5, ty5, kC5⟩
  have E5 := (kindsB_more kin_ (k := 5) (by decide)).1
  have E6 := (kindsB_more kin_ (k := 6) (by decide)).1
  have E7 := (kindsB_more kin_ (k := 7) (by decide)).1
  have E8 := (kindsB_more kin_ (k := 8) (by decide)).1
  have kd : Kinds K mg (at9 [C0, C1, C2, C3, C4, C5, C6, C7, C8]) S := {
    kit := fun k j hk hj => kindsB_kit kin_ hk hj
    same := fun k hk => (kindsB_more kin_ hk).2.1
    ve := fun k hk => (kindsB_more kin_ hk).2.2.1
    ke := fun k hk => (kindsB_more kin_ hk).2.2.2
    ec := fun k hk => (kindsB_more kin_ hk).1
    glS := PySem.W.mg_of X G aS
    isi := PySem.W.mg_none_of X G z_isinstance
    mve := PySem.W.mg_none_of X G z_ValueError
    mke := PySem.W.mg_none_of X G z_KeyError
    g0 := PySem.W.mg_of X G aC0
    g1 := PySem.W.mg_of X G aC1
    g2 := PySem.W.mg_of X G aC2
    g3 := PySem.W.mg_of X G aC3
    g4 := PySem.W.mg_of X G aC4
    g5 := PySem.W.mg_of X G aC5
    g6 := PySem.W.mg_of X G aC6
    g7 := PySem.W.mg_of X G aC7
    g8 := PySem.W.mg_of X G aC8
  }
  refine ⟨PySem.W.fnOf "law" "law" (defArgs sLaw) (defBody sLaw) (defScope sLaw) .none kV6 dc6 pm6 an6 cd6 ct6, fun s v => .of_eq rfl, fun base _ _ => ?_⟩
  have nn : Nine l.prog w K mg base (at9 [C0, C1, C2, C3, C4, C5, C6, C7, C8]) := {
    x0 := ⟨_, _, ox0, aI0, tI0, PySem.W.mg_of X G aC0, no0, ⟨E0.hg, E0.hk, E0.hs, E0.hd⟩, E0, ok_i0 FI0 ox0 no0, bind1_0 FI0, bind2_0 FI0⟩
    x1 := ⟨_, _, ox1, aI1, tI1, PySem.W.mg_of X G aC1, no1, ⟨E1.hg, E1.hk, E1.hs, E1.hd⟩, E1, ok_i1 FI1 ox1 no1, bind1_1 FI1, bind2_1 FI1⟩
    x2 := ⟨_, _, ox2, aI2, tI2, PySem.W.mg_of X G aC2, no2, ⟨E2.hg, E2.hk, E2.hs, E2.hd⟩, E2, ok_i2 FI2 ox2 no2, bind1_2 FI2, bind2_2 FI2⟩
    x3 := ⟨_, _, ox3, aI3, tI3, PySem.W.mg_of X G aC3, no3, ⟨E3.hg, E3.hk, E3.hs, E3.hd⟩, E3, ok_i3 FI3 ox3 no3, bind1_3 FI3, bind2_3 FI3⟩
    x4 := ⟨_, _, ox4, aI4, tI4, PySem.W.mg_of X G aC4, no4, ⟨E4.hg, E4.hk, E4.hs, E4.hd⟩, E4, ok_i4 FI4 ox4 no4, bind1_4 FI4, bind2_4 FI4⟩
    x5 := ⟨_, _, ox5, aI5, tI5, PySem.W.mg_of X G aC5, no5, ⟨E5.hg, E5.hk, E5.hs, E5.hd⟩, E5, ok_i5 FI5 ox5 no5, bind1_5 FI5, bind2_5 FI5⟩
    z0 := ⟨q6, PySem.W.mg_of X G aC6, kC6, E6⟩
    z1 := ⟨q7, PySem.W.mg_of X G aC7, kC7, E7⟩
    z2 := ⟨q8, PySem.W.mg_of X G aC8, kC8, E8⟩
  }
  have dr : Df l.prog w K mg base 1 "_law_draw" _ _ ["_law_deal_here", "_law_many"] spDraw := ⟨ok_draw F1 T.toNms, PySem.W.mg_of X G a1, k1, b1⟩
  exact ok_law (fun_mk (st := sLaw) l6 c6 k6) T ⟨ok_deal F0 T.toNms, PySem.W.mg_of X G a0, k0, b0⟩ ⟨ok_any F2 T.toNm2 dr (PySem.W.mg_of X G a2) b2 4, PySem.W.mg_of X G a2, k2, b2⟩
    ⟨ok_made F3 nn, PySem.W.mg_of X G a3, k3, b3⟩ ⟨ok_keeps F4 nn, PySem.W.mg_of X G a4, k4, b4⟩ ⟨ok_flags F5 kd, PySem.W.mg_of X G a5, k5, b5⟩
theorem walk {l : PySem.W.OpenLaw} {q : Program} {loose : List Str} {XP : (Str → Option Value) → Heap → Prop} {YP : World → Heap → Prop} {d : DefRec} {K : Params → PySem.W.Frag} (hn : l.most = some 63) (hdf : d.params.defaults = [])
    (hY : ∀ (w : World) (h : Heap), YP w h → (K w.params).In h)
    (F : ∀ (w : World) (mg : Str → Option Value) (fa : Addr) (h : Heap), (K w.params).In h → h.Ns mainGlobals mg → mg d.name = some (.ref fa) →
      ∃ fd : FuncData, (∀ (s : Shared) (u : Value), BindsTo s fd ⟨[u], []⟩ [("_law_script", u)]) ∧
        ∀ base : Heap, (K w.params).In base → base.Ns mainGlobals mg → FnG l.prog w (K w.params) mg base CX0 6 fa fd ["_law_script"] (spLaw (K w.params))) :
    PySem.W.WalkO q loose XP YP l.row.toRowW d [] (fun f vs => PySem.call f vs) :=
  walk_ofG (n := 63) (k := 6) (x := "_law_script") (CX := fun _ => CX0) (sp := fun w => spLaw (K w.params)) hn (by decide) hdf ⟨rfl, by decide, by decide⟩ hY F
    (fun _ _ a ns hl _ _ hS => ⟨a, ns, rfl, hS, hl, fun _ => rfl⟩) fun _ _ _ _ _ z => z
end L01
open PySem PySem.W PyProof.Rows
set_option maxRecDepth 100000 in
set_option maxHeartbeats 0 in
theorem PySem.Challenge.cw_samelists_k01_errors_and_their_attribute_holds : PySem.Challenge.rw_samelists_k01_errors_and_their_attribute.Holds := by
  w_on; o_law; k_head; (case hw => w_witness2)
  k_fill
  refine L01.walk (l := PySem.Challenge.rw_samelists_k01_errors_and_their_attribute) rfl rfl (fun w h Y => PySem.W.kIn_of Y) ?F
  case F =>
    intro w mg fa h KX G hmg
    refine' L01.all_mk KX G hmg ?aC0 ?aC1 ?aC2 ?aC3 ?aC4 ?aC5 ?aC6 ?aC7 ?aC8 ?aS ?aI0 ?tI0 ?lI0 ?cI0 ?kI0 ?xL0 ?bm0_ ?sa0 ?ec0 ?ty0 ?kC0 ?no0 ?aI1 ?tI1 ?lI1 ?cI1 ?kI1 ?xL1 ?bm1_ ?sa1 ?ec1 ?ty1 ?kC1 ?no1 ?aI2 ?tI2 ?lI2 ?cI2 ?kI2 ?xL2 ?bm2_ ?sa2 ?ec2 ?ty2 ?kC2 ?no2 ?aI3 ?tI3 ?lI3 ?cI3 ?kI3 ?xL3 ?bm3_ ?sa3 ?ec3 ?ty3 ?kC3 ?no3 ?aI4 ?tI4 ?lI4 ?cI4 ?kI4 ?xL4 ?bm4_ ?sa4 ?ec4 ?ty4 ?kC4 ?no4 ?aI5 ?tI5 ?lI5 ?cI5 ?kI5 ?xL5 ?bm5_ ?sa5 ?ec5 ?ty5 ?kC5 ?no5 ?q6 ?kC6 ?q7 ?kC7 ?q8 ?kC8 ?kin_ ?a0 ?l0 ?c0 ?k0 ?a1 ?l1 ?c1 ?k1 ?a2 ?l2 ?c2 ?k2 ?a3 ?l3 ?c3 ?k3 ?a4 ?l4 ?c4 ?k4 ?a5 ?l5 ?c5 ?k5 ?a6 ?l6 ?c6 ?k6 ?z_max ?z_int ?z_range ?z_tuple ?z_repr ?z_enumerate ?z_isinstance ?z_ValueError ?z_KeyError
    (case aC0 => k_is)
    (case aC1 => k_is)
    (case aC2 => k_is)
    (case aC3 => k_is)
    (case aC4 => k_is)
    (case aC5 => k_is)
    (case aC6 => k_is)
    (case aC7 => k_is)
    (case aC8 => k_is)
    (case aS => k_is)
    (case aI0 => k_is)
    (case tI0 => k_is)
    (case lI0 => k_is)
    (case cI0 => k_is)
    (case kI0 => k_is)
    (case xL0 => k_is)
    (case bm0_ => first | decide +kernel | rfl)
    (case sa0 => k_is)
    (case ec0 => k_is)
    (case ty0 => k_is)
    (case kC0 => k_is)
    (case no0 => k_is)
    (case aI1 => k_is)
    (case tI1 => k_is)
    (case lI1 => k_is)
    (case cI1 => k_is)
    (case kI1 => k_is)
    (case xL1 => k_is)
    (case bm1_ => first | decide +kernel | rfl)
    (case sa1 => k_is)
    (case ec1 => k_is)
    (case ty1 => k_is)
    (case kC1 => k_is)
    (case no1 => k_is)
    (case aI2 => k_is)
    (case tI2 => k_is)
    (case lI2 => k_is)
    (case cI2 => k_is)
    (case kI2 => k_is)
    (case xL2 => k_is)
    (case bm2_ => first | decide +kernel | rfl)
    (case sa2 => k_is)
    (case ec2 => k_is)
    (case ty2 => k_is)
    (case kC2 => k_is)
    (case no2 => k_is)
    (case aI3 => k_is)
    (case tI3 => k_is)
    (case lI3 => k_is)
    (case cI3 => k_is)
    (case kI3 => k_is)
    (case xL3 => k_is)
    (case bm3_ => first | decide +kernel | rfl)
    (case sa3 => k_is)
    (case ec3 => k_is)
    (case ty3 => k_is)
    (case kC3 => k_is)
    (case no3 => k_is)
    (case aI4 => k_is)
    (case tI4 => k_is)
    (case lI4 => k_is)
    (case cI4 => k_is)
    (case kI4 => k_is)
    (case xL4 => k_is)
    (case bm4_ => first | decide +kernel | rfl)
    (case sa4 => k_is)
    (case ec4 => k_is)
    (case ty4 => k_is)
    (case kC4 => k_is)
    (case no4 => k_is)
    (case aI5 => k_is)
    (case tI5 => k_is)
    (case lI5 => k_is)
    (case cI5 => k_is)
    (case kI5 => k_is)
    (case xL5 => k_is)
    (case bm5_ => first | decide +kernel | rfl)
    (case sa5 => k_is)
    (case ec5 => k_is)
    (case ty5 => k_is)
    (case kC5 => k_is)
    (case no5 => k_is)
    (case q6 => k_exc)
    (case kC6 => k_is)
    (case q7 => k_exc)
    (case kC7 => k_is)
    (case q8 => k_exc)
    (case kC8 => k_is)
    (case kin_ => kernel_rfl)
    (case a0 => k_is)
    (case l0 => k_is)
    (case c0 => k_is)
    (case k0 => k_is)
    (case a1 => k_is)
    (case l1 => k_is)
    (case c1 => k_is)
    (case k1 => k_is)
    (case a2 => k_is)
    (case l2 => k_is)
    (case c2 => k_is)
    (case k2 => k_is)
    (case a3 => k_is)
    (case l3 => k_is)
    (case c3 => k_is)
    (case k3 => k_is)
    (case a4 => k_is)
    (case l4 => k_is)
    (case c4 => k_is)
    (case k4 => k_is)
    (case a5 => k_is)
    (case l5 => k_is)
    (case c5 => k_is)
    (case k5 => k_is)
    (case a6 => k_is)
    (case l6 => k_is)
    (case c6 => k_is)
    (case k6 => k_is)
    (case z_max => k_is)
    (case z_int => k_is)
    (case z_range => k_is)
    (case z_tuple => k_is)
    (case z_repr => k_is)
    (case z_enumerate => k_is)
    (case z_isinstance => k_is)
    (case z_ValueError => k_is)
    (case z_KeyError => k_is)
#print axioms PySem.Challenge.cw_samelists_k01_errors_and_their_attribute_holds
