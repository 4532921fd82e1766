import PyProof.Rows.All
import Wide.All
import OpenK.AllK
import Wide.FinOn
import PyProof.EqAt
import PyProof.EqKinds
import PyProof.TupleCall
import KE.KExcIs
import HandS.ForMost
import HandS.ForExc
import HandS.IsInst
import HandS.ExcInit
import HandS.ExcValue
import HandS.ExcField
import HandS.ExcIs
import HandS.MakeKwOnly
import HandS.Lambda
import HandS.Nested
import PyProof.ReprRoads
import HandS.Walk
import HandS.EndTab
import HandS.HeadHook4
import KE.KStateDown
import HandS.Head0
import HandS.Head1
import HandS.Head2
import PySem.Challenge.RW_samefromhere_k00_errors_made
set_option Elab.async false
set_option linter.all false
set_option maxRecDepth 100000
set_option maxHeartbeats 4000000
namespace PySem
namespace K0K
open PySem.W PySem.Calls PyProof.Rows PySem.HandSPX
section
variable {M : Model} {A : Around} {E : Value → Shared → Prop} {h : Heap} {g : Array GenState} {d : Drawn} {t : Nat} {os : OsState}
variable {nm q : Str} {C N : Addr} {bs bm bmB : List Value} {hdct : Bool} {sn : List Str} {sub : List Value} {ab : Bool} {col : Option Bool} {dd : Option Addr} {k0 k1 k2 k3 k5 : Option Value} {B newId initId : String}
theorem check_newK (F : ExcBaseFacts B newId initId bmB) (hT : ∀ X : String, bm.contains (.type X) = bmB.contains (.type X)) {rest : List Value} {kw : List (Str × Value)} {Q : Unit → Shared → Prop}
    (hC : h.get? C = some (excClassObj nm q C N bs bm hdct sn sub ab col dd k0 k1 k2 k3 k5 newId)) (hq : Q () ⟨h, g, d, t, os⟩) : wpAny M A (checkBuiltinCall newId ⟨.ref C :: rest, kw⟩) Q E ⟨h, g, d, t, os⟩ := by
  have hcont : (Value.ref C :: bm).contains (.type B) = true := by rw [List.contains_cons, hT, F.hasB, Bool.or_true]
  have hstar := F.noStar
  simp only [checkBuiltinCall, F.newKind, F.newSplit, F.newRow]
  repeat (first | refine wpAny_loadPart_at hC ?_ | (refine wpAny_isSubtype_exc hC ?_; rw [hcont]) | refine wpAny_staticBase_exc hC ?_ | refine wpAny_madeBy_exc hC ?_ | simp only [bne_self_eq_false, Bool.false_eq_true, if_false] | wp_step)
  exact hq
end
section
variable {prog : Program} {w : World} {A : Around} {E : Value → Shared → Prop} {R : Result → Shared → Prop} {h : Heap} {g : Array GenState} {d : Drawn} {t : Nat} {os : OsState}
variable {nm q : Str} {C N : Addr} {bs bm bmB : List Value} {hdct : Bool} {sn : List Str} {sub : List Value} {ab : Bool} {col : Option Bool} {dd : Option Addr} {k0 k1 k2 k3 k5 : Option Value} {B newId initId : String}
theorem newK (F : ExcBaseFacts B newId initId bmB) (hT : ∀ X : String, bm.contains (.type X) = bmB.contains (.type X)) {rest : List Value} {kw : List (Str × Value)}
    (hC : h.get? C = some (excClassObj nm q C N bs bm hdct sn sub ab col dd k0 k1 k2 k3 k5 newId))
    (hq : R (.ok (.ret (.ref (h.objs.size + 1)))) ⟨(h.push { cls := .type "tuple", data := .seq rest.toArray }).push
      { cls := .ref C, data := .fields #[.ref h.objs.size, .none, .none, .none, .bool false, .none] }, g, d, t, os⟩) (hrest : rest.length ≤ sizeLine) :
    codeAny (model prog w) A (.builtin newId ⟨.ref C :: rest, kw⟩) R ⟨h, g, d, t, os⟩ := by
  have hends := F.ends
  have hcB : (Value.ref C :: bm).contains (.type B) = true := by rw [List.contains_cons, hT, F.hasB, Bool.or_true]
  have hcA : (Value.ref C :: bm).contains (.type "AttributeError") = false := by rw [List.contains_cons, hT, F.noAttr]; rfl
  have hcN : (Value.ref C :: bm).contains (.type "NameError") = false := by rw [List.contains_cons, hT, F.noName]; rfl
  refine codeAny_builtinAt F.entry ?_
  unfold Builtin.«BaseException.__new__»
  refine wpAt_bind ?_
  show wpAt _ _ _ (stack >>= _) _ _ _
  refine wpAt_bind (wpAt_stack fun p below => wpAt_of_wpAny ?_)
  wp_walk
  refine wpAt_of_wpAny ?_
  rw [F.owner]
  repeat (first | with_reducible refine wpAny_madeHere_exc F.canon hC ?_ | with_reducible refine wpAny_loadPart_at hC ?_ | (with_reducible refine wpAny_isSubtype_exc hC ?_; first | rw [hcB] | rw [hcA] | rw [hcN]) | wp_step)
  show R _ _
  rw [Heap.size_push]
  exact hq
theorem type_callK (F : ExcBaseFacts B newId initId bmB) (hT : ∀ X : String, bm.contains (.type X) = bmB.contains (.type X)) {rest : List Value} {kw : List (Str × Value)} {fI : Addr} {Q : Fin → Shared → Prop}
    (hC : h.get? C = some (excClassObj nm q C N bs bm hdct sn sub ab col dd k0 k1 k2 k3 k5 newId))
    (hi : W.Looks (model prog w) h (typeLookup (.ref C) "__init__") (some (.ref fI))) (hb : ∀ self, W.Looks (model prog w) h (bindSpecial (.ref fI) self) (.ref fI, [self])) (hrest : rest.length ≤ sizeLine)
    (hq : codeAny (model prog w) A (.call (.ref fI) ⟨.ref (h.objs.size + 1) :: rest, kw⟩)
      (fun r s' => match r with | .ok (.ret v) => v = .none ∧ Q (.done (.ret (.ref (h.objs.size + 1)))) s' | .ok _ => False | .error e => E e s')
      ⟨(h.push (W.kdv_tup rest)).push (excO C h.objs.size), g, d, t, os⟩) :
    wpAny (model prog w) A (Builtin.«type.__call__» ⟨.ref C :: rest, kw⟩) Q E ⟨h, g, d, t, os⟩ := by
  repeat (first | with_reducible refine wpAny_loadPart_at hC ?_ | with_reducible refine wpAny_madeBy_exc hC ?_ | wp_step)
  refine codeAny_call_builtin_code (Code.quiet_builtin _ F.quiet) (check_newK F hT hC ?_)
  refine newK F hT hC ?_ hrest
  show wpAny _ _ _ _ _ _
  have k : ∀ b o, h.get? b = some o → ((h.push (W.kdv_tup rest)).push (excO C h.objs.size)).get? b = some o := fun b o e => Heap.get?_push_of_some _ (Heap.get?_push_of_some _ e)
  have hC₁ := k _ _ hC
  have hget : ((h.push (W.kdv_tup rest)).push (excO C h.objs.size)).get? (h.objs.size + 1) = some (excO C h.objs.size) := by heap_get
  have hcC : (Value.ref C :: bm).contains (.ref C) = true := by simp
  have i1 := hi.keeps k
  have b1 := (hb (.ref (h.objs.size + 1))).keeps k
  unfold isInstance
  repeat (first | with_reducible refine wpAny_loadPart_at hget ?_ | (with_reducible refine wpAny_isSubtype_exc hC₁ ?_; rw [hcC]) | wp_step)
  show wpAny _ _ (typeLookup (.ref C) _) _ _ _
  refine i1.at ?_
  refine wpAny_holding (wpAny_bind (b1.at ?_))
  refine wpAny_bind (wpAny_call (codeAny_mono hq fun r s' z => ?_))
  rcases r with e | (v | _ | _ | _) <;> first | exact z | exact z.elim | skip
  obtain ⟨rfl, z⟩ := z
  first
    | exact wpAny_pure (wpAny_pure z)
    | (wp_walk; exact z)
theorem check_type_callK {M : Model} {rest : List Value} {kw : List (Str × Value)} {Q : Unit → Shared → Prop} (hC : h.get? C = some (excClassObj nm q C N bs bm hdct sn sub ab col dd k0 k1 k2 k3 k5 newId))
    (hq : Q () ⟨h, g, d, t, os⟩) : wpAny M A (checkBuiltinCall "type.__call__" ⟨.ref C :: rest, kw⟩) Q E ⟨h, g, d, t, os⟩ := by
  have f3 := tc_sub
  have hT : (⟨h, g, d, t, os⟩ : Shared).TypeIs (.ref C) "type" := ⟨_, hC, rfl⟩
  simp only [checkBuiltinCall, tc_kind, tc_split]
  repeat (any_goals (first | assumption | with_reducible refine wpAny_loadPart_at hC ?_ | with_reducible refine wpAny_onRaise ?_ | with_reducible refine wpAny_map ?_ | wp_step))
theorem call_ownK (F : ExcBaseFacts B newId initId bmB) (hT : ∀ X : String, bm.contains (.type X) = bmB.contains (.type X)) {rest : List Value} {kw : List (Str × Value)} {fI : Addr}
    (hC : h.get? C = some (excClassObj nm q C N bs bm hdct sn sub ab col dd k0 k1 k2 k3 k5 newId))
    (hi : W.Looks (model prog w) h (typeLookup (.ref C) "__init__") (some (.ref fI))) (hb : ∀ self, W.Looks (model prog w) h (bindSpecial (.ref fI) self) (.ref fI, [self])) (hrest : rest.length ≤ sizeLine)
    (hq : codeAny (model prog w) (A.under (.builtin "type.__call__" ⟨.ref C :: rest, kw⟩)) (.call (.ref fI) ⟨.ref (h.objs.size + 1) :: rest, kw⟩) (W.InitBack (h.objs.size + 1) R)
      ⟨(h.push (W.kdv_tup rest)).push (excO C h.objs.size), g, d, t, os⟩) :
    codeAny (model prog w) A (.call (.ref C) ⟨rest, kw⟩) R ⟨h, g, d, t, os⟩ := by
  have f1 := tc_lookup
  have f2 := tc_bind (.ref C)
  have hTy : (⟨h, g, d, t, os⟩ : Shared).TypeIs (.ref C) "type" := ⟨_, hC, rfl⟩
  refine codeAny_of_tree ?_
  show wpAny _ _ (callAny (.ref C) _) _ _ _
  repeat (any_goals (first | assumption | with_reducible refine wpAny_loadPart_at hC ?_ | wp_step))
  refine ⟨rfl, ?_⟩
  refine codeAny_call_builtin_at (Code.quiet_builtin _ (by decide +kernel)) entry_typeCall (check_type_callK hC (type_callK F hT hC hi hb hrest ?_))
  refine codeAny_mono hq fun r s' z => ?_
  rcases r with e | (v | _ | _ | _) <;> exact z
end
end K0K
end PySem
set_option maxHeartbeats 4000000
namespace K0
open PySem PySem.Spec PyProof.Rows L2
/-! ### exceptions of an own class, as values -/
section
variable {X : Cx}
theorem run_oex {pins : List (Addr × Obj)} {σ : L2.St} {H : Hp} {s : Shared} {Q : VK} {us us2 : List Value} {kw : List (Str × Value)} {vs : List V} {C fI : Addr} {k : Nat} {fd : FuncData} {ps : List Str} {sp : Sp} (T : OexC X.K C)
    (iC : PySem.W.findIn X.K (.ref C) "__init__" = some (some (.ref fI))) (tI : PySem.W.typeIn X.K (.ref fI) = some (.type "function")) (F1 : FnOk X.prog X.w X.K X.mg X.base CX0 k fI fd ps sp) (hr : Room (k + 1) X.A)
    (hb : ∀ (s : Shared) (a : Addr), X.K.In s.heap → BindsTo s fd ⟨.ref a :: us, kw⟩ (ps.zip (.ref a :: us2))) (I : Inv X pins σ H s) (r : Vals vs us2) (hz : us.length ≤ 1000)
    (h : ∀ a, H a = none → sp (.ref a :: vs) (upd H a (exo a C none)) (fun v H2 => v = .non ∧ Q (.ref a) H2) E0) :
    wpAny (model X.prog X.w) X.A (call (.ref C) us kw) (EP X pins σ Q) X.xe s := by
  obtain ⟨nm, q, N, bs, bm, sn, sub, ab, col, dd, k0, k1, k2, k3, k5, hC, hbm⟩ := T.cls
  obtain ⟨hp, g, dr, tk, os⟩ := s
  have hsz : hp.objs.size ≤ hp.objs.size + 1 := Nat.le_succ _
  have hn : H (hp.objs.size + 1) = none := I.hok.fresh hsz
  have hq := h (hp.objs.size + 1) hn
  have kk : ∀ b o, hp.get? b = some o → ((hp.push (PySem.W.kdv_tup us)).push (PySem.HandSPX.excO C hp.objs.size)).get? b = some o := fun b o e => Heap.get?_push_of_some _ (Heap.get?_push_of_some _ e)
  have hget : ((hp.push (PySem.W.kdv_tup us)).push (PySem.HandSPX.excO C hp.objs.size)).get? (hp.objs.size + 1) = some (PySem.HandSPX.excO C hp.objs.size) := by heap_get
  have I2 : Inv X pins σ (upd H (hp.objs.size + 1) (exo (hp.objs.size + 1) C none)) ⟨(hp.push (PySem.W.kdv_tup us)).push (PySem.HandSPX.excO C hp.objs.size), g, dr, tk, os⟩ :=
    I.laid (t' := tk) (a := hp.objs.size + 1) (o := exo (hp.objs.size + 1) C none) (h' := (hp.push (PySem.W.kdv_tup us)).push (PySem.HandSPX.excO C hp.objs.size)) kk hsz (exo_ok hget)
  have r2 : Vals (V.ref (hp.objs.size + 1) :: vs) (Value.ref (hp.objs.size + 1) :: us2) := .cons rfl r
  have hus : us.length ≤ sizeLine := by
    rw [sizeLine_eq]
    omega
  refine wpAny_call (PySem.K0K.call_ownK F.excBase_ValueError (fun Y => PySem.HandSPX.refsVE_contains Y bm hbm) (I.kIn _ _ hC) (PySem.W.looks_findIn I.kIn iC) (fun self => PySem.W.bind_fn I.kIn self tI) hus
    (codeAny_mono (F1.run _ X.stack _ _ ⟨Value.ref (hp.objs.size + 1) :: us, kw⟩ (Value.ref (hp.objs.size + 1) :: us2) _ _ E0 (hr.make C us kw) (I2.env0.make C us kw) (hb _ _ I2.kIn) r2 hq) fun r s' hq' => ?_))
  cases r with
  | error er => exact False.elim hq'
  | ok fl =>
    cases fl with
    | ret u =>
      obtain ⟨v, H2, I3, rv, ev, q2⟩ := I2.after hq'
      subst ev
      exact ⟨rv, .ref (hp.objs.size + 1), H2, I3, rfl, q2⟩
    | next => exact False.elim hq'
    | brk => exact False.elim hq'
    | cont => exact False.elim hq'
/-- C(e, ..) -/
def tOex (C : Addr) (sp : Sp) (ta : TA) : TE := fun σ H Q => ta σ H fun vs H1 => vs.length ≤ 1000 ∧ ∀ a, H1 a = none → sp (.ref a :: vs) (upd H1 a (exo a C none)) (fun v H2 => v = .non ∧ Q (.ref a) H2) E0
theorem pe_oex {x : Str} {C fI : Addr} {k : Nat} {fd : FuncData} {ps : List Str} {sp : Sp} {e : Expr} {es : List Expr} {ta : TA} {p pos : Pos} (T : OexC X.K C) (iC : PySem.W.findIn X.K (.ref C) "__init__" = some (some (.ref fI)))
    (tI : PySem.W.typeIn X.K (.ref fI) = some (.type "function")) (F1 : FnOk X.prog X.w X.K X.mg X.base CX0 k fI fd ps sp) (hr : Room (k + 1) X.A) (hb : Binds X.K fd ps []) (hg : Gl X x) (hm : X.mg x = some (.ref C)) (ha : PA X (e :: es) ta)
    (hdb : (x == ("__debug__" : Str)) = false := by decide) (he : starEach (e :: es) X.env = (false, eval e X.env) :: starEach es X.env := by rfl) (hpl : (backTo pos (starEach es X.env)).any (·.1) = false := by rfl) :
    PE X (.Call (.Name x p) (e :: es) [] pos) (tOex C sp ta) := by
  refine ⟨fun pins s σ H Q I h => ?_⟩
  refine wpAny_Call_Name_kw (ld_glob I hg hm ?_ hdb)
  refine PySem.W.callWith_K (h₀ := X.base) I.ok.mod.kin T.kC (thn (ha.run pos pins s σ H _ I h) fun us s1 ⟨vs, H1, I1, r1, hz, q1⟩ => ⟨I1.kIn, ?_⟩) he hpl
  show wpAny _ _ (call (.ref C) us) _ _ _
  obtain ⟨hp, g, dr, tk, os⟩ := s1
  have hlen : ∀ a : Addr, (Value.ref a :: us).length = ps.length := fun a => by
    have z := F1.len _ _ _ _ (q1 (hp.objs.size + 1) (I1.hok.fresh (Nat.le_succ _)))
    rw [← z, List.length_cons, List.length_cons, r1.length]
  refine run_oex T iC tI F1 hr (fun s a X1 => ?_) I1 r1 (by rw [← r1.length]; exact hz) q1
  have b := hb s (Value.ref a :: us) X1 (by rw [List.append_nil]; exact hlen a)
  rw [List.append_nil] at b
  exact b
/-- C(f = e, ..) -/
def tOexK (C : Addr) (sp : Sp) (n : Nat) (g : List V → List V) (tk : TA) : TE := fun σ H Q => tk σ H fun zs H1 => zs.length = n ∧ ∀ a, H1 a = none → sp (.ref a :: g zs) (upd H1 a (exo a C none)) (fun v H2 => v = .non ∧ Q (.ref a) H2) E0
theorem pe_oexK {x : Str} {C fI : Addr} {k : Nat} {fd : FuncData} {ps ks : List Str} {sp : Sp} {kws : List Keyword} {tk : TA} {p pos : Pos} {g : {α : Type} → List α → List α} (T : OexC X.K C) (iC : PySem.W.findIn X.K (.ref C) "__init__" = some (some (.ref fI)))
    (tI : PySem.W.typeIn X.K (.ref fI) = some (.type "function")) (F1 : FnOk X.prog X.w X.K X.mg X.base CX0 k fI fd ps sp) (hr : Room (k + 1) X.A)
    (hb : ∀ (s : Shared) (a : Addr) (ws : List Value), X.K.In s.heap → ws.length = ks.length → BindsTo s fd ⟨[.ref a], ks.zip ws⟩ (ps.zip (.ref a :: g ws))) (hgv : ∀ {zs : List V} {ws : List Value}, Vals zs ws → Vals (g zs) (g ws))
    (hg : Gl X x) (hm : X.mg x = some (.ref C)) (hkw : PK X kws tk)
    (hall : (backToKw pos (keywordEach kws X.env)).all (·.1.isSome) = true := by rfl) (hks : (backToKw pos (keywordEach kws X.env)).filterMap (·.1) = ks := by rfl) (hdb : (x == ("__debug__" : Str)) = false := by decide)
    (hpl : ((backTo pos (starEach [] X.env)).any (·.1) || (backToKw pos (keywordEach kws X.env)).any (·.1.isNone)) = false := by rfl) :
    PE X (.Call (.Name x p) [] kws pos) (tOexK C sp ks.length g tk) := by
  refine ⟨fun pins s σ H Q I h => ?_⟩
  refine wpAny_Call_Name_kw (ld_glob I hg hm ?_ hdb)
  refine PySem.W.callWith_KW0 (h₀ := X.base) I.ok.mod.kin T.kC hall ?_ hpl
  refine thn (hkw.run pos pins s σ H _ I h) fun ws s2 ⟨zs, H2, I2, rz, l2, q2⟩ => ⟨I2.kIn, ?_⟩
  rw [hks]
  exact run_oex (us := []) T iC tI F1 hr (fun s a X1 => hb s a ws X1 (rz.length.symm.trans l2)) I2 (hgv rz) (Nat.zero_le _) q2
/-- C(), a class without an __init__ of its own -/
def tOex0 (C : Addr) : TE := fun _ H Q => ∀ a, H a = none → Q (.ref a) (upd H a (exo a C none))
theorem pe_oex0 {C : Addr} {bmB : List Value} {B newId initId : String} {x : Str} {p pos : Pos} (F : ExcBaseFacts B newId initId bmB) (q : PySem.W.excIn X.K C bmB newId = true) (gC : X.mg x = some (.ref C)) (kC : PySem.W.keepIn X.K (.ref C) = true) (hg : Gl X x)
    (hdb : (x == ("__debug__" : Str)) = false := by decide) : PE X (.Call (.Name x p) [] [] pos) (tOex0 C) := by
  refine ⟨fun pins s σ H Q I h => ?_⟩
  refine wpAny_Call_Name_kw (ld_glob I hg gC ?_ hdb)
  refine PySem.W.callWith_K0 I.kIn kC ?_
  show wpAny _ _ (call (.ref C) []) _ _ _
  obtain ⟨bm, N, nm, qn, bs, hdct, sn, sub, ab, col, dd, k0, k1, k2, k3, k5, mN, hC, hN, hni, T⟩ := exc_obj I.kIn q
  refine wpAny_call_exc_subT F T hC hN hni (fun h' a hm => ?_) (by show 0 ≤ sizeLine; exact Nat.zero_le _)
  have hn : H a = none := I.hok.gone hm.new
  obtain ⟨t, ht, _, _⟩ := hm.there
  exact ⟨.ref a, upd H a (exo a C none), I.laidN hm.keeps hm.new hn (exo_ok ht), rfl, h a hn⟩
/-- e.f of such an exception -/
def tExoF (K : PySem.W.Frag) (n : Str) (te : TE) : TE := fun σ H Q => te σ H fun x H1 => ∃ (a C dx : Addr) (fs : List (Str × V)) (v : V), x = .ref a ∧ H1 a = some (exo a C (some dx)) ∧ H1 dx = some (exd dx fs) ∧ fs.lookup n = some v ∧ XfC K C ∧ PySem.W.findIn K (.ref C) n = some none ∧ Q v H1
theorem pe_exoF {e : Expr} {te : TE} {pos : Pos} {n : Str} (he : PE X e te) (hb : attributeBase e n X.env (eval e X.env) = eval e X.env := by rfl) : PE X (.Attribute e n pos) (tExoF X.K n te) := by
  refine ⟨fun pins s σ H Q I h => ?_⟩
  refine attr_of hb (thn (he.run pins s σ H _ I h) fun u s1 hh => ?_)
  obtain ⟨x, H1, I1, rx, a, C, dx, fs, v, ex, ea, ed, l, T, hno, q⟩ := hh
  subst ex
  obtain rfl : u = Value.ref a := rx
  obtain ⟨t1, ho⟩ := exo_at I1.hok ea
  obtain ⟨mA, hns1, hr⟩ := exd_at I1.hok ed
  obtain ⟨od, hod, hl⟩ := lookIn_ns hns1
  obtain ⟨u, hu, ru⟩ := RelO.some_of (v := v) (o := mA n) (by rw [← l]; exact hr n)
  have J : PySem.W.InstAt s1.heap a { cls := .ref C, dict := some dx, data := .fields #[.ref t1, .none, .none, .none, .bool false, .none] } C (some od) := ⟨ho, rfl, rfl, hod⟩
  exact HandSPX.exc_get I1.kIn J T.ga T.gg T.exC (PySem.W.findObj_own T.hdC hno rfl (by rw [hl, hu])) (handed_of ru) ⟨v, H1, I1.tok _, ru, q⟩
/-- isinstance(e, c), e such an exception -/
def rIsX (K : PySem.W.Frag) : List V → Hp → VK → Prop := fun xs H Q => ∃ (a C : Addr) (d : Option Addr) (c : V) (cv : Value) (b : Bool), xs = [.ref a, c] ∧ H a = some (exo a C d) ∧ (∀ dx, d = some dx → ∃ fs, H dx = some (exd dx fs)) ∧ ExcC K C ∧ (∀ u, RelV c u → u = cv) ∧
  PySem.W.kitOne K (.ref C) cv = some b ∧ Q (.bl b) H
theorem call_isX : CallR X (.builtin "isinstance") (rIsX X.K) := by
  intro pins s σ H xs us Q I r h
  obtain ⟨a, C, d, c, cv, b, rfl, ea, hd, T, hcv, e, q⟩ := h
  obtain ⟨u1, u2, rfl, r1, r2⟩ := vals2 r
  obtain rfl : u1 = Value.ref a := r1
  have ec := hcv _ r2
  subst ec
  obtain ⟨t1, ho⟩ := exo_at I.hok ea
  have hcl : (PySem.W.clsIn X.K C).isSome = true := by
    obtain ⟨cd, hc, _⟩ := PySem.W.any_some T.hd
    rw [hc] <;> rfl
  have J : ∃ od, PySem.W.InstAt s.heap a { cls := .ref C, dict := d, data := .fields #[.ref t1, .none, .none, .none, .bool false, .none] } C od := by
    cases d with
    | none => exact ⟨none, ho, rfl, rfl, trivial⟩
    | some dx =>
      obtain ⟨fs, ed⟩ := hd dx rfl
      obtain ⟨mA, ⟨oD, es, ep, e1, e2⟩, _⟩ := exd_at I.hok ed
      exact ⟨some oD, ho, rfl, rfl, e1⟩
  obtain ⟨od, J⟩ := J
  exact PySem.W.kia_one (PySem.W.kitx_exc (ox := { cls := .ref C, dict := d, data := .fields #[.ref t1, .none, .none, .none, .bool false, .none] }) (od := od) hcl T.hg T.hk T.hs T.ha T.hn T.ht T.hm) I.kIn J e (fun z => nomatch z) fun tk => ⟨.bl b, H, I.kept (t' := tk) fun _ _ z => z, rfl, q⟩
end
end K0
set_option maxHeartbeats 4000000
namespace K0
open PySem PySem.Spec PyProof.Rows L2 LamX NdefX
/-! ### lambdas as values: no captured names -/
structure LS where
  qual : Str
  params : Arguments
  body : Expr
  scope : Scope
def LamO (f : Addr) (L : LS) (c : Addr) : HO := .ext fun h => ∃ pm ctv : Value, h.get? f = some (PySem.W.kla_obj "<lambda>" L.qual L.params L.body L.scope [] pm c ctv)
theorem lamO_ne {f c : Addr} {L : LS} (ps : Array Value) : LamO f L c ≠ .tbl ps := fun z => by
  unfold LamO at z
  cases z
theorem lamO_at {P : Program} {w : World} {H : Hp} {h : Heap} {f c : Addr} {L : LS} (hok : HOk P w H h) (e : H f = some (LamO f L c)) : ∃ pm ctv : Value, h.get? f = some (PySem.W.kla_obj "<lambda>" L.qual L.params L.body L.scope [] pm c ctv) := by
  obtain ⟨z, _, _⟩ := hok f _ e
  exact z
section
variable {X : Cx} {pins : List (Addr × Obj)} {σ : L2.St} {H : Hp} {s : Shared}
theorem inv_lam {L : LS} {c : Addr} {o : Obj} {t' : Nat} {pm ctv : Value} (I : Inv X pins σ H s) (ho : o = PySem.W.kla_obj "<lambda>" L.qual L.params L.body L.scope [] pm c ctv) :
    Inv X pins σ (upd H s.heap.objs.size (LamO s.heap.objs.size L c)) { s with heap := s.heap.push o, toks := t' } := by
  subst ho
  refine I.laid (a := s.heap.objs.size) (fun b u e => Heap.get?_push_of_some _ e) (Nat.le_refl _) ?_
  have e : (s.heap.push (PySem.W.kla_obj "<lambda>" L.qual L.params L.body L.scope [] pm c ctv)).get? s.heap.objs.size = some (PySem.W.kla_obj "<lambda>" L.qual L.params L.body L.scope [] pm c ctv) := Heap.get?_push_size _ rfl
  exact ⟨⟨pm, ctv, e⟩, ⟨_, e⟩, fun h1 h2 ⟨p, t, z⟩ st => ⟨p, t, st _ z⟩⟩
/-- the lambda is made: its code object is new, or found in the table -/
theorem lam_mk {T : List (Addr × Str)} {c P : Addr} {params : Arguments} {body : Expr} {scope : Scope} {pos : Pos} {E : Value → Shared → Prop} {Q : Value → Shared → Prop} (I : Inv X pins σ H s) (TB : TabB X.base X.mg c P) (hcode : X.env.code = .ref c)
    (hm : (P, X.env.qual ++ "<lambda>") ∈ T) (hu : ∀ p ∈ T, p.1 = P → p.2 = X.env.qual ++ "<lambda>") (hT : Tabs T H) (hdef : defaultsOf params X.env = ([], [])) (hnf : ∀ y ∈ scope.names, y.2 ≠ .free) (hcl : cloFrom X.env.cells scope.names [] = [])
    (h : ∀ (f c' : Addr) (H1 : Hp) (s' : Shared), Inv X pins σ H1 s' → ExtN H H1 → Tabs T H1 → H f = none → H1 f = some (LamO f ⟨X.env.qual ++ "<lambda>", params, body, scope⟩ c') → H1 c' = some (CodeO c' (X.env.qual ++ "<lambda>")) → Q (.ref f) s') :
    wpAny (model X.prog X.w) X.A (eval (.Lambda params body scope pos) X.env) Q E s := by
  obtain ⟨ps, hP, ht, ha⟩ := hT _ hm
  refine PySem.W.kla_eval hdef ?_
  have hfree : ∀ y ∈ scope.names, y.2 = .free → ∃ c, X.env.cells.lookup y.1 = some c := fun y hy e => absurd e (hnf y hy)
  have bP : s.heap.BuiltinsAt X.mg P := TB.bm.keeps I.bk
  have hP' : s.heap.get? P = some { cls := .none, data := .fields ps } := I.hok P _ hP
  cases hc : codeAmong pos ps.toList with
  | none =>
    refine PySem.W.kla_makeFunction (mg := X.mg) (c := c) (P := P) (ps := ps) (closure_ok hfree) I.ok.glob (I.mod.glob.keeps I.bk) hcode (TB.code.keeps I.bk) hP' ht hc TB.gP bP fun c' ctv h' tk hx hge hlt hrec htb => ?_
    obtain ⟨c2, oc, vs, t, e2, hoc, hd, hv⟩ := hrec
    cases e2
    have nC : H c' = none := I.hok.fresh hge
    have I1 := inv_table (t' := tk) (more := #[rawInt pos.line, rawInt pos.col, .ref c']) (h' := h') I hP (fun b o hb e => hx b o hb e) htb hge ⟨oc, vs, t, hoc, hd, hv⟩
    have hE : ExtN H (upd (upd H P (.tbl (ps ++ #[rawInt pos.line, rawInt pos.col, .ref c']))) c' (CodeO c' (X.env.qual ++ "<lambda>"))) := fun b o e n => by
      rw [upd_ne (ne_of_none e nC), upd_ne (fun z => n ps (Option.some.inj (e.symm.trans (by rw [z]; exact hP))))]
      exact e
    have eL : (ps ++ #[rawInt pos.line, rawInt pos.col, .ref c']).toList = ps.toList ++ [rawInt pos.line, rawInt pos.col, .ref c'] := by simp
    have T1 : Tabs T (upd (upd H P (.tbl (ps ++ #[rawInt pos.line, rawInt pos.col, .ref c']))) c' (CodeO c' (X.env.qual ++ "<lambda>"))) := fun p hp => by
      by_cases hb : p.1 = P
      · rw [hu p hp hb, hb]
        refine ⟨_, by rw [upd_ne (ne_of_none hP nC), upd_same], by rw [eL]; exact PySem.TriplesOk_snoc _ _ _ _ ht, fun p' cv hcv => ?_⟩
        rw [eL] at hcv
        rcases among_app _ ht hcv with z | z
        · obtain ⟨c0, e1, e2⟩ := ha p' cv z
          exact ⟨c0, e1, hE _ _ e2 codeO_ne⟩
        · exact ⟨c', z, upd_same⟩
      · obtain ⟨ps', a1, a2, a3⟩ := hT p hp
        refine ⟨ps', by rw [upd_ne (ne_of_none a1 nC), upd_ne hb]; exact a1, a2, fun p' cv hcv => ?_⟩
        obtain ⟨c0, e1, e2⟩ := a3 p' cv hcv
        exact ⟨c0, e1, hE _ _ e2 codeO_ne⟩
    have nF := I1.hok.fresh (Nat.le_refl _)
    have I2 := inv_lam (L := ⟨X.env.qual ++ "<lambda>", params, body, scope⟩) (c := c') (t' := tk) (pm := (X.mg "__name__").getD .none) (ctv := ctv) (o := PySem.W.kla_obj "<lambda>" (X.env.qual ++ "<lambda>") params body scope (cloFrom X.env.cells scope.names []) ((X.mg "__name__").getD .none) c' ctv) I1 (by rw [hcl])
    refine h h'.objs.size c' _ _ I2 (fun b o e n => ?_) (T1.ext fun b o e => ?_) (I.hok.fresh (Nat.le_trans hge (Nat.le_of_lt hlt))) upd_same ?_
    · have e1 := hE b o e n
      exact (upd_ne (ne_of_none e1 nF)).trans e1
    · exact (upd_ne (ne_of_none e nF)).trans e
    · exact (upd_ne (Nat.ne_of_lt hlt)).trans upd_same
  | some cv =>
    obtain ⟨c', e, hco⟩ := ha pos cv hc
    subst e
    refine PySem.W.kla_makeFunctionHit (mg := X.mg) (c := c) (P := P) (ps := ps) (closure_ok hfree) I.ok.glob (I.mod.glob.keeps I.bk) hcode (TB.code.keeps I.bk) hP' ht hc bP fun ctv h' tk hx hsz => ?_
    have I1 : Inv X pins σ H { s with heap := h', toks := tk } := I.kept hx
    have nF : H h'.objs.size = none := I1.hok.fresh (Nat.le_refl _)
    have I2 := inv_lam (L := ⟨X.env.qual ++ "<lambda>", params, body, scope⟩) (c := c') (t' := tk) (pm := (X.mg "__name__").getD .none) (ctv := ctv) (o := PySem.W.kla_obj "<lambda>" (X.env.qual ++ "<lambda>") params body scope (cloFrom X.env.cells scope.names []) ((X.mg "__name__").getD .none) c' ctv) I1 (by rw [hcl])
    refine h h'.objs.size c' _ _ I2 (fun b o e n => ?_) (hT.ext fun b o e => ?_) nF upd_same ?_
    · exact (upd_ne (ne_of_none e nF)).trans e
    · exact (upd_ne (ne_of_none e nF)).trans e
    · exact (upd_ne (ne_of_none hco nF)).trans hco
/-- a lambda's value -/
def tLamV (T : List (Addr × Str)) (L : LS) : TE := fun _ H Q => Tabs T H ∧ ∀ (f c' : Addr) (H1 : Hp), ExtN H H1 → Tabs T H1 → H f = none → H1 f = some (LamO f L c') → H1 c' = some (CodeO c' L.qual) → Q (.ref f) H1
theorem pe_lamV {T : List (Addr × Str)} {c P : Addr} {params : Arguments} {body : Expr} {scope : Scope} {pos : Pos} (TB : TabB X.base X.mg c P) (hcode : X.env.code = .ref c) (hm : (P, X.env.qual ++ "<lambda>") ∈ T) (hu : ∀ p ∈ T, p.1 = P → p.2 = X.env.qual ++ "<lambda>")
    (hdef : defaultsOf params X.env = ([], [])) (hnf : ∀ y ∈ scope.names, y.2 ≠ .free) (hcl : cloFrom X.env.cells scope.names [] = []) :
    PE X (.Lambda params body scope pos) (tLamV T ⟨X.env.qual ++ "<lambda>", params, body, scope⟩) := by
  refine ⟨fun pins s σ H Q I h => ?_⟩
  obtain ⟨hT, h⟩ := h
  exact lam_mk I TB hcode hm hu hT hdef hnf hcl fun f c' H1 s' I1 eN T1 hf e1 e2 => ⟨.ref f, H1, I1, rfl, h f c' H1 eN T1 hf e1 e2⟩
end
/-! ### its promise -/
abbrev nfOf (L : LS) (c : Addr) : NF := ⟨"<lambda>", L.qual, L.params, [], L.scope, [], c⟩
structure LOk (P : Program) (w : World) (K : PySem.W.Frag) (mg : Str → Option Value) (base : Heap) (k : Nat) (L : LS) (n : Nat) (sp : Sp) : Prop where
  len : ∀ vs H Q E, sp vs H Q E → vs.length = n
  run : ∀ (A : Around) (outer : List Env) (s : Shared) (H : Hp) (us : List Value) (vs : List V) (Q : VK) (f c : Addr), Room k A → Env0 P w K mg base A outer s H → H f = some (LamO f L c) → H c = some (CodeO c L.qual) →
    Vals vs us → sp vs H Q E0 → codeAny (model P w) A (.call (.ref f) ⟨us, []⟩) (CR CX0 outer P w H s Q E0) s
theorem cells0 {h : Heap} {H : Hp} : CellsAt [] [] [] h H := ⟨rfl, fun y c e => by simp at e, fun x y c e => by simp at e, fun i y e => by simp at e⟩
section
variable {P : Program} {w : World} {K : PySem.W.Frag} {mg : Str → Option Value} {base : Heap} {N ps : List Str} {L : LS} {k : Nat} {sp : Sp}
theorem lok_of (S : NScope N ps [] L.scope) (hb : ∀ (pm cv ctv : Value) (us : List Value), us.length = ps.length → bindArgs (PySem.W.kla_fn "<lambda>" L.qual L.params L.body L.scope [] pm cv ctv) ⟨us, []⟩ = pure (ps.zip us)) (len : ∀ vs H Q E, sp vs H Q E → vs.length = ps.length)
    (hbody : ∀ (A : Around) (outer : List Env) (s : Shared) (H : Hp) (vs : List V) (Q : VK) (f c : Addr), Room k (A.deeper (envF (nfOf L c) f s.heap.objs.size)) → sp vs H Q E0 →
      ∃ t, PE (ncx CX0 P w K mg base N (nfOf L c) f A outer s H E0) L.body t ∧ t (startF N vs []) H Q) : LOk P w K mg base (k + 1) L ps.length sp := by
  refine ⟨len, fun A outer s H us vs Q f c hr e0 hf hc r hsp => ?_⟩
  have hl := len _ _ _ _ hsp
  have lim : s.heap.NoLimit := e0.mod.nolimit.keeps fun b o e => (e0.bs b o e).1
  obtain ⟨pm, ctv, ho⟩ := lamO_at e0.hok hf
  refine PySem.W.kla_callFunE hr.depth ho rfl S.co S.gen rfl (codeO_at e0.hok hc) ?_
  rw [hb pm (.ref c) ctv us (by rw [← r.length]; exact hl)]
  refine wpAny_pure (wpAny_newFunctionEnv S.nocell (fun ⟨n, _⟩ hy => S.par n (List.of_mem_zip hy).1) (fun h₁ hns hsb => ⟨lim.fresh _ hsb, ?_⟩) S.kind)
  show codeAny _ _ (.expr L.body (envF (nfOf L c) f s.heap.objs.size)) _ _
  have kp : ∀ b o, s.heap.get? b = some o → h₁.get? b = some o := fun b o e => hsb.extBut b o (Nat.ne_of_lt (Heap.lt_size e)) (Heap.get?_push_of_some _ e)
  obtain ⟨t, ht, hq⟩ := hbody A outer s H vs Q f c (hr.deeper _) hsp
  have I : Inv (ncx CX0 P w K mg base N (nfOf L c) f A outer s H E0) [] (startF N vs []) H { s with heap := h₁, toks := s.toks + (ps.zip us).length } := inv_startN (F := nfOf L c) (fr := []) S hr.hd e0 hl r cells0 hns kp
  refine PySem.W.kla_codeExpr (wpAny_mono (ht.run [] _ (startF N vs []) H Q I hq) (fun v s' hs => ?_) fun e s' hs => hs)
  obtain ⟨w', H', J', rv, q⟩ := hs
  exact ⟨w', H', J'.os, J'.bare, J'.base, J'.hok, rv, q⟩
end
section
variable {X : Cx} {i k n : Nat} {x : Str} {sp : Sp} {t : TA} {e : Expr} {es : List Expr} {p pos : Pos}
theorem lamAt_of {pins : List (Addr × Obj)} {σ : L2.St} {H : Hp} {s : Shared} {f c : Addr} {L : LS} (I : Inv X pins σ H s) (e : H f = some (LamO f L c)) : PySem.W.FnAt f s.heap := by
  obtain ⟨pm, ctv, ho⟩ := lamO_at I.hok e
  exact ⟨_, _, _, _, ho⟩
def tLamC (P : Program) (w : World) (K : PySem.W.Frag) (mg : Str → Option Value) (base : Heap) (k i : Nat) (t : TA) : TE := fun σ H Q => ∃ (f c : Addr) (L : LS) (n : Nat) (sp : Sp), σ[i]? = some (some (.ref f)) ∧ H f = some (LamO f L c) ∧ LOk P w K mg base k L n sp ∧
  t σ H fun vs H1 => H1 f = some (LamO f L c) ∧ H1 c = some (CodeO c L.qual) ∧ sp vs H1 Q E0
theorem pe_lamC (hr : Room k X.A) (hN : X.N[i]? = some x) (hv : Vis X.env.scope x) (ha : PA X (e :: es) t)
    (hd : (x == ("__debug__" : Str)) = false := by decide) (hcd : (x == ("__classdict__" : Str)) = false := by decide)
    (he : starEach (e :: es) X.env = (false, eval e X.env) :: starEach es X.env := by rfl) (hpl : (backTo pos (starEach es X.env)).any (·.1) = false := by rfl) :
    PE X (.Call (.Name x p) (e :: es) [] pos) (tLamC X.prog X.w X.K X.mg X.base k i t) := by
  refine ⟨fun pins s σ H Q I h => ?_⟩
  obtain ⟨f, c, L, n, sp, hs, hf, ok, ht⟩ := h
  refine wpAny_Call_Name_kw (thn ((pe_var (pos := p) hN hv hd hcd).run pins s σ H (fun v H1 => v = .ref f ∧ H1 = H) I ⟨.ref f, hs, rfl, rfl⟩) fun u s1 ⟨v, H1, I1, r1, q1⟩ => ?_)
  obtain ⟨ev, eH⟩ := q1
  subst ev
  rw [eH] at I1
  obtain rfl : u = Value.ref f := r1
  refine PySem.W.callWith_F (first := []) (lamAt_of I1 hf) (thn (ha.run pos pins s1 σ H _ I1 ht) fun us s2 ⟨vs, H2, I2, r, h1, h2, q⟩ => ⟨lamAt_of I2 h1, ?_⟩) he hpl
  show wpAny _ _ (call (.ref f) us) _ _ _
  refine wpAny_call (codeAny_mono (ok.run X.A X.stack s2 H2 us vs Q f c hr I2.env0 h1 h2 r q) fun r s' hq => ?_)
  cases r with
  | error e => exact False.elim hq
  | ok fl =>
    cases fl with
    | ret u => exact I2.after hq
    | next => exact False.elim hq
    | brk => exact False.elim hq
    | cont => exact False.elim hq
end
end K0
set_option maxHeartbeats 4000000
namespace K0
open PySem PySem.Spec PyProof.Rows L2
/-! ### the text by places -/
def top (i : Nat) : Stmt := PySem.Challenge.pw_samefromhere_k00_errors_made.main.body.getD i (.Pass ⟨0, 0, 0, 0⟩)
abbrev sStart : Stmt := top 82
abbrev sDraw : Stmt := top 83
abbrev sMixed : Stmt := top 84
abbrev sKinds : Stmt := top 95
abbrev sOwn : Stmt := top 96
abbrev sThese : Stmt := top 97
abbrev sLaw : Stmt := top 98
/-! ### what is drawn: fifteen things, as data -/
def goods : List PyData := [.none, .int 5, .int (-1), .bool true, .str "a", .str "", .list [.int 1, .str "b"], .tuple [.int 2, .none], .dict [(.str "a", .int 1)], .list [.list [.str "x"]], .int (10 ^ 30), .tuple [.str "s", .int 3], .bool false, .int 0, .int 1]
mutual
/-- what stands at a value, as data: all of it tracked -/
inductive Rp (H : Hp) : V → PyData → Prop
  | non : Rp H .non .none
  | bl (b : Bool) : Rp H (.bl b) (.bool b)
  | int (i : Int) : Rp H (.int i) (.int i)
  | str (x : Str) : Rp H (.str x) (.str x)
  | lst {a : Addr} {vs : List V} {ds : List PyData} : H a = some (.lst vs) → RpAll H vs ds → Rp H (.ref a) (.list ds)
  | tup {a : Addr} {vs : List V} {ds : List PyData} : H a = some (.tup vs) → RpAll H vs ds → Rp H (.ref a) (.tuple ds)
  | dict {a : Addr} : H a = some (.dK [(Sum.inr "a", V.int 1)]) → Rp H (.ref a) (.dict [(.str "a", .int 1)])
inductive RpAll (H : Hp) : List V → List PyData → Prop
  | nil : RpAll H [] []
  | cons {v : V} {vs : List V} {d : PyData} {ds : List PyData} : Rp H v d → RpAll H vs ds → RpAll H (v :: vs) (d :: ds)
end
mutual
theorem Rp.keep {H H' : Hp} (k : Same H H') : ∀ (d : PyData) (v : V), Rp H v d → Rp H' v d
  | .none, _, h => by cases h; exact .non
  | .bool _, _, h => by cases h; exact .bl _
  | .int _, _, h => by cases h; exact .int _
  | .str _, _, h => by cases h; exact .str _
  | .list ds, _, h => by
    cases h with
    | lst e hs => exact .lst (k _ _ e) (RpAll.keep k ds _ hs)
  | .tuple ds, _, h => by
    cases h with
    | tup e hs => exact .tup (k _ _ e) (RpAll.keep k ds _ hs)
  | .dict _, _, h => by
    cases h with
    | dict e => exact .dict (k _ _ e)
theorem RpAll.keep {H H' : Hp} (k : Same H H') : ∀ (ds : List PyData) (vs : List V), RpAll H vs ds → RpAll H' vs ds
  | [], _, h => by cases h; exact .nil
  | d :: ds, _, h => by
    cases h with
    | cons h1 h2 => exact .cons (Rp.keep k d _ h1) (RpAll.keep k ds _ h2)
end
theorem good_facts : ∀ d ∈ goods, d.showable = true ∧ d.depth ≤ 2 ∧ d.shown.length ≤ 40 := by decide +kernel
theorem nest_list (ds : List PyData) (h : ∀ d ∈ ds, d ∈ goods) : PyData.showableAll ds = true := by
  induction ds with
  | nil => rfl
  | cons d ds ih =>
    simp only [PyData.showableAll, Bool.and_eq_true]
    exact ⟨(good_facts d (h d List.mem_cons_self)).1, ih fun x hx => h x (List.mem_cons_of_mem _ hx)⟩
theorem nest_depth (ds : List PyData) (h : ∀ d ∈ ds, d ∈ goods) : PyData.depthAll ds ≤ 2 := by
  induction ds with
  | nil => exact Nat.zero_le _
  | cons d ds ih =>
    simp only [PyData.depthAll]
    have h1 := (good_facts d (h d List.mem_cons_self)).2.1
    have h2 := ih fun x hx => h x (List.mem_cons_of_mem _ hx)
    omega
theorem text0 : (listText (PyData.shownAll [])).length ≤ 1000 := by decide +kernel
theorem text1 : ∀ d ∈ goods, (listText (PyData.shownAll [d])).length ≤ 1000 := by decide +kernel
theorem text2 : ∀ d ∈ goods, ∀ e ∈ goods, (listText (PyData.shownAll [d, e])).length ≤ 1000 := by decide +kernel
theorem nest_text (ds : List PyData) (h : ∀ d ∈ ds, d ∈ goods) (hl : ds.length ≤ 2) : (listText (PyData.shownAll ds)).length ≤ sizeLine := by
  have z : (listText (PyData.shownAll ds)).length ≤ 1000 := by
    match ds, hl, h with
    | [], _, _ => exact text0
    | [d], _, h => exact text1 d (h d List.mem_cons_self)
    | [d, e], _, h => exact text2 d (h d List.mem_cons_self) e (h e (List.mem_cons_of_mem _ List.mem_cons_self))
    | _ :: _ :: _ :: _, hl, _ => simp at hl
  rw [sizeLine_eq]
  omega
section
variable {X : Cx} {pins : List (Addr × Obj)} {σ : L2.St} {H : Hp} {s : Shared}
mutual
theorem Rp.reads (I : Inv X pins σ H s) : ∀ (d : PyData) (v : V) (u : Value), Rp H v d → RelV v u → ∃ as, Reads s.heap u d as ∧ ∀ b ∈ as, H b ≠ none
  | .none, _, _, h, r => by
    cases h
    cases r
    exact ⟨_, Reads.none, fun b hb => absurd hb List.not_mem_nil⟩
  | .bool _, _, _, h, r => by
    cases h
    cases r
    exact ⟨_, Reads.bool _, fun b hb => absurd hb List.not_mem_nil⟩
  | .int _, _, _, h, r => by
    cases h
    obtain ⟨t, rfl⟩ := r
    exact ⟨_, Reads.int _ t, fun b hb => absurd hb List.not_mem_nil⟩
  | .str _, _, _, h, r => by
    cases h
    obtain ⟨t, rfl⟩ := r
    exact ⟨_, Reads.str _ t, fun b hb => absurd hb List.not_mem_nil⟩
  | .list ds, _, u, h, r => by
    cases h with
    | @lst a vs _ ea hs =>
      obtain rfl : u = Value.ref a := r
      obtain ⟨_, its, n, rv, e⟩ := (show ObjOk X.prog X.w H s.heap a (.lst vs) from I.hok a _ ea)
      obtain ⟨as, z, q⟩ := RpAll.reads I ds vs its hs rv
      exact ⟨a :: as, Reads.list e rfl rfl (by simpa using z), fun b hb => (List.mem_cons.mp hb).elim (fun e2 => by rw [e2, ea]; simp) (q b)⟩
  | .tuple ds, _, u, h, r => by
    cases h with
    | @tup a vs _ ea hs =>
      obtain rfl : u = Value.ref a := r
      obtain ⟨_, its, rv, o, e1, e2, n, e3⟩ := (show ObjOk X.prog X.w H s.heap a (.tup vs) from I.hok a _ ea)
      obtain ⟨as, z, q⟩ := RpAll.reads I ds vs its hs rv
      exact ⟨as, Reads.tuple e1 e2 e3 (by simpa using z), q⟩
  | .dict _, _, u, h, r => by
    cases h with
    | @dict a ea =>
      obtain rfl : u = Value.ref a := r
      obtain ⟨_, _, vs, rk, o, es, ep, h1, h2, h3, _, h5, _⟩ := (show ObjOk X.prog X.w H s.heap a (.dK [(Sum.inr "a", V.int 1)]) from I.hok a _ ea)
      cases rk with
      | @cons _ q _ vt rq rt =>
        cases rt
        obtain ⟨q1, q2⟩ := q
        obtain ⟨e1, t, e2⟩ := rq
        have e1' : Sum.inr ("a" : Str) = q1 := e1
        have e2' : q2 = Value.int 1 t := e2
        subst e1'
        subst e2'
        obtain ⟨l⟩ := es
        have h5' : Pairs (mixKind X.prog X.w) l [(Sum.inr "a", Value.int 1 t)] := h5
        cases h5' with
        | @cons e _ es' _ k1 k2 k3 =>
          cases k3
          obtain ⟨eh, ek, ev⟩ := e
          have k2' : ev = Value.int 1 t := k2
          obtain ⟨t2, k4⟩ := Value.isStrOf_shape (x := "a") (v := ek) k1
          subst k2'
          subst k4
          refine ⟨a :: ([] ++ []) ++ ([] ++ []), Reads.dict h1 h2.1 h3 ?_ ?_, fun b hb => ?_⟩
          · exact ReadsAll.cons (Reads.str _ _) ReadsAll.nil
          · exact ReadsAll.cons (Reads.int _ _) ReadsAll.nil
          · have z : b = a := by simpa using hb
            rw [z, ea]
            simp
theorem RpAll.reads (I : Inv X pins σ H s) : ∀ (ds : List PyData) (vs : List V) (us : List Value), RpAll H vs ds → Vals vs us → ∃ as, ReadsAll s.heap us ds as ∧ ∀ b ∈ as, H b ≠ none
  | [], _, _, h, r => by
    cases h
    cases r
    exact ⟨_, ReadsAll.nil, fun b hb => absurd hb List.not_mem_nil⟩
  | d :: ds, _, _, h, r => by
    cases h with
    | cons h1 h2 =>
      cases r with
      | cons r1 r2 =>
        obtain ⟨a1, z1, q1⟩ := Rp.reads I d _ _ h1 r1
        obtain ⟨a2, z2, q2⟩ := RpAll.reads I ds _ _ h2 r2
        exact ⟨a1 ++ a2, ReadsAll.cons z1 z2, fun b hb => (List.mem_append.mp hb).elim (q1 b) (q2 b)⟩
end
/-- repr of a list of such things -/
def rRepr : List V → Hp → VK → Prop := fun xs H Q => ∃ (a : Addr) (vs : List V) (ds : List PyData), xs = [.ref a] ∧ H a = some (.lst vs) ∧ RpAll H vs ds ∧ (∀ d ∈ ds, d ∈ goods) ∧ ds.length ≤ 2 ∧ Q (.str (PyData.shown (.list ds))) H
theorem vals1' {x : V} {us : List Value} (r : Vals [x] us) : ∃ u, us = [u] ∧ RelV x u := by
  cases r with
  | cons r t =>
    cases t
    exact ⟨_, rfl, r⟩
theorem call_repr (hg : X.A.guards = some []) (hu : X.A.units + 64 < cLine) (hs : ∃ o, X.base.get? sysModules = some o) : CallR X (.builtin "repr") rRepr := by
  intro pins s σ H xs us Q I r h
  obtain ⟨a, vs, ds, rfl, ea, hd, hgd, hl, q⟩ := h
  obtain ⟨u, rfl, ru⟩ := vals1' r
  obtain rfl : u = Value.ref a := ru
  obtain ⟨as, z, hn⟩ := Rp.reads I (.list ds) (.ref a) (.ref a) (.lst ea hd) rfl
  obtain ⟨o, ho⟩ := hs
  have nsys : H sysModules = none := (I.bs _ _ ho).2
  have hz : (PyData.shown (.list ds)).length ≤ sizeLine := by
    simp only [PyData.shown]
    exact nest_text ds hgd hl
  refine repr_of_reads' (h₀ := s.heap) z ?_ (fun _ hm => hn _ hm nsys) hg ?_ (fun _ _ e => e) (fun h' t tk k => ?_) hz
  · simp only [PyData.showable]
    exact nest_list ds hgd
  · have := nest_depth ds hgd
    simp only [PyData.depth]
    omega
  · exact ⟨.str _, H, I.kept (t' := tk) k, ⟨t, rfl⟩, q⟩
end
end K0
set_option maxHeartbeats 4000000
namespace K0
open PySem PySem.Spec PyProof.Rows L2
/-! ### a def that is called where no text of an object is being made -/
structure FnG (P : Program) (w : World) (K : PySem.W.Frag) (mg : Str → Option Value) (base : Heap) (k : Nat) (f : Addr) (fd : FuncData) (ps : List Str) (sp : Sp) : Prop where
  len : ∀ vs H Q E, sp vs H Q E → vs.length = ps.length
  run : ∀ (A : Around) (outer : List Env) (s : Shared) (H : Hp) (args : Args) (us : List Value) (vs : List V) (Q : VK), A.guards = some [] → Room k A → Env0 P w K mg base A outer s H → BindsTo s fd args (ps.zip us) → Vals vs us → sp vs H Q E0 →
    codeAny (model P w) A (.call (.ref f) args) (CR CX0 outer P w H s Q E0) s
section
variable {P : Program} {w : World} {K : PySem.W.Frag} {mg : Str → Option Value} {base : Heap}
theorem fng_of {x qual : Str} {st : Stmt} {f : Addr} {fd : FuncData} {N ps : List Str} {k : Nat} {sp : Sp} (F : Fun K x qual st f fd) (S : FnScope N ps (defScope st)) (len : ∀ vs H Q E, sp vs H Q E → vs.length = ps.length)
    (hbody : ∀ (cdv : Value) (A : Around) (outer : List Env) (s : Shared) (H : Hp) (vs : List V) (Q : VK), A.guards = some [] → Room k (A.deeper (envOfC qual (defScope st) s.heap.objs.size f cdv)) → sp vs H Q E0 →
      ∃ t, PSs (cxOf CX0 P w K mg base N qual (defScope st) f cdv A outer s H E0) (defBody st) t ∧ t { nx := fun _ H' => Q .non H', rt := Q } (L2.start N vs) H) : FnG P w K mg base (k + 1) f fd ps sp := by
  obtain ⟨oc, od, kV, doc, pm, an, cdv, ct, osl, rfl, lk, hcd⟩ := F.ex
  exact ⟨len, fun A outer s H args us vs Q hg hr e0 hb r h => LamX.run_ofS lk hcd S hr e0 hb r (len _ _ _ _ h) fun hr' => hbody cdv A outer s H vs Q hg hr' h⟩
end
section
variable {X : Cx} {k : Nat} {f : Addr} {fd : FuncData} {ps : List Str} {sp : Sp} {x : Str} {p pos : Pos} {e : Expr} {es : List Expr} {t : TA}
theorem pe_callG (F : FnG X.prog X.w X.K X.mg X.base k f fd ps sp) (hgd : X.A.guards = some []) (hr : Room k X.A) (hg : Gl X x) (hm : X.mg x = some (.ref f)) (hk : PySem.W.keepIn X.K (.ref f) = true) (hb : Binds X.K fd ps [])
    (ha : PA X (e :: es) t) (hdb : (x == ("__debug__" : Str)) = false := by decide) (he : starEach (e :: es) X.env = (false, eval e X.env) :: starEach es X.env := by rfl) (hpl : (backTo pos (starEach es X.env)).any (·.1) = false := by rfl) :
    PE X (.Call (.Name x p) (e :: es) [] pos) (tCall sp [] E0 t) := by
  refine ⟨fun pins s σ H Q I h => ?_⟩
  refine wpAny_Call_Name_kw (ld_glob I hg hm ?_ hdb)
  refine PySem.W.callWith_K (h₀ := X.base) I.ok.mod.kin hk (thn (ha.run pos pins s σ H _ I h) fun us s1 ⟨vs, H1, I1, r, q⟩ => ⟨I1.kIn, ?_⟩) he hpl
  show wpAny _ _ (call (.ref f) us) _ _ _
  have q : sp (vs ++ []) H1 Q E0 := q
  rw [List.append_nil] at q
  have hl : us.length = ps.length := by rw [← r.length]; exact F.len _ _ _ _ q
  have b := hb s1 us I1.kIn (by rw [List.append_nil]; exact hl)
  rw [List.append_nil] at b
  refine wpAny_call (codeAny_mono (F.run X.A X.stack s1 H1 ⟨us, []⟩ us vs Q hgd hr I1.env0 b r q) fun r s' hq => ?_)
  cases r with
  | error e => exact False.elim hq
  | ok fl =>
    cases fl with
    | ret u => exact I1.after hq
    | next => exact False.elim hq
    | brk => exact False.elim hq
    | cont => exact False.elim hq
end
/-! ### the built-ins that the law's defs name -/
structure Bl (mg : Str → Option Value) : Prop where
  list : mg "list" = none
  int : mg "int" = none
  len : mg "len" = none
  range : mg "range" = none
  repr : mg "repr" = none
  isinstance : mg "isinstance" = none
  enumerate : mg "enumerate" = none
  ve : mg "ValueError" = none
  le : mg "LookupError" = none
/-! ### repr(found) == repr(due) and len(found) == len(due) -/
def spThese : Sp := fun vs H Q _ => ∃ (p q : Addr) (xs : List V) (ds : List PyData), vs = [.ref p, .ref q] ∧ H p = some (.lst xs) ∧ H q = some (.lst xs) ∧ RpAll H xs ds ∧ (∀ d ∈ ds, d ∈ goods) ∧ ds.length ≤ 2 ∧ Q (.bl true) H
theorem scThese : FnScope ["found", "due"] ["found", "due"] (defScope sThese) := ⟨rfl, rfl, rfl, by decide +kernel, rfl, by decide +kernel, by decide +kernel⟩
section
variable {P : Program} {w : World} {K : PySem.W.Frag} {mg : Str → Option Value} {base : Heap}
theorem ok_these {f : Addr} {fd : FuncData} (F : Fun K "_law_are_these" "_law_are_these" sThese f fd) (B : Bl mg) (hs : ∃ o, base.get? sysModules = some o) : FnG P w K mg base 1 f fd ["found", "due"] spThese := by
  refine fng_of F scThese (fun vs H Q E h => ?_) (fun cdv A outer s H vs Q hgd hr h => ?_)
  · obtain ⟨p, q, xs, ds, rfl, _⟩ := h
    rfl
  · obtain ⟨p, q, xs, ds, rfl, hp, hq, hd, hgo, hl, k⟩ := h
    refine ⟨_, pss_one (ps_ret (pe_and (pe_cmpR op_eq (pe_callB (call_repr hgd hr.units hs) (by rfl) B.repr (by decide +kernel) (pa_cons (pv 0) pa_nil)) (pe_callB (call_repr hgd hr.units hs) (by rfl) B.repr (by decide +kernel) (pa_cons (pv 1) pa_nil)) (nomark _))
      (pe_one (pe_cmpR op_eq (pe_callB call_len_seq (by rfl) B.len PySem.boot_len (pa_cons (pv 0) pa_nil)) (pe_callB call_len_seq (by rfl) B.len PySem.boot_len (pa_cons (pv 1) pa_nil)) (nomark _))))), ?_⟩
    refine ⟨_, rfl, p, xs, ds, rfl, hp, hd, hgo, hl, _, rfl, q, xs, ds, rfl, hq, hd, hgo, hl, rfl, _, rfl, ?_⟩
    rw [decide_eq_true rfl]
    refine iteT ⟨_, rfl, p, xs, rfl, .inl (SqL.of hp), _, rfl, q, xs, rfl, .inl (SqL.of hq), rfl, ?_⟩
    rw [decide_eq_true rfl]
    exact k
end
end K0
set_option maxHeartbeats 4000000
namespace K0
open PySem PySem.Spec PyProof.Rows L2
/-! ### the stream that the law draws from: cells left, a rest, a count, a seed -/
structure StreamAt (H : Hp) (p l : Addr) (N : Int) : Prop where
  ex : ∃ (ns : List Int) (a b c : Int), H p = some (.lst [.ref l, .int a, .int b, .int c]) ∧ H l = some (.lst (ns.map V.int)) ∧ ns.length ≤ 1000 ∧ 0 ≤ b ∧ b ≤ N ∧ 0 ≤ c ∧ c < 2147483647
  ne : p ≠ l
def Keep2 (p l : Addr) (H H' : Hp) : Prop := ∀ q o, H q = some o → q ≠ p → q ≠ l → H' q = some o
def spStart (K : PySem.W.Frag) : Sp := fun vs H Q _ => ∃ (a : Addr) (ns : List Int), vs = [.ref a] ∧ SqL K H a (ns.map V.int) ∧ ns.length ≤ 63 ∧ ∀ p l H', H p = none → H l = none → StreamAt H' p l 0 → Same H H' → Q (.ref p) H'
def spDraw : Sp := fun vs H Q _ => ∃ (p l : Addr) (m N : Int), vs = [.ref p, .int m] ∧ 0 < m ∧ m ≤ 1000 ∧ N ≤ 1000 ∧ StreamAt H p l N ∧ ∀ d H', 0 ≤ d → d < m → StreamAt H' p l (N + 1) → Keep2 p l H H' → Q (.int d) H'
theorem scStart : FnScope ["script"] ["script"] (defScope sStart) := ⟨rfl, rfl, rfl, by decide +kernel, rfl, by decide +kernel, by decide +kernel⟩
theorem scDraw : FnScope ["stream", "many", "cell", "digit", "mixed"] ["stream", "many"] (defScope sDraw) := ⟨rfl, rfl, rfl, by decide +kernel, rfl, by decide +kernel, by decide +kernel⟩
theorem dpInts {K : PySem.W.Frag} {H : Hp} : ∀ ns : List Int, DpAll K H (ns.map V.int) (ns.map PyData.int)
  | [] => .nil
  | n :: ns => .cons (.int n) (dpInts ns)
theorem canInts : ∀ ns : List Int, PyData.canLayAll0 (ns.map PyData.int) = true
  | [] => rfl
  | n :: ns => by
    show (PyData.canLay0 (.int n) && PyData.canLayAll0 (ns.map PyData.int)) = true
    rw [canInts ns]
    rfl
theorem depInts : ∀ ns : List Int, PyData.depthAll (ns.map PyData.int) = 0
  | [] => rfl
  | n :: ns => by
    show max (PyData.depth (.int n)) (PyData.depthAll (ns.map PyData.int)) = 0
    rw [depInts ns]
    rfl
theorem shInts (ns : List Int) : SeqAt.shaped (.list (ns.map PyData.int)) = true := by
  unfold SeqAt.shaped
  have h1 : PyData.canLay0 (.list (ns.map PyData.int)) = true := canInts ns
  have h2 : PyData.depth (.list (ns.map PyData.int)) = 0 + 1 := congrArg (· + 1) (depInts ns)
  rw [h1, h2]
  rfl
theorem eqNil (n : Int) (ns : List Int) : PyData.eqv (.list ((n :: ns).map PyData.int)) (.list []) = false := by rfl
/-! ### what a test asks grows with what is wanted of its answer -/
def MoE (t : TE) : Prop := ∀ σ H Q Q', (∀ v H1, Q v H1 → Q' v H1) → t σ H Q → t σ H Q'
def MoR (r : R2) : Prop := ∀ x y H Q Q', (∀ v H1, Q v H1 → Q' v H1) → r x y H Q → r x y H Q'
def MoT (t : TT) : Prop := ∀ σ H Q Q', (∀ b H1, Q b H1 → Q' b H1) → t σ H Q → t σ H Q'
theorem mo_var {i : Nat} : MoE (tVar i) := fun _ _ _ _ f ⟨v, e, h⟩ => ⟨v, e, f _ _ h⟩
theorem mo_c {v : V} : MoE (tC v) := fun _ _ _ _ f h => f _ _ h
theorem mo_op {r : R2} {a b : TE} (mr : MoR r) (ma : MoE a) (mb : MoE b) : MoE (tOp r a b) := fun _ _ _ _ f h => ma _ _ _ _ (fun _ _ h1 => mb _ _ _ _ (fun _ _ h2 => mr _ _ _ _ _ f h2) h1) h
theorem mo_eq : MoR rEq := fun _ _ _ _ _ f ⟨e, h⟩ => ⟨e, f _ _ h⟩
theorem mo_ix {K : PySem.W.Frag} : MoR (rIxL K) := fun _ _ _ _ _ f ⟨p, xs, i, v, e1, e2, e3, e4, h⟩ => ⟨p, xs, i, v, e1, e2, e3, e4, f _ _ h⟩
theorem mo_neD {K : PySem.W.Frag} : MoR (rNeD K) := fun _ _ _ _ _ f ⟨d, e, e1, e2, e3, e4, h⟩ => ⟨d, e, e1, e2, e3, e4, f _ _ h⟩
theorem mo_lst0 : MoE (tLst tNil) := fun _ _ _ _ f ⟨z, h⟩ => ⟨z, fun p hp => f _ _ (h p hp)⟩
theorem mo_test {t : TE} (m : MoE t) : MoT (tTest t) := fun _ _ _ _ f h => m _ _ _ _ (fun _ _ ⟨k, e, h1⟩ => ⟨k, e, f _ _ h1⟩) h
theorem mo_and {t u : TT} (m : MoT t) (n : MoT u) : MoT (tAnd t u) := fun _ _ _ _ f h => m _ _ _ _ (fun b _ h1 => by
  cases b with
  | true => exact n _ _ _ _ f h1
  | false => exact f _ _ h1) h
/-- while, what follows told apart -/
theorem while_x {c : TT} {tb : TS} {D : Ends} {σ : L2.St} {H : Hp} (Pv : L2.St → Hp → Prop) (μ : L2.St → Hp → Nat) (mono : MoT c) (h0 : Pv σ H) (hd : ∀ σ H, Pv σ H → D.nx σ H)
    (hs : ∀ σ H, Pv σ H → c σ H fun b H1 => if b = true then tb { D with nx := fun σ' H' => Pv σ' H' ∧ μ σ' H' < μ σ H, ct := fun σ' H' => Pv σ' H' ∧ μ σ' H' < μ σ H, bk := D.nx } σ H1 else Pv σ H1) : tWhile c tb D σ H :=
  while_by Pv μ h0 (fun σ H p => mono _ _ _ _ (fun b H1 q => by
    cases b with
    | true => exact q
    | false => exact iteF (hd σ H1 q)) (hs σ H p)) mono
theorem seq0 (k : Nat) : seqIndex? 0 (k + 1) = some 0 := by
  simp [seqIndex?]
theorem fmod_range (x : Int) {m : Int} (h : 0 < m) : 0 ≤ x.fmod m ∧ x.fmod m < m := by
  rw [Int.fmod_eq_emod_of_nonneg _ (Int.le_of_lt h)]
  exact ⟨Int.emod_nonneg _ (by omega), Int.emod_lt_of_pos _ h⟩
section
variable {P : Program} {w : World} {K : PySem.W.Frag} {mg : Str → Option Value} {base : Heap}
theorem ok_start {f : Addr} {fd : FuncData} (F : Fun K "_law_start" "_law_start" sStart f fd) (B : Bl mg) : FnOk P w K mg base CX0 1 f fd ["script"] (spStart K) := by
  refine F.ok scStart (fun vs H Q E h => ?_) (fun cdv A outer s H vs Q E hr h => ?_)
  · obtain ⟨a, ns, rfl, _⟩ := h
    rfl
  · obtain ⟨a, ns, rfl, ha, hl, k⟩ := h
    refine ⟨_, pss_one (ps_ret (pe_lst (pa_cons (pe_callTy call_list_of (by rfl) B.list (by decide +kernel) (pa_cons (pv 0) pa_nil)) (pa_cons pe_int (pa_cons pe_int (pa_cons pe_int pa_nil)))))), ?_⟩
    refine ⟨_, rfl, a, ns.map V.int, rfl, .inl ha, fun l hl0 => ⟨(by show 4 ≤ sizeLine; decide), fun p hp => ?_⟩⟩
    have npl : p ≠ l := fun z => by
      rw [z, upd_same] at hp
      cases hp
    have hp0 : H p = none := by
      rw [upd_ne npl] at hp
      exact hp
    refine k p l _ hp0 hl0 ⟨⟨ns, 0, 0, 11, upd_same, by rw [upd_ne npl.symm, upd_same], by omega, by omega, by omega, by omega, by omega⟩, npl⟩ fun q o e => ?_
    rw [upd_ne (ne_of_none e hp0), upd_ne (ne_of_none e hl0)]
    exact e
theorem ok_draw {f : Addr} {fd : FuncData} (F : Fun K "_law_draw" "_law_draw" sDraw f fd) (B : Bl mg) : FnOk P w K mg base CX0 1 f fd ["stream", "many"] spDraw := by
  refine F.ok scDraw (fun vs H Q E h => ?_) (fun cdv A outer s H vs Q E hr h => ?_)
  · obtain ⟨p, l, m, N, rfl, _⟩ := h
    rfl
  · obtain ⟨p, l, m, N, rfl, hm0, hm1, hN, ⟨⟨ns, a, b, c, hp, hl, hz, hb0, hb1, hc0, hc1⟩, npl⟩, k⟩ := h
    refine ⟨_, pss_cons (ps_asg (pe_op op_add (pe_ix ix_list (pv 0) pe_int (fun _ _ => rfl)) pe_int) (pg_sub (pv 0) pe_int set_list))
      (pss_cons (ps_while PassesOwn.never (PW.pt (pw_and (pt_cmpR op_eq (pe_ix ix_list (pv 0) pe_int (fun _ _ => rfl)) pe_int (nomark _)) (pw_and1 (pt_cmpR (op_neD hr.units) (pe_ix ix_list (pv 0) pe_int (fun _ _ => rfl)) (pe_lst pa_nil) (nomark _)))))
        (pss_cons (ps_set (i := 2) scDraw.nd rfl (Or.inl rfl) (pe_bm PySem.F.plainAttrs_list PySem.F.slot_list_pop PySem.F.type_list_pop mt_popAt (pe_ix ix_list (pv 0) pe_int (fun _ _ => rfl)) (pa_cons pe_int pa_nil)))
        (pss_cons (ps_asg (pe_op op_modN (pe_callTy call_int1 (by rfl) B.int (by decide +kernel) (pa_cons (pe_op op_add (pe_op op_add (pe_op op_mul (pe_ix ix_list (pv 0) pe_int (fun _ _ => rfl)) pe_int) (pv 2)) pe_int) pa_nil)) pe_int) (pg_sub (pv 0) pe_int set_list))
        (pss_one (ps_asg (pe_ifExp (pt_cmpR op_ge (pv 2) (pe_op op_pow pe_int pe_int) (nomark _)) (pv 2) pe_int) (pg_sub (pv 0) pe_int set_list))))))
      (pss_cons (ps_if (pt_cmpR op_gt (pe_ix ix_list (pv 0) pe_int (fun _ _ => rfl)) pe_int (nomark _))
        (pss_cons (ps_set (i := 3) scDraw.nd rfl (Or.inl rfl) (pe_op op_modN (pe_callTy call_int1 (by rfl) B.int (by decide +kernel) (pa_cons (pe_ix ix_list (pv 0) pe_int (fun _ _ => rfl)) pa_nil)) (pv 1)))
        (pss_cons (ps_asg (pe_op op_fdivN (pe_ix ix_list (pv 0) pe_int (fun _ _ => rfl)) (pv 1)) (pg_sub (pv 0) pe_int set_list))
        (pss_one (ps_ret (pv 3))))) pss_nil)
      (pss_cons (ps_set (i := 4) scDraw.nd rfl (Or.inl rfl) (pe_op op_modN (pe_callTy call_int1 (by rfl) B.int (by decide +kernel) (pa_cons (pe_op op_pow (pe_op op_add (pe_op op_add (pe_ix ix_list (pv 0) pe_int (fun _ _ => rfl)) (pe_op op_mul pe_int (pe_ix ix_list (pv 0) pe_int (fun _ _ => rfl)))) pe_int) pe_int) pa_nil)) pe_int))
      (pss_one (ps_ret (pe_op op_modN (pe_op op_modN (pe_callTy call_int1 (by rfl) B.int (by decide +kernel) (pa_cons (pe_op op_pow (pe_op op_add (pe_op op_add (pe_op op_mul (pv 4) pe_int) (pe_op op_mul pe_int (pe_ix ix_list (pv 0) pe_int (fun _ _ => rfl)))) pe_int) pe_int) pa_nil)) pe_int) (pv 1))))))), ?_⟩
    refine ⟨_, rfl, p, _, _, _, rfl, rfl, SqL.of hp, rfl, _, _, rfl, rfl, _, rfl, p, _, _, _, rfl, rfl, hp, rfl, ?_⟩
    refine while_x (fun σ1 H1 => (∃ x2, σ1 = [some (.ref p), some (.int m), x2, none, none]) ∧ ∃ (ns : List Int) (a c : Int), H1 p = some (.lst [.ref l, .int a, .int (b + 1), .int c]) ∧ H1 l = some (.lst (ns.map V.int)) ∧ ns.length ≤ 1000 ∧ 0 ≤ c ∧ c < 2147483647 ∧ Keep2 p l H H1)
      (fun _ H1 => match H1 l with
        | some (.lst xs) => xs.length
        | _ => 0) (mo_and (mo_test (mo_op mo_eq (mo_op mo_ix mo_var mo_c) mo_c)) (mo_test (mo_op mo_neD (mo_op mo_ix mo_var mo_c) mo_lst0)))
      ⟨⟨none, rfl⟩, ns, a, c, upd_same, by rw [upd_ne npl.symm]; exact hl, hz, hc0, hc1, fun q o e n1 n2 => by rw [upd_ne n1]; exact e⟩ ?_ ?_
    · rintro σ1 H1 ⟨⟨x2, rfl⟩, ns, a, c, hp, hl, hz, hc0, hc1, kp⟩
      refine ⟨_, rfl, p, _, _, _, rfl, rfl, SqL.of hp, rfl, _, _, rfl, rfl, _, rfl, ?_⟩
      by_cases ha : 0 < a
      · rw [decide_eq_true ha]
        refine iteT ⟨_, rfl, p, _, _, _, rfl, rfl, SqL.of hp, rfl, .inl ⟨_, rfl, _, rfl, _, _, rfl, rfl, (by omega), ?_⟩⟩
        refine ⟨_, rfl, p, _, _, _, rfl, rfl, SqL.of hp, rfl, _, rfl, _, _, rfl, rfl, ⟨by omega, by omega⟩, _, rfl, p, _, _, _, rfl, rfl, hp, rfl, ?_⟩
        refine ⟨_, rfl, ?_⟩
        obtain ⟨f1, f2⟩ := fmod_range a hm0
        refine k _ _ f1 f2 ⟨⟨ns, a.fdiv m, b + 1, c, upd_same, by rw [upd_ne npl.symm]; exact hl, hz, by omega, by omega, hc0, hc1⟩, npl⟩ fun q o e n1 n2 => ?_
        rw [upd_ne n1]
        exact kp q o e n1 n2
      · rw [decide_eq_false ha]
        refine iteF ?_
        have hbig : (c + 7919 * (b + 1) + 104729).natAbs < 2 ^ 64 := by omega
        refine ⟨_, rfl, p, _, _, _, rfl, rfl, SqL.of hp, rfl, _, rfl, p, _, _, _, rfl, rfl, SqL.of hp, rfl, _, _, rfl, rfl, .inl ⟨by decide, by decide⟩, _, _, rfl, rfl, _, _, rfl, rfl, _, _, rfl, rfl, ⟨by decide, by decide, hbig⟩, .inl ⟨_, rfl, _, _, rfl, rfl, (show (2147483629 : Int) ≠ 0 by decide), ?_⟩⟩
        have r5 := fmod_range ((c + 7919 * (b + 1) + 104729) ^ (5 : Int).toNat) (m := 2147483629) (by decide)
        have key : ∀ y : Int, 0 ≤ y → y < 2147483629 → (y * 48271 + 30011 * (b + 1) + 29).natAbs < 2 ^ 64 ∧ -(2 ^ 64) < y ∧ y < 2 ^ 64 := by
          intro y y0 y1
          omega
        have r6 := key _ r5.1 r5.2
        refine ⟨_, rfl, _, _, rfl, rfl, .inl r6.2, _, rfl, p, _, _, _, rfl, rfl, SqL.of hp, rfl, _, _, rfl, rfl, .inl ⟨by decide, by decide⟩, _, _, rfl, rfl, _, _, rfl, rfl, _, _, rfl, rfl, ⟨by decide, by decide, r6.1⟩, .inl ⟨_, rfl, _, _, rfl, rfl, (show (1000000007 : Int) ≠ 0 by decide), _, rfl, _, _, rfl, rfl, (show m ≠ 0 by omega), ?_⟩⟩
        obtain ⟨g1, g2⟩ := fmod_range (((((c + 7919 * (b + 1) + 104729) ^ (5 : Int).toNat).fmod 2147483629 * 48271 + 30011 * (b + 1) + 29) ^ (3 : Int).toNat).fmod 1000000007) hm0
        exact k _ _ g1 g2 ⟨⟨ns, a, b + 1, c, hp, hl, hz, by omega, by omega, hc0, hc1⟩, npl⟩ kp
    · rintro σ1 H1 ⟨⟨x2, rfl⟩, ns, a, c, hp, hl, hz, hc0, hc1, kp⟩
      refine ⟨_, rfl, p, _, _, _, rfl, rfl, SqL.of hp, rfl, rfl, _, rfl, ?_⟩
      by_cases ha : a = 0
      · subst ha
        rw [decide_eq_true rfl]
        refine iteT ⟨_, rfl, p, _, _, _, rfl, rfl, SqL.of hp, rfl, Nat.zero_le _, fun q hq => ?_⟩
        have nlq : l ≠ q := ne_of_none hl hq
        have npq : p ≠ q := ne_of_none hp hq
        refine ⟨.list (ns.map PyData.int), .list [], .lst (SqL.of (by rw [upd_ne nlq]; exact hl)) (dpInts ns), .lst (SqL.of upd_same) .nil, shInts ns, rfl, _, rfl, ?_⟩
        cases ns with
        | nil =>
          have e0 : PyData.eqv (.list (([] : List Int).map PyData.int)) (.list []) = true := by rfl
          rw [e0]
          exact iteF ⟨⟨x2, rfl⟩, [], 0, c, by rw [upd_ne npq]; exact hp, by rw [upd_ne nlq]; exact hl, hz, hc0, hc1, fun r o e n1 n2 => by
            have e2 := kp r o e n1 n2
            rw [upd_ne (ne_of_none e2 hq)]
            exact e2⟩
        | cons n ns =>
          rw [eqNil]
          refine iteT ?_
          have hp2 : upd H1 q (.lst []) p = some (.lst [.ref l, .int 0, .int (b + 1), .int c]) := by rw [upd_ne npq]; exact hp
          have hl2 : upd H1 q (.lst []) l = some (.lst (V.int n :: ns.map V.int)) := by rw [upd_ne nlq]; exact hl
          refine ⟨_, rfl, p, _, _, _, rfl, rfl, SqL.of hp2, rfl, .inl ⟨rfl, _, SqL.of hl2⟩, l, _, 0, 0, _, rfl, rfl, hl2, by decide, by decide, seq0 _, rfl, ?_⟩
          have hp3 : upd (upd H1 q (.lst [])) l (.lst ((V.int n :: ns.map V.int).eraseIdx 0)) p = some (.lst [.ref l, .int 0, .int (b + 1), .int c]) := by rw [upd_ne npl]; exact hp2
          have r7 := fmod_range (c * 8191 + n + 3) (m := 2147483647) (by decide)
          refine ⟨_, rfl, p, _, _, _, rfl, rfl, SqL.of hp3, rfl, _, _, rfl, rfl, .inl ⟨by omega, by omega⟩, _, rfl, _, _, rfl, rfl, _, _, rfl, rfl, .inl ⟨_, rfl, _, _, rfl, rfl, (show (2147483647 : Int) ≠ 0 by decide), _, rfl, p, _, _, _, rfl, rfl, hp3, rfl, ?_⟩⟩
          refine ⟨_, rfl, _, _, rfl, rfl, ⟨by decide, by decide, by decide⟩, _, _, rfl, rfl, _, rfl, ?_⟩
          have fin : ∀ (z : Int) (H2 : Hp), H2 = upd (upd (upd (upd H1 q (.lst [])) l (.lst ((V.int n :: ns.map V.int).eraseIdx 0))) p (.lst [.ref l, .int 0, .int (b + 1), .int ((c * 8191 + n + 3).fmod 2147483647)])) p (.lst [.ref l, .int z, .int (b + 1), .int ((c * 8191 + n + 3).fmod 2147483647)]) →
              ((∃ x, [some (V.ref p), some (V.int m), some (V.int n), none, none] = [some (V.ref p), some (V.int m), x, none, none]) ∧ ∃ (ns : List Int) (a c : Int), H2 p = some (.lst [.ref l, .int a, .int (b + 1), .int c]) ∧ H2 l = some (.lst (ns.map V.int)) ∧ ns.length ≤ 1000 ∧ 0 ≤ c ∧ c < 2147483647 ∧ Keep2 p l H H2) ∧
              (match H2 l with
                | some (.lst xs) => xs.length
                | _ => 0) < (match H1 l with
                | some (.lst xs) => xs.length
                | _ => 0) := fun z H2 e => by
            subst e
            have el : upd (upd (upd (upd H1 q (.lst [])) l (.lst ((V.int n :: ns.map V.int).eraseIdx 0))) p (.lst [.ref l, .int 0, .int (b + 1), .int ((c * 8191 + n + 3).fmod 2147483647)])) p (.lst [.ref l, .int z, .int (b + 1), .int ((c * 8191 + n + 3).fmod 2147483647)]) l = some (.lst (ns.map V.int)) := by
              rw [upd_ne npl.symm, upd_ne npl.symm, upd_same]
              rfl
            refine ⟨⟨⟨_, rfl⟩, ns, z, _, upd_same, el, by simp at hz; omega, r7.1, r7.2, fun r o e n1 n2 => ?_⟩, ?_⟩
            · have e2 := kp r o e n1 n2
              rw [upd_ne n1, upd_ne n1, upd_ne n2, upd_ne (ne_of_none e2 hq)]
              exact e2
            · rw [el, hl]
              show (ns.map V.int).length < (V.int n :: ns.map V.int).length
              simp
          refine ite2 (fun _ => ?_) fun _ => ?_
          · exact ⟨_, rfl, _, rfl, p, _, _, _, rfl, rfl, upd_same, rfl, fin _ _ rfl⟩
          · exact ⟨_, rfl, p, _, _, _, rfl, rfl, upd_same, rfl, fin _ _ rfl⟩
      · rw [decide_eq_false (fun z => ha (V.int.inj z))]
        exact iteF (iteF ⟨⟨x2, rfl⟩, ns, a, c, hp, hl, hz, hc0, hc1, kp⟩)
end
end K0
set_option maxHeartbeats 4000000
namespace K0
open PySem PySem.Spec PyProof.Rows L2
def spMixed : Sp := fun vs H Q _ => ∃ (p l q : Addr) (N : Int) (xs : List V), vs = [.ref p, .ref q] ∧ xs.length ≤ 60 ∧ 0 ≤ N ∧ N ≤ 900 ∧ H q = some (.lst xs) ∧ StreamAt H p l N ∧
  ∀ r ys H', H r = none → H' r = some (.lst ys) → ys.length = xs.length → (∀ y ∈ ys, y ∈ xs) → StreamAt H' p l (N + xs.length) → Keep2 p l H H' → Q (.ref r) H'
theorem scMixed : FnScope ["stream", "some", "left", "k"] ["stream", "some"] (defScope sMixed) := ⟨rfl, rfl, rfl, by decide +kernel, rfl, by decide +kernel, by decide +kernel⟩
theorem StreamAt.keep {H H' : Hp} {p l : Addr} {N M : Int} (s : StreamAt H p l N) (k : Same H H') (h : N ≤ M) : StreamAt H' p l M := by
  obtain ⟨⟨ns, a, b, c, h1, h2, h3, h4, h5, h6, h7⟩, ne⟩ := s
  exact ⟨⟨ns, a, b, c, k _ _ h1, k _ _ h2, h3, h4, by omega, h6, h7⟩, ne⟩
theorem same_new {H : Hp} {a : Addr} {o : HO} (h : H a = none) : Same H (upd H a o) := fun b u e => by
  rw [upd_ne (ne_of_none e h)]
  exact e
theorem StreamAt.p {H : Hp} {p l : Addr} {N : Int} (s : StreamAt H p l N) : ∃ o, H p = some o := let ⟨⟨_, _, _, _, h, _⟩, _⟩ := s; ⟨_, h⟩
theorem StreamAt.l {H : Hp} {p l : Addr} {N : Int} (s : StreamAt H p l N) : ∃ o, H l = some o := let ⟨⟨_, _, _, _, _, h, _⟩, _⟩ := s; ⟨_, h⟩
theorem seqAt {d n : Int} {k : Nat} (h0 : 0 ≤ d) (h1 : d < k) : seqIndex? d k = some d.toNat := by
  unfold seqIndex?
  have e1 : ¬ d < 0 := by omega
  simp only [e1, if_false]
  rw [if_pos (by simp; omega)]
theorem yes_t {A B : Hp → Prop} {σ : L2.St} {H : Hp} (h : A H) : tYes σ H fun b H3 => if b = true then A H3 else B H3 := show (if true = true then A H else B H) from iteT h
def rLenS (K : PySem.W.Frag) : List V → Hp → VK → Prop := fun xs H Q => ∃ p ys, xs = [.ref p] ∧ (SqL K H p ys ∨ SqT K H p ys) ∧ Q (.int ys.length) H
section
variable {P : Program} {w : World} {K : PySem.W.Frag} {mg : Str → Option Value} {base : Heap}
theorem ok_mixed {f fD : Addr} {fd fdD : FuncData} (F : Fun K "_law_mixed" "_law_mixed" sMixed f fd) (FD : Fun K "_law_draw" "_law_draw" sDraw fD fdD) (gD : mg "_law_draw" = some (.ref fD)) (bD : Binds K fdD ["stream", "many"] []) (B : Bl mg) :
    FnOk P w K mg base CX0 2 f fd ["stream", "some"] spMixed := by
  have GD := ok_draw (P := P) (w := w) (base := base) FD B
  refine F.ok scMixed (fun vs H Q E h => ?_) (fun cdv A outer s H vs Q E hr h => ?_)
  · obtain ⟨p, l, q, N, xs, rfl, _⟩ := h
    rfl
  · obtain ⟨p, l, q, N, xs, rfl, hx, hN0, hN, hq, st, k⟩ := h
    refine ⟨_, pss_cons (ps_set (i := 2) scMixed.nd rfl (Or.inr rfl) (pe_callTy call_list_of (by rfl) B.list (by decide +kernel) (pa_cons (pv 1) pa_nil)))
      (pss_one (ps_ret (pe_lc (own := [("k", 3)]) (g := gName 3) (tt := tYes) (te := tBM K "list" rPopAt (tVar 2) (tCons (tCall spDraw [] E0 (tCons (tVar 0) (tCons (tCB (rLenS K) (tCons (tVar 2) tNil)) tNil))) tNil)) rfl scMixed.nd (pi_range1 (by rfl) B.range (pa_cons (pe_callB call_len_seq (by rfl) B.len PySem.boot_len (pa_cons (pv 2) pa_nil)) pa_nil))
        (blkOk_by (own := [("k", 3)]) (N := ["stream", "some", "left", "k"]) (sc := defScope sMixed) (by decide +kernel)) (fun _ _ _ _ _ => pg_name (i := 3) scMixed.nd rfl (Or.inl rfl)) (fun _ _ _ _ _ => pts_nil)
        (fun _ _ _ _ _ => pe_bm PySem.F.plainAttrs_list PySem.F.slot_list_pop PySem.F.type_list_pop mt_popAt (pv 2) (pa_cons (pe_call GD hr (by rfl) gD FD.kp bD .nil pass0 (pa_cons (pv 0) (pa_cons (pe_callB call_len_seq (by rfl) B.len PySem.boot_len (pa_cons (pv 2) pa_nil)) pa_nil))) pa_nil))))), ?_⟩
    refine ⟨_, rfl, q, xs, rfl, .inl (SqL.of hq), fun a ha => ?_⟩
    refine ⟨_, rfl, a, xs, rfl, .inl (SqL.of upd_same), (xs.length : Int), rfl, by omega, by omega, fun D hD => ?_⟩
    have naD : a ≠ D := ne_of_none upd_same hD
    obtain ⟨_, hp⟩ := st.p
    obtain ⟨_, hl⟩ := st.l
    have hD0 : H D = none := by
      rw [upd_ne naD.symm] at hD
      exact hD
    have npa := ne_of_none hp ha
    have nla := ne_of_none hl ha
    have npD := ne_of_none hp hD0
    have nlD := ne_of_none hl hD0
    refine lc_range (lo := 0) (n := (xs.length : Int).toNat) (fun i H1 => ∃ ls ys : List V, H1 a = some (.lst ls) ∧ H1 D = some (.lst ys) ∧ ls.length + i = xs.length ∧ ys.length = i ∧ (∀ y ∈ ls, y ∈ xs) ∧ (∀ y ∈ ys, y ∈ xs) ∧ StreamAt H1 p l (N + i) ∧ Keep2 p l H H1) ?_ ?_ ?_
    · refine ⟨xs, [], by rw [upd_ne naD, upd_same], upd_same, rfl, rfl, fun y h => h, fun y h => absurd h List.not_mem_nil, ?_, fun r o e n1 n2 => ?_⟩
      · exact (st.keep (same_new ha) (Int.le_refl _)).keep (same_new hD) (by omega)
      · rw [upd_ne (ne_of_none e hD0), upd_ne (ne_of_none e ha)]
        exact e
    · rintro i H1 hi ⟨ls, ys, e1, e2, l1, l2, m1, m2, s1, k1⟩
      refine ⟨rfl, ?_⟩
      refine yes_t ?_
      refine ⟨_, rfl, .inl ⟨rfl, _, SqL.of e1⟩, _, rfl, _, rfl, a, ls, rfl, .inl (SqL.of e1), p, l, (ls.length : Int), N + i, rfl, by omega, by omega, by omega, s1, fun d H2 d0 d1 s2 k2 => ?_⟩
      have f1 : H2 a = some (.lst ls) := k2 _ _ e1 npa.symm nla.symm
      have f2 : H2 D = some (.lst ys) := k2 _ _ e2 npD.symm nlD.symm
      have hlt : d.toNat < ls.length := by omega
      refine ⟨a, ls, d, d.toNat, ls[d.toNat], rfl, rfl, f1, by omega, by omega, seqAt (n := 0) d0 d1, List.getElem?_eq_getElem hlt, ys, by rw [upd_ne naD.symm]; exact f2, by rw [sizeLine_eq]; omega, ?_⟩
      refine ⟨ls.eraseIdx d.toNat, ys ++ [ls[d.toNat]], by rw [upd_ne naD, upd_same], upd_same, ?_, ?_, fun y h => m1 y (List.mem_of_mem_eraseIdx h), fun y h => ?_, ?_, fun r o e n1 n2 => ?_⟩
      · rw [List.length_eraseIdx_of_lt hlt]
        omega
      · rw [List.length_append]
        simp [l2]
      · rcases List.mem_append.mp h with h | h
        · exact m2 y h
        · rw [List.mem_singleton.mp h]
          exact m1 _ (List.getElem_mem hlt)
      · obtain ⟨⟨ns, x, b, c, g1, g2, g3, g4, g5, g6, g7⟩, ne⟩ := s2
        exact ⟨⟨ns, x, b, c, by rw [upd_ne npD, upd_ne npa]; exact g1, by rw [upd_ne nlD, upd_ne nla]; exact g2, g3, g4, by omega, g6, g7⟩, ne⟩
      · have z := k1 r o e n1 n2
        have z2 := k2 r o z n1 n2
        rw [upd_ne (ne_of_none e hD0), upd_ne (ne_of_none e ha)]
        exact z2
    · rintro H1 ⟨ls, ys, e1, e2, l1, l2, m1, m2, s1, k1⟩
      refine k D ys H1 hD0 e2 (by omega) m2 ?_ k1
      have z : (((xs.length : Int).toNat : Nat) : Int) = xs.length := by omega
      rw [z] at s1
      exact s1
end
end K0
set_option maxHeartbeats 4000000
namespace K0
open PySem PySem.Spec PyProof.Rows L2 LamX NdefX
/-! ### the law's error objects -/
/-- at m: an error of the class at C with these fields -/
def ExAt (H : Hp) (m C : Addr) (fl : List Str) (vs : List V) : Prop := ∃ d, H m = some (exo m C d) ∧ (match d with
  | none => fl = []
  | some dx => H dx = some (exd dx (fl.zip vs).reverse))
theorem ExAt.keep {H H' : Hp} {m C : Addr} {fl : List Str} {vs : List V} (h : ExAt H m C fl vs) (k : Same H H') : ExAt H' m C fl vs := by
  obtain ⟨d, e1, e2⟩ := h
  refine ⟨d, k _ _ e1, ?_⟩
  cases d with
  | none => exact e2
  | some dx => exact k _ _ e2
/-- an __init__ that stores its arguments -/
def spInit (C : Addr) (fl : List Str) : Sp := fun vs H Q _ => ∃ (a : Addr) (ws : List V), vs = .ref a :: ws ∧ ws.length = fl.length ∧ H a = some (exo a C none) ∧
  ∀ dx H', H dx = none → H' a = some (exo a C (some dx)) → H' dx = some (exd dx (fl.zip ws).reverse) → (∀ b o, H b = some o → b ≠ a → H' b = some o) → Q .non H'
/-- a lambda that reads the fields into a list -/
def spLam (C : Addr) (fl : List Str) : Sp := fun vs H Q _ => ∃ (a : Addr) (ws : List V), vs = [.ref a] ∧ ws.length = fl.length ∧ ExAt H a C fl ws ∧ ∀ p, H p = none → Q (.ref p) (upd H p (.lst ws))
theorem two_of {l : List V} (h : l.length = 2) : ∃ v u, l = [v, u] := by
  match l, h with
  | [v, u], _ => exact ⟨v, u, rfl⟩
def lamP (p : Pos) : Arguments := { posonlyargs := [], args := [{ arg := "e", annotation := none, pos := p }], vararg := none, kwonlyargs := [], kw_defaults := [], kwarg := none, defaults := [] }
def lamS : Scope := { kind := .function, names := [(PySem.Str.ofString "e", .local)], isGenerator := false, isCoroutine := false, more := [] }
theorem lamNS : NScope ["e"] ["e"] [] lamS := nscope_by (by decide +kernel)
section
variable {P : Program} {w : World} {K : PySem.W.Frag} {mg : Str → Option Value} {base : Heap} {C : Addr} {F G : Str} {qual : Str} {p p1 p2 p3 p4 p5 : Pos}
theorem ok_init1 {st : Stmt} {f : Addr} {fd : FuncData} (Fn : Fun K "__init__" qual st f fd) (S : FnScope ["self", F] ["self", F] (defScope st)) (hB : defBody st = [.Assign [.Attribute (.Name "self" p1) F p2] (.Name F p3) p4]) (T : OexC K C) (no : PySem.W.findIn K (.ref C) F = some none)
    (hd : (F == ("__debug__" : Str)) = false) (hcd : (F == ("__classdict__" : Str)) = false) : FnOk P w K mg base CX0 1 f fd ["self", F] (spInit C [F]) := by
  refine Fn.ok S (fun vs H Q E h => ?_) (fun cdv A outer s H vs Q E hr h => ?_)
  · obtain ⟨a, ws, rfl, hl, _⟩ := h
    simpa using hl
  · obtain ⟨a, ws, rfl, hl, ha, k⟩ := h
    obtain ⟨v, rfl⟩ : ∃ v, ws = [v] := List.length_eq_one_iff.mp hl
    rw [hB]
    have vis : ∀ x ∈ (["self", F] : List Str), Vis (defScope st) x := fun x hx => (S.par x hx).elim .inl fun z => .inr (.inl z)
    refine ⟨_, pss_one (ps_ost (pe_var (i := 0) rfl (vis _ (by simp))) (pe_var (i := 1) rfl (vis _ (by simp)) hd hcd)), ?_⟩
    refine ⟨_, rfl, _, rfl, a, C, rfl, T, no, .inl ⟨ha, fun dx hdx ne => ?_⟩⟩
    refine k dx _ hdx upd_same (by rw [upd_ne ne, upd_same]; rfl) fun b o e hb => ?_
    rw [upd_ne hb, upd_ne (ne_of_none e hdx)]
    exact e
theorem lok1 (xf : XfC K C) (no : PySem.W.findIn K (.ref C) F = some none) : LOk P w K mg base 1 ⟨qual, lamP p, .List [.Attribute (.Name "e" p1) F p2] p3, lamS⟩ 1 (spLam C [F]) := by
  refine lok_of (ps := ["e"]) lamNS (fun pm cv ctv us hl => match us, hl with | [_], _ => rfl) (fun vs H Q E h => ?_) (fun A outer s H vs Q f c hr h => ?_)
  · obtain ⟨a, ws, rfl, _⟩ := h
    rfl
  · obtain ⟨a, ws, rfl, hl, ⟨d, e1, e2⟩, k⟩ := h
    obtain ⟨v, rfl⟩ : ∃ v, ws = [v] := List.length_eq_one_iff.mp hl
    refine ⟨_, pe_lst (pa_cons (pe_exoF (pv 0)) pa_nil), ?_⟩
    cases d with
    | none => cases e2
    | some dx => exact ⟨_, rfl, a, C, dx, _, v, rfl, e1, e2, by simp, xf, no, by show 1 ≤ sizeLine; decide, k⟩
theorem lok0 : LOk P w K mg base 1 ⟨qual, lamP p, .List [] p3, lamS⟩ 1 (spLam C []) := by
  refine lok_of (ps := ["e"]) lamNS (fun pm cv ctv us hl => match us, hl with | [_], _ => rfl) (fun vs H Q E h => ?_) (fun A outer s H vs Q f c hr h => ?_)
  · obtain ⟨a, ws, rfl, _⟩ := h
    rfl
  · obtain ⟨a, ws, rfl, hl, _, k⟩ := h
    obtain rfl : ws = [] := List.length_eq_zero_iff.mp hl
    exact ⟨_, pe_lst pa_nil, by show 0 ≤ sizeLine; decide, k⟩
theorem lok2 (xf : XfC K C) (no : PySem.W.findIn K (.ref C) F = some none) (no2 : PySem.W.findIn K (.ref C) G = some none) (hFG : G ≠ F) : LOk P w K mg base 1 ⟨qual, lamP p, .List [.Attribute (.Name "e" p1) F p2, .Attribute (.Name "e" p4) G p5] p3, lamS⟩ 1 (spLam C [F, G]) := by
  refine lok_of (ps := ["e"]) lamNS (fun pm cv ctv us hl => match us, hl with | [_], _ => rfl) (fun vs H Q E h => ?_) (fun A outer s H vs Q f c hr h => ?_)
  · obtain ⟨a, ws, rfl, _⟩ := h
    rfl
  · obtain ⟨a, ws, rfl, hl, ⟨d, e1, e2⟩, k⟩ := h
    obtain ⟨v, u, rfl⟩ : ∃ v u, ws = [v, u] := two_of hl
    refine ⟨_, pe_lst (pa_cons (pe_exoF (pv 0)) (pa_cons (pe_exoF (pv 0)) pa_nil)), ?_⟩
    cases d with
    | none => cases e2
    | some dx =>
      have h1 : (([F, G].zip [v, u]).reverse).lookup F = some v := by
        show List.lookup F [(G, u), (F, v)] = some v
        have e : (F == G) = false := by simpa using fun z => hFG z.symm
        simp [List.lookup, e]
      have h2 : (([F, G].zip [v, u]).reverse).lookup G = some u := by
        show List.lookup G [(G, u), (F, v)] = some u
        simp [List.lookup]
      exact ⟨_, rfl, a, C, dx, _, v, rfl, e1, e2, h1, xf, no, _, rfl, a, C, dx, _, u, rfl, e1, e2, h2, xf, no2, by show 2 ≤ sizeLine; decide, k⟩
theorem ok_init2 {st : Stmt} {f : Addr} {fd : FuncData} {q1 q2 q3 q4 : Pos} (Fn : Fun K "__init__" qual st f fd) (S : FnScope ["self", F, G] ["self", F, G] (defScope st)) (hB : defBody st = [.Assign [.Attribute (.Name "self" p1) F p2] (.Name F p3) p4, .Assign [.Attribute (.Name "self" q1) G q2] (.Name G q3) q4])
    (T : OexC K C) (no : PySem.W.findIn K (.ref C) F = some none) (no2 : PySem.W.findIn K (.ref C) G = some none)
    (hd : (F == ("__debug__" : Str)) = false) (hcd : (F == ("__classdict__" : Str)) = false) (hd2 : (G == ("__debug__" : Str)) = false) (hcd2 : (G == ("__classdict__" : Str)) = false) : FnOk P w K mg base CX0 1 f fd ["self", F, G] (spInit C [F, G]) := by
  refine Fn.ok S (fun vs H Q E h => ?_) (fun cdv A outer s H vs Q E hr h => ?_)
  · obtain ⟨a, ws, rfl, hl, _⟩ := h
    simpa using hl
  · obtain ⟨a, ws, rfl, hl, ha, k⟩ := h
    obtain ⟨v, u, rfl⟩ : ∃ v u, ws = [v, u] := two_of hl
    rw [hB]
    have vis : ∀ x ∈ (["self", F, G] : List Str), Vis (defScope st) x := fun x hx => (S.par x hx).elim .inl fun z => .inr (.inl z)
    refine ⟨_, pss_cons (ps_ost (pe_var (i := 0) rfl (vis _ (by simp))) (pe_var (i := 1) rfl (vis _ (by simp)) hd hcd)) (pss_one (ps_ost (pe_var (i := 0) rfl (vis _ (by simp))) (pe_var (i := 2) rfl (vis _ (by simp)) hd2 hcd2))), ?_⟩
    refine ⟨_, rfl, _, rfl, a, C, rfl, T, no, .inl ⟨ha, fun dx hdx ne => ?_⟩⟩
    refine ⟨_, rfl, _, rfl, a, C, rfl, T, no2, .inr ⟨dx, _, upd_same, by rw [upd_ne ne, upd_same], by show 1 ≤ 900; decide, ?_⟩⟩
    refine k dx _ hdx (by rw [upd_ne ne.symm, upd_same]) (by rw [upd_same]; rfl) fun b o e hb => ?_
    rw [upd_ne (ne_of_none e hdx), upd_ne hb, upd_ne (ne_of_none e hdx)]
    exact e
end
end K0
set_option maxHeartbeats 4000000
namespace K0
open PySem PySem.Spec PyProof.Rows L2 LamX NdefX
/-! ### the classes, one by one -/
structure Cl where
  nm : Str
  fl : List Str
def vals (c : Cl) (x y : V) : List V := match c.fl with
  | [] => []
  | [_] => [x]
  | _ => [x, y]
theorem vals_len {c : Cl} {x y : V} (h : c.fl.length ≤ 2) : (vals c x y).length = c.fl.length := by
  obtain ⟨n, fl⟩ := c
  match fl, h with
  | [], _ => rfl
  | [_], _ => rfl
  | [_, _], _ => rfl
  | _ :: _ :: _ :: _, h => simp at h
/-- what is kept but at q: all that is no table -/
def KeepB (q : Addr) (H H' : Hp) : Prop := ∀ b o, H b = some o → b ≠ q → (∀ ps, o ≠ .tbl ps) → H' b = some o
section
variable (P : Program) (w : World) (K : PySem.W.Frag) (mg : Str → Option Value) (base : Heap) (ad : Str → Addr)
/-- one item of the law's list: t the tuple, d the list of what is due -/
structure Item (H : Hp) (c : Cl) (x y : V) (t d : Addr) : Prop where
  ex : ∃ (m n f c' : Addr) (L : LS), H t = some (.tup [.ref m, .ref n, .ref f, .ref d]) ∧ ExAt H m (ad c.nm) c.fl (vals c x y) ∧ ExAt H n (ad c.nm) c.fl (vals c x y) ∧
    H f = some (LamO f L c') ∧ H c' = some (CodeO c' L.qual) ∧ LOk P w K mg base 1 L 1 (spLam (ad c.nm) c.fl) ∧ H d = some (.lst (vals c x y))
def Items (H : Hp) (cs : List Cl) (tds : List (Addr × Addr)) (x y : V) : Prop := Paired (fun c p => Item P w K mg base ad H c x y p.1 p.2) cs tds
end
section
variable {P : Program} {w : World} {K : PySem.W.Frag} {mg : Str → Option Value} {base : Heap} {ad : Str → Addr} {H H' H2 : Hp} {q : Addr} {zs ys : List V} {c : Cl} {x y : V} {t d : Addr}
theorem exo_lst {e C : Addr} {o : Option Addr} {xs : List V} : exo e C o ≠ .lst xs := fun z => by
  have z' : HO.ext _ = HO.lst xs := z
  cases z'
theorem exd_lst {e : Addr} {fs : List (Str × V)} {xs : List V} : exd e fs ≠ .lst xs := fun z => by
  have z' : HO.ext _ = HO.lst xs := z
  cases z'
theorem exd_tbl {e : Addr} {fs : List (Str × V)} {ps : Array Value} : exd e fs ≠ .tbl ps := fun z => by
  have z' : HO.ext _ = HO.tbl ps := z
  cases z'
theorem lamO_lst {f c : Addr} {L : LS} {xs : List V} : LamO f L c ≠ .lst xs := fun z => by
  unfold LamO at z
  cases z
theorem codeO_lst {c : Addr} {s : Str} {xs : List V} : CodeO c s ≠ .lst xs := fun z => by
  unfold CodeO at z
  cases z
theorem ExAt.keepB {m C : Addr} {fl : List Str} {vs : List V} (h : ExAt H m C fl vs) (hq : H q = some (.lst zs)) (k : KeepB q H H') : ExAt H' m C fl vs := by
  obtain ⟨o, e1, e2⟩ := h
  refine ⟨o, k _ _ e1 (ne_of e1 hq exo_lst) fun ps => exo_tbl, ?_⟩
  cases o with
  | none => exact e2
  | some dx => exact k _ _ e2 (ne_of e2 hq exd_lst) fun ps => exd_tbl
theorem ExAt.keepN {m C : Addr} {fl : List Str} {vs : List V} (h : ExAt H m C fl vs) (k : ExtN H H') : ExAt H' m C fl vs := by
  obtain ⟨o, e1, e2⟩ := h
  refine ⟨o, k _ _ e1 fun ps => exo_tbl, ?_⟩
  cases o with
  | none => exact e2
  | some dx => exact k _ _ e2 fun ps => exd_tbl
theorem Item.keepB (h : Item P w K mg base ad H c x y t d) (hq : H q = some (.lst zs)) (k : KeepB q H H') (hd : d ≠ q) : Item P w K mg base ad H' c x y t d := by
  obtain ⟨m, n, f, c', L, h1, h2, h3, h4, h5, h6, h7⟩ := h.ex
  exact ⟨m, n, f, c', L, k _ _ h1 (ne_of h1 hq (by intro z; cases z)) (by intro ps z; cases z), h2.keepB hq k, h3.keepB hq k, k _ _ h4 (ne_of h4 hq lamO_lst) lamO_ne, k _ _ h5 (ne_of h5 hq codeO_lst) codeO_ne, h6, k _ _ h7 hd (by intro ps z; cases z)⟩
theorem Item.keepN (h : Item P w K mg base ad H c x y t d) (k : ExtN H H') : Item P w K mg base ad H' c x y t d := by
  obtain ⟨m, n, f, c', L, h1, h2, h3, h4, h5, h6, h7⟩ := h.ex
  exact ⟨m, n, f, c', L, k _ _ h1 (by intro ps z; cases z), h2.keepN k, h3.keepN k, k _ _ h4 lamO_ne, k _ _ h5 codeO_ne, h6, k _ _ h7 (by intro ps z; cases z)⟩
theorem Items.keepB {cs : List Cl} {tds : List (Addr × Addr)} (h : Items P w K mg base ad H cs tds x y) (hq : H q = some (.lst zs)) (k : KeepB q H H') (hd : ∀ p ∈ tds, p.2 ≠ q) : Items P w K mg base ad H' cs tds x y := by
  induction h with
  | nil => exact .nil
  | cons r _ ih => exact .cons (r.keepB hq k (hd _ List.mem_cons_self)) (ih fun p hp => hd p (List.mem_cons_of_mem _ hp))
theorem Items.keepN {cs : List Cl} {tds : List (Addr × Addr)} (h : Items P w K mg base ad H cs tds x y) (k : ExtN H H') : Items P w K mg base ad H' cs tds x y := by
  induction h with
  | nil => exact .nil
  | cons r _ ih => exact .cons (r.keepN k) ih
theorem Items.app {cs cs' : List Cl} {tds tds' : List (Addr × Addr)} (h : Items P w K mg base ad H cs tds x y) (h' : Items P w K mg base ad H cs' tds' x y) : Items P w K mg base ad H (cs ++ cs') (tds ++ tds') x y := by
  induction h with
  | nil => exact h'
  | cons r _ ih => exact .cons r ih
theorem Items.len {cs : List Cl} {tds : List (Addr × Addr)} (h : Items P w K mg base ad H cs tds x y) : tds.length = cs.length := (Paired.length h).symm
theorem tabs_upd {T : List (Addr × Str)} (h : Tabs T H) (hq : H q = some (.lst zs)) : Tabs T (upd H q (.lst ys)) := fun p hp => by
  obtain ⟨ps, h1, h2, h3⟩ := h p hp
  refine ⟨ps, by rw [upd_ne (ne_of h1 hq (by intro z; cases z))]; exact h1, h2, fun pos cv hc => ?_⟩
  obtain ⟨c, e1, e2⟩ := h3 pos cv hc
  exact ⟨c, e1, by rw [upd_ne (ne_of e2 hq codeO_lst)]; exact e2⟩
theorem keepB_upd : KeepB q H (upd H q (.lst ys)) := fun b o e n _ => by
  rw [upd_ne n]
  exact e
theorem extN_same (k : Same H H') : ExtN H H' := fun b o e _ => k b o e
end
/-! ### one statement of the law's makers -/
/-- the context of a maker -/
structure MX (X : Cx) (T : List (Addr × Str)) (c Pt : Addr) : Prop where
  n0 : X.N[0]? = some ("x" : Str)
  n1 : X.N[1]? = some ("y" : Str)
  n3 : X.N[3]? = some ("found" : Str)
  v0 : Vis X.env.scope "x"
  v1 : Vis X.env.scope "y"
  v3 : Vis X.env.scope "found"
  tb : TabB X.base X.mg c Pt
  code : X.env.code = .ref c
  mem : (Pt, X.env.qual ++ "<lambda>") ∈ T
  un : ∀ p ∈ T, p.1 = Pt → p.2 = X.env.qual ++ "<lambda>"
  room : Room 2 X.A
/-- what such a statement does: one item more -/
def Does (X : Cx) (T : List (Addr × Str)) (ad : Str → Addr) (st : Stmt) (c : Cl) : Prop := ∃ t : TS, PS X st t ∧
  ∀ (D : Ends) (σ : L2.St) (H : Hp) (x y : V) (q : Addr) (zs : List V), σ[0]? = some (some x) → σ[1]? = some (some y) → σ[3]? = some (some (.ref q)) → H q = some (.lst zs) → zs.length ≤ 1000 → Tabs T H →
    (∀ (u d : Addr) (H' : Hp), KeepB q H H' → Tabs T H' → H' q = some (.lst (zs ++ [.ref u])) → d ≠ q → Item X.prog X.w X.K X.mg X.base ad H' c x y u d → D.nx σ H') → t D σ H
/-- an error class with one field -/
structure E1 (P : Program) (w : World) (K : PySem.W.Frag) (mg : Str → Option Value) (base : Heap) (ad : Str → Addr) (nm F : Str) (fI : Addr) (fd : FuncData) : Prop where
  gC : mg nm = some (.ref (ad nm))
  T : OexC K (ad nm)
  xf : XfC K (ad nm)
  no : PySem.W.findIn K (.ref (ad nm)) F = some none
  iC : PySem.W.findIn K (.ref (ad nm)) "__init__" = some (some (.ref fI))
  tI : PySem.W.typeIn K (.ref fI) = some (.type "function")
  ok : FnOk P w K mg base CX0 1 fI fd ["self", F] (spInit (ad nm) [F])
  bd : L2.Binds K fd ["self", F] []
  bk : ∀ (s : Shared) (a : Addr) (ws : List Value), K.In s.heap → ws.length = ([F] : List Str).length → BindsTo s fd ⟨[.ref a], ([F] : List Str).zip ws⟩ ((["self", F] : List Str).zip (.ref a :: ws))
section
variable {X : Cx} {T : List (Addr × Str)} {c Pt : Addr} {ad : Str → Addr} {nm F : Str} {fI : Addr} {fd : FuncData} {kk : Nat} {p1 p2 p3 p4 p5 p6 p7 p8 p9 p10 p11 p12 p13 p14 p15 p16 p17 p18 p19 : Pos}
theorem does1 (M : MX X T c Pt) (e : E1 X.prog X.w X.K X.mg X.base ad nm F fI fd) (hg : Gl X nm) (hdb : (nm == ("__debug__" : Str)) = false) (hl : (p2.endLine == p14.line) = true)
    (hb : attributeBase (.Name "found" p1) "append" X.env (eval (.Name "found" p1) X.env) = eval (.Name "found" p1) X.env) :
    Does X T ad (.Expr (.Call (.Attribute (.Name "found" p1) "append" p2) [.Tuple [.Call (.Name nm p3) [.Name "x" p4] [] p5, .Call (.Name nm p6) [] [⟨some F, .Name "x" p7, p8⟩] p9, .Lambda (lamP p10) (.List [.Attribute (.Name "e" p11) F p12] p16) lamS p17, .List [.Name "x" p18] p19] kk p13] [] p14) p15) ⟨nm, [F]⟩ := by
  refine ⟨_, ps_expr (pe_bm PySem.F.plainAttrs_list PySem.F.slot_list_append PySem.F.type_list_append mt_append (pe_var (i := 3) M.n3 M.v3) (pa_cons (pe_tup (pa_cons (pe_oex e.T e.iC e.tI e.ok M.room e.bd hg e.gC (pa_cons (pe_var (i := 0) M.n0 M.v0) pa_nil) hdb)
    (pa_cons (pe_oexK (ks := [F]) (g := fun l => l) e.T e.iC e.tI e.ok M.room e.bk (fun r => r) hg e.gC (pk_cons (pe_var (i := 0) M.n0 M.v0) pk_nil) rfl rfl hdb)
    (pa_cons (pe_lamV M.tb M.code M.mem M.un rfl (by decide) rfl) (pa_cons (pe_lst (pa_cons (pe_var (i := 0) M.n0 M.v0) pa_nil)) pa_nil))))) pa_nil) hb rfl hl), ?_⟩
  intro D σ H x y q zs s0 s1 s3 hq hz hT k
  refine ⟨_, s3, .inl ⟨rfl, _, SqL.of hq⟩, ?_⟩
  refine ⟨x, s0, (by show 1 ≤ 1000; decide), fun a ha => ⟨a, [x], rfl, rfl, upd_same, fun dx H1 hdx e1 e2 kp => ⟨rfl, ?_⟩⟩⟩
  have k1 : Same H H1 := fun b o e => kp b o (by rw [upd_ne (ne_of_none e ha)]; exact e) (ne_of_none e ha)
  refine ⟨x, s0, rfl, fun a2 ha2 => ⟨a2, [x], rfl, rfl, upd_same, fun dx2 H2 hdx2 f1 f2 kp2 => ⟨rfl, ?_⟩⟩⟩
  have k2 : Same H1 H2 := fun b o e => kp2 b o (by rw [upd_ne (ne_of_none e ha2)]; exact e) (ne_of_none e ha2)
  refine ⟨hT.ext (k1.trans k2), fun f c' H3 eN T3 hf e3 e4 => ?_⟩
  refine ⟨x, s0, by show 1 ≤ sizeLine; decide, fun d hd => ⟨by show 4 ≤ sizeLine; decide, fun u hu => ?_⟩⟩
  have k4 : Same H3 (upd H3 d (.lst [x])) := same_new hd
  have k5 := same_new (o := .tup [.ref a, .ref a2, .ref f, .ref d]) hu
  have eT : ExtN H (upd (upd H3 d (.lst [x])) u (.tup [.ref a, .ref a2, .ref f, .ref d])) := (((extN_same k1).trans (extN_same k2)).trans eN).trans (extN_same (k4.trans k5))
  have hq5 := eT _ _ hq (by intro ps z; cases z)
  have q3 : H3 q = some (.lst zs) := eN _ _ (k2 _ _ (k1 _ _ hq)) (by intro ps z; cases z)
  have ndq : d ≠ q := (ne_of_none q3 hd).symm
  have k45 := k4.trans k5
  refine ⟨q, zs, _, rfl, rfl, hq5, small1000 hz, k u d _ (fun b o e1 n nt => ?_) (tabs_upd (T3.ext k45) hq5) upd_same ndq ?_⟩
  · rw [upd_ne n]
    exact eT b o e1 nt
  · have g1 : ExAt H2 a (ad nm) [F] [x] := ExAt.keep ⟨some dx, e1, e2⟩ k2
    have g2 : ExAt H2 a2 (ad nm) [F] [x] := ⟨some dx2, f1, f2⟩
    have it : Item X.prog X.w X.K X.mg X.base ad (upd (upd H3 d (.lst [x])) u (.tup [.ref a, .ref a2, .ref f, .ref d])) ⟨nm, [F]⟩ x y u d :=
      ⟨a, a2, f, c', _, upd_same, (g1.keepN eN).keep k45, (g2.keepN eN).keep k45, k45 _ _ e3, k45 _ _ e4, lok1 e.xf e.no, k5 _ _ upd_same⟩
    exact it.keepB hq5 keepB_upd ndq
end
end K0
set_option maxHeartbeats 4000000
namespace K0
open PySem PySem.Spec PyProof.Rows L2 LamX NdefX
def veB : List Value := [.type "ValueError", .type "Exception", .type "BaseException", .type "object"]
theorem vals_rev {xs : List V} {us : List Value} (r : Vals xs us) : Vals xs.reverse us.reverse := by
  induction r with
  | nil => exact .nil
  | cons r _ ih =>
    rw [List.reverse_cons, List.reverse_cons]
    exact ih.append (.cons r .nil)
/-- an error class without fields -/
structure EZ (K : PySem.W.Frag) (mg : Str → Option Value) (ad : Str → Addr) (nm : Str) : Prop where
  gC : mg nm = some (.ref (ad nm))
  q : PySem.W.excIn K (ad nm) veB "ValueError.__new__" = true
  kC : PySem.W.keepIn K (.ref (ad nm)) = true
/-- one with two -/
structure E2 (P : Program) (w : World) (K : PySem.W.Frag) (mg : Str → Option Value) (base : Heap) (ad : Str → Addr) (nm F G : Str) (fI : Addr) (fd : FuncData) : Prop where
  gC : mg nm = some (.ref (ad nm))
  T : OexC K (ad nm)
  xf : XfC K (ad nm)
  no : PySem.W.findIn K (.ref (ad nm)) F = some none
  no2 : PySem.W.findIn K (.ref (ad nm)) G = some none
  iC : PySem.W.findIn K (.ref (ad nm)) "__init__" = some (some (.ref fI))
  tI : PySem.W.typeIn K (.ref fI) = some (.type "function")
  ok : FnOk P w K mg base CX0 1 fI fd ["self", F, G] (spInit (ad nm) [F, G])
  bd : L2.Binds K fd ["self", F, G] []
  bk : ∀ (s : Shared) (a : Addr) (ws : List Value), K.In s.heap → ws.length = ([G, F] : List Str).length → BindsTo s fd ⟨[.ref a], ([G, F] : List Str).zip ws⟩ ((["self", F, G] : List Str).zip (.ref a :: ws.reverse))
section
variable {X : Cx} {T : List (Addr × Str)} {c Pt : Addr} {ad : Str → Addr} {nm F G : Str} {fI : Addr} {fd : FuncData} {kk : Nat} {p1 p2 p3 p4 p5 p6 p7 p8 p9 p10 p11 p12 p13 p14 p15 p16 p17 p18 p19 p20 p21 p22 p23 p24 p25 : Pos}
theorem does0 (M : MX X T c Pt) (e : EZ X.K X.mg ad nm) (hg : Gl X nm) (hdb : (nm == ("__debug__" : Str)) = false) (hl : (p2.endLine == p14.line) = true)
    (hb : attributeBase (.Name "found" p1) "append" X.env (eval (.Name "found" p1) X.env) = eval (.Name "found" p1) X.env) :
    Does X T ad (.Expr (.Call (.Attribute (.Name "found" p1) "append" p2) [.Tuple [.Call (.Name nm p3) [] [] p5, .Call (.Name nm p6) [] [] p9, .Lambda (lamP p10) (.List [] p16) lamS p17, .List [] p19] kk p13] [] p14) p15) ⟨nm, []⟩ := by
  refine ⟨_, ps_expr (pe_bm PySem.F.plainAttrs_list PySem.F.slot_list_append PySem.F.type_list_append mt_append (pe_var (i := 3) M.n3 M.v3) (pa_cons (pe_tup (pa_cons (pe_oex0 PySem.F.excBase_ValueError e.q e.gC e.kC hg hdb)
    (pa_cons (pe_oex0 PySem.F.excBase_ValueError e.q e.gC e.kC hg hdb)
    (pa_cons (pe_lamV M.tb M.code M.mem M.un rfl (by decide) rfl) (pa_cons (pe_lst pa_nil) pa_nil))))) pa_nil) hb rfl hl), ?_⟩
  intro D σ H x y q zs s0 s1 s3 hq hz hT k
  refine ⟨_, s3, .inl ⟨rfl, _, SqL.of hq⟩, ?_⟩
  refine fun a ha => fun a2 ha2 => ?_
  have k1 : Same H (upd H a (exo a (ad nm) none)) := same_new ha
  have k2 : Same (upd H a (exo a (ad nm) none)) (upd (upd H a (exo a (ad nm) none)) a2 (exo a2 (ad nm) none)) := same_new ha2
  refine ⟨hT.ext (k1.trans k2), fun f c' H3 eN T3 hf e3 e4 => ?_⟩
  refine ⟨by show 0 ≤ sizeLine; decide, fun d hd => ⟨by show 4 ≤ sizeLine; decide, fun u hu => ?_⟩⟩
  have k4 : Same H3 (upd H3 d (.lst [])) := same_new hd
  have k5 := same_new (o := .tup [.ref a, .ref a2, .ref f, .ref d]) hu
  have eT : ExtN H (upd (upd H3 d (.lst [])) u (.tup [.ref a, .ref a2, .ref f, .ref d])) := (((extN_same k1).trans (extN_same k2)).trans eN).trans (extN_same (k4.trans k5))
  have hq5 := eT _ _ hq (by intro ps z; cases z)
  have q3 : H3 q = some (.lst zs) := eN _ _ (k2 _ _ (k1 _ _ hq)) (by intro ps z; cases z)
  have ndq : d ≠ q := (ne_of_none q3 hd).symm
  have k45 := k4.trans k5
  refine ⟨q, zs, _, rfl, rfl, hq5, small1000 hz, k u d _ (fun b o e1 n nt => ?_) (tabs_upd (T3.ext k45) hq5) upd_same ndq ?_⟩
  · rw [upd_ne n]
    exact eT b o e1 nt
  · have g1 : ExAt (upd (upd H a (exo a (ad nm) none)) a2 (exo a2 (ad nm) none)) a (ad nm) [] [] := ExAt.keep (H := upd H a (exo a (ad nm) none)) ⟨none, upd_same, rfl⟩ k2
    have g2 : ExAt (upd (upd H a (exo a (ad nm) none)) a2 (exo a2 (ad nm) none)) a2 (ad nm) [] [] := ⟨none, upd_same, rfl⟩
    have it : Item X.prog X.w X.K X.mg X.base ad (upd (upd H3 d (.lst [])) u (.tup [.ref a, .ref a2, .ref f, .ref d])) ⟨nm, []⟩ x y u d :=
      ⟨a, a2, f, c', _, upd_same, (g1.keepN eN).keep k45, (g2.keepN eN).keep k45, k45 _ _ e3, k45 _ _ e4, lok0, k5 _ _ upd_same⟩
    exact it.keepB hq5 keepB_upd ndq
theorem does2 (M : MX X T c Pt) (e : E2 X.prog X.w X.K X.mg X.base ad nm F G fI fd) (hg : Gl X nm) (hdb : (nm == ("__debug__" : Str)) = false) (hl : (p2.endLine == p14.line) = true) (hFG : G ≠ F)
    (hb : attributeBase (.Name "found" p1) "append" X.env (eval (.Name "found" p1) X.env) = eval (.Name "found" p1) X.env) :
    Does X T ad (.Expr (.Call (.Attribute (.Name "found" p1) "append" p2) [.Tuple [.Call (.Name nm p3) [.Name "x" p4, .Name "y" p20] [] p5, .Call (.Name nm p6) [] [⟨some G, .Name "y" p7, p8⟩, ⟨some F, .Name "x" p21, p22⟩] p9, .Lambda (lamP p10) (.List [.Attribute (.Name "e" p11) F p12, .Attribute (.Name "e" p23) G p24] p16) lamS p17, .List [.Name "x" p18, .Name "y" p25] p19] kk p13] [] p14) p15) ⟨nm, [F, G]⟩ := by
  refine ⟨_, ps_expr (pe_bm PySem.F.plainAttrs_list PySem.F.slot_list_append PySem.F.type_list_append mt_append (pe_var (i := 3) M.n3 M.v3) (pa_cons (pe_tup (pa_cons (pe_oex e.T e.iC e.tI e.ok M.room e.bd hg e.gC (pa_cons (pe_var (i := 0) M.n0 M.v0) (pa_cons (pe_var (i := 1) M.n1 M.v1) pa_nil)) hdb)
    (pa_cons (pe_oexK (ks := [G, F]) (g := fun l => l.reverse) e.T e.iC e.tI e.ok M.room e.bk (fun r => vals_rev r) hg e.gC (pk_cons (pe_var (i := 1) M.n1 M.v1) (pk_cons (pe_var (i := 0) M.n0 M.v0) pk_nil)) rfl rfl hdb)
    (pa_cons (pe_lamV M.tb M.code M.mem M.un rfl (by decide) rfl) (pa_cons (pe_lst (pa_cons (pe_var (i := 0) M.n0 M.v0) (pa_cons (pe_var (i := 1) M.n1 M.v1) pa_nil))) pa_nil))))) pa_nil) hb rfl hl), ?_⟩
  intro D σ H x y q zs s0 s1 s3 hq hz hT k
  refine ⟨_, s3, .inl ⟨rfl, _, SqL.of hq⟩, ?_⟩
  refine ⟨x, s0, y, s1, (by show 2 ≤ 1000; decide), fun a ha => ⟨a, [x, y], rfl, rfl, upd_same, fun dx H1 hdx e1 e2 kp => ⟨rfl, ?_⟩⟩⟩
  have k1 : Same H H1 := fun b o e => kp b o (by rw [upd_ne (ne_of_none e ha)]; exact e) (ne_of_none e ha)
  refine ⟨y, s1, x, s0, rfl, fun a2 ha2 => ⟨a2, [x, y], rfl, rfl, upd_same, fun dx2 H2 hdx2 f1 f2 kp2 => ⟨rfl, ?_⟩⟩⟩
  have k2 : Same H1 H2 := fun b o e => kp2 b o (by rw [upd_ne (ne_of_none e ha2)]; exact e) (ne_of_none e ha2)
  refine ⟨hT.ext (k1.trans k2), fun f c' H3 eN T3 hf e3 e4 => ?_⟩
  refine ⟨x, s0, y, s1, by show 2 ≤ sizeLine; decide, fun d hd => ⟨by show 4 ≤ sizeLine; decide, fun u hu => ?_⟩⟩
  have k4 : Same H3 (upd H3 d (.lst [x, y])) := same_new hd
  have k5 := same_new (o := .tup [.ref a, .ref a2, .ref f, .ref d]) hu
  have eT : ExtN H (upd (upd H3 d (.lst [x, y])) u (.tup [.ref a, .ref a2, .ref f, .ref d])) := (((extN_same k1).trans (extN_same k2)).trans eN).trans (extN_same (k4.trans k5))
  have hq5 := eT _ _ hq (by intro ps z; cases z)
  have q3 : H3 q = some (.lst zs) := eN _ _ (k2 _ _ (k1 _ _ hq)) (by intro ps z; cases z)
  have ndq : d ≠ q := (ne_of_none q3 hd).symm
  have k45 := k4.trans k5
  refine ⟨q, zs, _, rfl, rfl, hq5, small1000 hz, k u d _ (fun b o e1 n nt => ?_) (tabs_upd (T3.ext k45) hq5) upd_same ndq ?_⟩
  · rw [upd_ne n]
    exact eT b o e1 nt
  · have g1 : ExAt H2 a (ad nm) [F, G] [x, y] := ExAt.keep ⟨some dx, e1, e2⟩ k2
    have g2 : ExAt H2 a2 (ad nm) [F, G] [x, y] := ⟨some dx2, f1, f2⟩
    have it : Item X.prog X.w X.K X.mg X.base ad (upd (upd H3 d (.lst [x, y])) u (.tup [.ref a, .ref a2, .ref f, .ref d])) ⟨nm, [F, G]⟩ x y u d :=
      ⟨a, a2, f, c', _, upd_same, (g1.keepN eN).keep k45, (g2.keepN eN).keep k45, k45 _ _ e3, k45 _ _ e4, lok2 e.xf e.no e.no2 hFG, k5 _ _ upd_same⟩
    exact it.keepB hq5 keepB_upd ndq
end
/-! ### a maker's body -/
section
variable {X : Cx} {T : List (Addr × Str)} {c Pt : Addr} {ad : Str → Addr} {p1 p2 : Pos}
theorem run_block (M : MX X T c Pt) : ∀ (sts : List Stmt) (cs : List Cl), Paired (Does X T ad) sts cs → ∃ t : TS, PSs X (sts ++ [.Return (some (.Name "found" p1)) p2]) t ∧
    ∀ (D : Ends) (σ : L2.St) (H : Hp) (x y : V) (q : Addr) (c0 : List Cl) (tds : List (Addr × Addr)), σ[0]? = some (some x) → σ[1]? = some (some y) → σ[3]? = some (some (.ref q)) → H q = some (.lst (tds.map fun p => V.ref p.1)) → tds.length + sts.length ≤ 1000 → Tabs T H →
      (∀ p ∈ tds, p.2 ≠ q) → Items X.prog X.w X.K X.mg X.base ad H c0 tds x y →
      (∀ (td : List (Addr × Addr)) (H' : Hp), KeepB q H H' → Tabs T H' → H' q = some (.lst ((tds ++ td).map fun p => V.ref p.1)) → (∀ p ∈ tds ++ td, p.2 ≠ q) → Items X.prog X.w X.K X.mg X.base ad H' (c0 ++ cs) (tds ++ td) x y → D.rt (.ref q) H') → t D σ H
  | _, _, .nil => by
    refine ⟨_, pss_one (ps_ret (pe_var (i := 3) M.n3 M.v3)), ?_⟩
    intro D σ H x y q c0 tds s0 s1 s3 hq hz hT hd hI k
    refine ⟨_, s3, ?_⟩
    refine k [] H (fun b o e _ _ => e) hT ?_ ?_ ?_
    · rw [List.append_nil]
      exact hq
    · rw [List.append_nil]
      exact hd
    · rw [List.append_nil, List.append_nil]
      exact hI
  | st :: sts, cl :: cs, .cons r rs => by
    obtain ⟨t1, p1', h1⟩ := r
    obtain ⟨t2, p2', h2⟩ := run_block M sts cs rs
    refine ⟨_, pss_cons p1' p2', ?_⟩
    intro D σ H x y q c0 tds s0 s1 s3 hq hz hT hd hI k
    have hz' : tds.length + sts.length + 1 ≤ 1000 := by
      simp only [List.length_cons] at hz
      omega
    refine h1 _ σ H x y q _ s0 s1 s3 hq (by rw [List.length_map]; omega) hT fun u d H' kb T' hq' nd it => ?_
    have hI' : Items X.prog X.w X.K X.mg X.base ad H' (c0 ++ [cl]) (tds ++ [(u, d)]) x y := (hI.keepB hq kb hd).app (.cons it .nil)
    refine h2 D σ H' x y q (c0 ++ [cl]) (tds ++ [(u, d)]) s0 s1 s3 ?_ ?_ T' ?_ hI' fun td H2 kb2 T2 hq2 hd2 hI2 => ?_
    · rw [List.map_append]
      exact hq'
    · rw [List.length_append, List.length_singleton]
      omega
    · intro p hp
      rcases List.mem_append.mp hp with z | z
      · exact hd p z
      · rw [List.mem_singleton.mp z]
        exact nd
    · have e1 : tds ++ [(u, d)] ++ td = tds ++ ((u, d) :: td) := by simp
      have e2 : c0 ++ [cl] ++ cs = c0 ++ (cl :: cs) := by simp
      rw [e1] at hq2 hd2 hI2
      rw [e2] at hI2
      exact k ((u, d) :: td) H2 (fun b o e n nt => kb2 b o (kb b o e n nt) n nt) T2 hq2 hd2 hI2
end
/-- a maker's promise -/
def spMade (P : Program) (w : World) (K : PySem.W.Frag) (mg : Str → Option Value) (base : Heap) (ad : Str → Addr) (T : List (Addr × Str)) (cs : List Cl) : Sp := fun vs H Q _ => ∃ x y z : V, vs = [x, y, z] ∧ Tabs T H ∧
  ∀ (q : Addr) (tds : List (Addr × Addr)) (H' : Hp), H q = none → ExtN H H' → Tabs T H' → H' q = some (.lst (tds.map fun p => V.ref p.1)) → (∀ p ∈ tds, p.2 ≠ q) → Items P w K mg base ad H' cs tds x y → Q (.ref q) H'
section
variable {P : Program} {w : World} {K : PySem.W.Frag} {mg : Str → Option Value} {base : Heap} {ad : Str → Addr} {T : List (Addr × Str)}
theorem ok_made {nm qual : Str} {params : Arguments} {body : List Stmt} {scope : Scope} {dV kV doc pm ct oc : Value} {an od : Option Addr} {osl : Array (Option Value)} {f c Pt : Addr} {sts : List Stmt} {cs : List Cl} {p1 p2 p3 p4 p5 : Pos}
    (lk : K.lookup f = some ⟨oc, od, .func (PySem.W.fnOf nm qual params body scope dV kV doc pm an (.ref c) ct), osl⟩) (hcd : PySem.W.codeIn K (.ref c) qual = true) (S : FnScope ["x", "y", "z", "found"] ["x", "y", "z"] scope)
    (hx : Vis scope "x") (hy : Vis scope "y") (hf : Vis scope "found") (hfl : Loc scope "found") (hB : body = .Assign [.Name "found" p1] (.List [] p2) p3 :: (sts ++ [.Return (some (.Name "found" p4)) p5])) (hlen : sts.length ≤ 100)
    (TB : TabB base mg c Pt) (hm : (Pt, qual ++ ".<locals>." ++ "<lambda>") ∈ T) (hu : ∀ p ∈ T, p.1 = Pt → p.2 = qual ++ ".<locals>." ++ "<lambda>")
    (hD : ∀ (A : Around) (outer : List Env) (s : Shared) (H : Hp) (E : XK), MX (cxOf CX0 P w K mg base ["x", "y", "z", "found"] qual scope f (.ref c) A outer s H E) T c Pt → Paired (Does (cxOf CX0 P w K mg base ["x", "y", "z", "found"] qual scope f (.ref c) A outer s H E) T ad) sts cs) :
    FnOk P w K mg base CX0 3 f (PySem.W.fnOf nm qual params body scope dV kV doc pm an (.ref c) ct) ["x", "y", "z"] (spMade P w K mg base ad T cs) := by
  refine fn_of lk hcd S (fun vs H Q E h => ?_) (fun A outer s H vs Q E hr h => ?_)
  · obtain ⟨x, y, z, rfl, _⟩ := h
    rfl
  · obtain ⟨x, y, z, rfl, hT, k⟩ := h
    have M : MX (cxOf CX0 P w K mg base ["x", "y", "z", "found"] qual scope f (.ref c) A outer s H E) T c Pt := ⟨rfl, rfl, rfl, hx, hy, hf, TB, rfl, hm, hu, hr⟩
    obtain ⟨t, pt, rt⟩ := run_block (p1 := p4) (p2 := p5) M sts cs (hD A outer s H E M)
    rw [hB]
    refine ⟨_, pss_cons (ps_asg (pe_lst pa_nil) (pg_name (i := 3) S.nd rfl hfl)) pt, ?_⟩
    refine ⟨Nat.zero_le _, fun q hq => ?_⟩
    refine rt _ _ _ x y q [] [] rfl rfl rfl upd_same (by simp only [List.length_nil]; omega) (hT.ext (same_new hq)) (fun p hp => absurd hp List.not_mem_nil) .nil fun td H' kb T' hq' hd' hI => ?_
    rw [List.nil_append] at hq' hd' hI
    rw [List.nil_append] at hI
    refine k q td H' hq (fun b o e nt => kb b o (by rw [upd_ne (ne_of_none e hq)]; exact e) (ne_of_none e hq) nt) T' hq' hd' hI
end
end K0
set_option maxHeartbeats 4000000
namespace K0
open PySem PySem.Spec PyProof.Rows L2 LamX NdefX
/-! ### isinstance, class by class -/
/-- at m: an error of the class that is called n -/
structure IsE (K : PySem.W.Frag) (ad : Str → Addr) (H : Hp) (m : Addr) (n : Str) : Prop where
  at_ : ∃ d, H m = some (exo m (ad n) d) ∧ ∀ dx, d = some dx → ∃ fs, H dx = some (exd dx fs)
  ex : ExcC K (ad n)
theorem IsE.keepB {K : PySem.W.Frag} {ad : Str → Addr} {H H' : Hp} {m q : Addr} {n : Str} {zs : List V} (h : IsE K ad H m n) (hq : H q = some (.lst zs)) (k : ∀ b o, H b = some o → b ≠ q → H' b = some o) : IsE K ad H' m n := by
  obtain ⟨⟨d, e1, e2⟩, e3⟩ := h
  refine ⟨⟨d, k _ _ e1 (ne_of e1 hq exo_lst), fun dx z => ?_⟩, e3⟩
  obtain ⟨fs, e4⟩ := e2 dx z
  exact ⟨fs, k _ _ e4 (ne_of e4 hq exd_lst)⟩
theorem IsE.keep {K : PySem.W.Frag} {ad : Str → Addr} {H H' : Hp} {m : Addr} {n : Str} (h : IsE K ad H m n) (k : Same H H') : IsE K ad H' m n := by
  obtain ⟨⟨d, e1, e2⟩, e3⟩ := h
  refine ⟨⟨d, k _ _ e1, fun dx z => ?_⟩, e3⟩
  obtain ⟨fs, e4⟩ := e2 dx z
  exact ⟨fs, k _ _ e4⟩
theorem ExAt.isE {K : PySem.W.Frag} {ad : Str → Addr} {H : Hp} {m : Addr} {n : Str} {fl : List Str} {vs : List V} (h : ExAt H m (ad n) fl vs) (e : ExcC K (ad n)) : IsE K ad H m n := by
  obtain ⟨d, e1, e2⟩ := h
  refine ⟨⟨d, e1, fun dx z => ?_⟩, e⟩
  subst z
  exact ⟨_, e2⟩
/-- the classes' names that a list asks, and what each answers of n -/
def ans (n : Str) (js : List Str) : List V := js.map fun j => V.bl (decide (n = j))
/-- the context of such a def -/
structure KX (X : Cx) : Prop where
  n0 : X.N[0]? = some ("e" : Str)
  n1 : X.N[1]? = some ("found" : Str)
  v0 : Vis X.env.scope "e"
  v1 : Vis X.env.scope "found"
  gi : Gl X "isinstance"
  mi : X.mg "isinstance" = none
def DoesK (X : Cx) (ad : Str → Addr) (ok : Str → Str → Prop) (st : Stmt) (js : List Str) : Prop := ∃ t : TS, PS X st t ∧
  ∀ (D : Ends) (σ : L2.St) (H : Hp) (m q : Addr) (n : Str) (zs : List V), σ[0]? = some (some (.ref m)) → σ[1]? = some (some (.ref q)) → IsE X.K ad H m n → H q = some (.lst zs) → zs.length ≤ 1000 → (∀ j ∈ js, ok n j) →
    (∀ H' : Hp, (∀ b o, H b = some o → b ≠ q → H' b = some o) → H' q = some (.lst (zs ++ ans n js)) → D.nx σ H') → t D σ H
/-- what is asked of a pair of names -/
def Kit (K : PySem.W.Frag) (ad : Str → Addr) (n j : Str) : Prop := PySem.W.kitOne K (.ref (ad n)) (.ref (ad j)) = some (decide (n = j))
section
variable {X : Cx} {ad : Str → Addr} {a b : Str} {p1 p2 p3 p4 p5 p6 p7 p8 p9 p10 p11 p12 p13 : Pos}
theorem doesK2 (M : KX X) (ga : Gl X a) (gb : Gl X b) (ma : X.mg a = some (.ref (ad a))) (mb : X.mg b = some (.ref (ad b))) (da : (a == ("__debug__" : Str)) = false) (db : (b == ("__debug__" : Str)) = false) (hl : (p2.endLine == p12.line) = true)
    (hb : attributeBase (.Name "found" p1) "extend" X.env (eval (.Name "found" p1) X.env) = eval (.Name "found" p1) X.env) :
    DoesK X ad (Kit X.K ad) (.Expr (.Call (.Attribute (.Name "found" p1) "extend" p2) [.List [.Call (.Name "isinstance" p3) [.Name "e" p4, .Name a p5] [] p6, .Call (.Name "isinstance" p7) [.Name "e" p8, .Name b p9] [] p10] p11] [] p12) p13) [a, b] := by
  refine ⟨_, ps_expr (pe_bm PySem.F.plainAttrs_list PySem.F.slot_list_extend PySem.F.type_list_extend mt_extend (pe_var (i := 1) M.n1 M.v1) (pa_cons (pe_lst
    (pa_cons (pe_callB call_isX M.gi M.mi PyProof.Rows.boot_isinstance (pa_cons (pe_var (i := 0) M.n0 M.v0) (pa_cons (pe_glob (v := .ref (ad a)) ga ma rfl da) pa_nil)))
    (pa_cons (pe_callB call_isX M.gi M.mi PyProof.Rows.boot_isinstance (pa_cons (pe_var (i := 0) M.n0 M.v0) (pa_cons (pe_glob (v := .ref (ad b)) gb mb rfl db) pa_nil))) pa_nil))) pa_nil) hb rfl hl), ?_⟩
  intro D σ H m q n zs s0 s1 hE hq hz hk k
  obtain ⟨⟨d, e1, e2⟩, e3⟩ := hE
  refine ⟨_, s1, .inl ⟨rfl, _, SqL.of hq⟩, ?_⟩
  refine ⟨_, s0, m, _, d, _, .ref (ad a), _, rfl, e1, e2, e3, (fun u r => r), hk a (by simp), ?_⟩
  refine ⟨_, s0, m, _, d, _, .ref (ad b), _, rfl, e1, e2, e3, (fun u r => r), hk b (by simp), ?_⟩
  refine ⟨by show 2 ≤ sizeLine; decide, fun l hl0 => ?_⟩
  have nql : q ≠ l := ne_of_none hq hl0
  refine ⟨q, l, zs, _, rfl, rfl, by rw [upd_ne nql]; exact hq, upd_same, ?_, k _ (fun b o e n1 => ?_) upd_same⟩
  · show zs.length + 2 ≤ sizeLine
    rw [sizeLine_eq]
    omega
  · rw [upd_ne n1, upd_ne (ne_of_none e hl0)]
    exact e
theorem doesK1 (M : KX X) (ga : Gl X a) (ma : X.mg a = some (.ref (ad a))) (da : (a == ("__debug__" : Str)) = false) (hl : (p2.endLine == p12.line) = true)
    (hb : attributeBase (.Name "found" p1) "extend" X.env (eval (.Name "found" p1) X.env) = eval (.Name "found" p1) X.env) :
    DoesK X ad (Kit X.K ad) (.Expr (.Call (.Attribute (.Name "found" p1) "extend" p2) [.List [.Call (.Name "isinstance" p3) [.Name "e" p4, .Name a p5] [] p6] p11] [] p12) p13) [a] := by
  refine ⟨_, ps_expr (pe_bm PySem.F.plainAttrs_list PySem.F.slot_list_extend PySem.F.type_list_extend mt_extend (pe_var (i := 1) M.n1 M.v1) (pa_cons (pe_lst
    (pa_cons (pe_callB call_isX M.gi M.mi PyProof.Rows.boot_isinstance (pa_cons (pe_var (i := 0) M.n0 M.v0) (pa_cons (pe_glob (v := .ref (ad a)) ga ma rfl da) pa_nil))) pa_nil)) pa_nil) hb rfl hl), ?_⟩
  intro D σ H m q n zs s0 s1 hE hq hz hk k
  obtain ⟨⟨d, e1, e2⟩, e3⟩ := hE
  refine ⟨_, s1, .inl ⟨rfl, _, SqL.of hq⟩, ?_⟩
  refine ⟨_, s0, m, _, d, _, .ref (ad a), _, rfl, e1, e2, e3, (fun u r => r), hk a (by simp), ?_⟩
  refine ⟨by show 1 ≤ sizeLine; decide, fun l hl0 => ?_⟩
  have nql : q ≠ l := ne_of_none hq hl0
  refine ⟨q, l, zs, _, rfl, rfl, by rw [upd_ne nql]; exact hq, upd_same, ?_, k _ (fun b o e n1 => ?_) upd_same⟩
  · show zs.length + 1 ≤ sizeLine
    rw [sizeLine_eq]
    omega
  · rw [upd_ne n1, upd_ne (ne_of_none e hl0)]
    exact e
theorem run_blockK (M : KX X) : ∀ (sts : List Stmt) (jss : List (List Str)), Paired (DoesK X ad (Kit X.K ad)) sts jss → ∃ t : TS, PSs X (sts ++ [.Return (some (.Name "found" p1)) p2]) t ∧
    ∀ (D : Ends) (σ : L2.St) (H : Hp) (m q : Addr) (n : Str) (zs : List V), σ[0]? = some (some (.ref m)) → σ[1]? = some (some (.ref q)) → IsE X.K ad H m n → H q = some (.lst zs) → zs.length + jss.flatten.length ≤ 1000 → (∀ j ∈ jss.flatten, Kit X.K ad n j) →
      (∀ H' : Hp, (∀ b o, H b = some o → b ≠ q → H' b = some o) → H' q = some (.lst (zs ++ ans n jss.flatten)) → D.rt (.ref q) H') → t D σ H
  | _, _, .nil => by
    refine ⟨_, pss_one (ps_ret (pe_var (i := 1) M.n1 M.v1)), ?_⟩
    intro D σ H m q n zs s0 s1 hE hq hz hk k
    refine ⟨_, s1, k H (fun b o e _ => e) ?_⟩
    show H q = some (.lst (zs ++ []))
    rw [List.append_nil]
    exact hq
  | st :: sts, js :: jss, .cons r rs => by
    obtain ⟨t1, p1', h1⟩ := r
    obtain ⟨t2, p2', h2⟩ := run_blockK M sts jss rs
    refine ⟨_, pss_cons p1' p2', ?_⟩
    intro D σ H m q n zs s0 s1 hE hq hz hk k
    have hz' : zs.length + (js.length + jss.flatten.length) ≤ 1000 := by
      rw [List.flatten_cons, List.length_append] at hz
      exact hz
    refine h1 _ σ H m q n zs s0 s1 hE hq (by omega) (fun j hj => hk j (by rw [List.flatten_cons]; exact List.mem_append_left _ hj)) fun H' kb hq' => ?_
    refine h2 D σ H' m q n _ s0 s1 (hE.keepB hq kb) hq' ?_ (fun j hj => hk j (by rw [List.flatten_cons]; exact List.mem_append_right _ hj)) fun H2 kb2 hq2 => ?_
    · rw [List.length_append]
      unfold ans
      rw [List.length_map]
      omega
    · refine k H2 (fun b o e nb => kb2 b o (kb b o e nb) nb) ?_
      rw [hq2, List.append_assoc]
      unfold ans
      rw [List.flatten_cons, List.map_append]
end
/-- what such a def promises -/
def spKinds (K : PySem.W.Frag) (ad : Str → Addr) (js : List Str) : Sp := fun vs H Q _ => ∃ (m : Addr) (n : Str), vs = [.ref m] ∧ IsE K ad H m n ∧ (∀ j ∈ js, Kit K ad n j) ∧ ∀ q H', H q = none → Same H H' → H' q = some (.lst (ans n js)) → Q (.ref q) H'
section
variable {P : Program} {w : World} {K : PySem.W.Frag} {mg : Str → Option Value} {base : Heap} {ad : Str → Addr}
theorem ok_kinds {nm qual : Str} {st : Stmt} {f : Addr} {fd : FuncData} {sts : List Stmt} {jss : List (List Str)} {p1 p2 p3 p4 p5 : Pos} (F : Fun K nm qual st f fd) (S : FnScope ["e", "found"] ["e"] (defScope st)) (hx : Vis (defScope st) "e") (hf : Vis (defScope st) "found") (hfl : Loc (defScope st) "found")
    (hi : (defScope st).names.lookup ("isinstance" : Str) = some .globalImplicit) (B : Bl mg) (hB : defBody st = .Assign [.Name "found" p1] (.List [] p2) p3 :: (sts ++ [.Return (some (.Name "found" p4)) p5])) (hlen : jss.flatten.length ≤ 100)
    (hD : ∀ (cdv : Value) (A : Around) (outer : List Env) (s : Shared) (H : Hp) (E : XK), KX (cxOf CX0 P w K mg base ["e", "found"] qual (defScope st) f cdv A outer s H E).nox → Paired (DoesK (cxOf CX0 P w K mg base ["e", "found"] qual (defScope st) f cdv A outer s H E).nox ad (Kit K ad)) sts jss) :
    FnOk P w K mg base CX0 1 f fd ["e"] (spKinds K ad jss.flatten) := by
  refine F.ok S (fun vs H Q E h => ?_) (fun cdv A outer s H vs Q E hr h => ?_)
  · obtain ⟨m, n, rfl, _⟩ := h
    rfl
  · obtain ⟨m, n, rfl, hE, hk, k⟩ := h
    have M : KX (cxOf CX0 P w K mg base ["e", "found"] qual (defScope st) f cdv A outer s H E).nox := ⟨rfl, rfl, hx, hf, hi, B.isinstance⟩
    obtain ⟨t, pt, rt⟩ := run_blockK (p1 := p4) (p2 := p5) M sts jss (hD cdv A outer s H E M)
    rw [hB]
    refine ⟨_, pss_cons (ps_asg (pe_lst pa_nil) (pg_name (i := 1) S.nd rfl hfl)) pt, ?_⟩
    refine ⟨Nat.zero_le _, fun q hq => ?_⟩
    refine rt _ _ _ m q n [] rfl rfl (hE.keep (same_new hq)) upd_same (by simp only [List.length_nil]; omega) hk fun H' kb hq' => ?_
    exact k q H' hq (fun b o e => kb b o (by rw [upd_ne (ne_of_none e hq)]; exact e) (ne_of_none e hq)) hq'
end
end K0
set_option maxHeartbeats 4000000
namespace K0
open PySem PySem.Spec PyProof.Rows L2 LamX NdefX
/-- one of the five parts -/
structure KPart (P : Program) (w : World) (K : PySem.W.Frag) (mg : Str → Option Value) (base : Heap) (ad : Str → Addr) (nm : Str) (f : Addr) (fd : FuncData) (js : List Str) : Prop where
  ok : FnOk P w K mg base CX0 1 f fd ["e"] (spKinds K ad js)
  g : mg nm = some (.ref f)
  kp : PySem.W.keepIn K (.ref f) = true
  bd : L2.Binds K fd ["e"] []
theorem scKinds : FnScope ["e"] ["e"] (defScope sKinds) := ⟨rfl, rfl, rfl, by decide +kernel, rfl, by decide +kernel, by decide +kernel⟩
section
variable {P : Program} {w : World} {K : PySem.W.Frag} {mg : Str → Option Value} {base : Heap} {ad : Str → Addr}
theorem ok_kindsAll {f fA fB fC fD fE : Addr} {fd dA dB dC dD dE : FuncData} {jA jB jC jD jE : List Str} (F : Fun K "_law_kinds" "_law_kinds" sKinds f fd)
    (A : KPart P w K mg base ad "_law_kinds_a" fA dA jA) (B : KPart P w K mg base ad "_law_kinds_b" fB dB jB) (C : KPart P w K mg base ad "_law_kinds_c" fC dC jC) (D : KPart P w K mg base ad "_law_kinds_d" fD dD jD) (G : KPart P w K mg base ad "_law_kinds_e" fE dE jE)
    (hl : jA.length + jB.length + jC.length + jD.length + jE.length ≤ 100) : FnOk P w K mg base CX0 2 f fd ["e"] (spKinds K ad (jA ++ jB ++ jC ++ jD ++ jE)) := by
  have la : ∀ (n : Str) (js : List Str), (ans n js).length = js.length := fun n js => by unfold ans; rw [List.length_map]
  refine F.ok scKinds (fun vs H Q E h => ?_) (fun cdv Ar outer s H vs Q E hr h => ?_)
  · obtain ⟨m, n, rfl, _⟩ := h
    rfl
  · obtain ⟨m, n, rfl, hE, hk, k⟩ := h
    refine ⟨_, pss_one (ps_ret (pe_op op_cat (pe_op op_cat (pe_op op_cat (pe_op op_cat (pe_call A.ok hr (by rfl) A.g A.kp A.bd .nil pass0 (pa_cons (pv 0) pa_nil)) (pe_call B.ok hr (by rfl) B.g B.kp B.bd .nil pass0 (pa_cons (pv 0) pa_nil)))
      (pe_call C.ok hr (by rfl) C.g C.kp C.bd .nil pass0 (pa_cons (pv 0) pa_nil))) (pe_call D.ok hr (by rfl) D.g D.kp D.bd .nil pass0 (pa_cons (pv 0) pa_nil))) (pe_call G.ok hr (by rfl) G.g G.kp G.bd .nil pass0 (pa_cons (pv 0) pa_nil)))), ?_⟩
    refine ⟨_, rfl, m, n, rfl, hE, fun j hj => hk j (by simp [hj]), fun qa Ha na ka ea => ?_⟩
    have hEa := hE.keep ka
    refine ⟨_, rfl, m, n, rfl, hEa, fun j hj => hk j (by simp [hj]), fun qb Hb nb kb eb => ?_⟩
    have kab := ka.trans kb
    refine ⟨qa, qb, _, _, rfl, rfl, kb _ _ ea, eb, by rw [la, la, sizeLine_eq]; omega, fun p1 n1 => ?_⟩
    have k1 := kab.trans (same_new (o := .lst (ans n jA ++ ans n jB)) n1)
    refine ⟨_, rfl, m, n, rfl, hE.keep k1, fun j hj => hk j (by simp [hj]), fun qc Hc nc kc ec => ?_⟩
    refine ⟨p1, qc, _, _, rfl, rfl, kc _ _ upd_same, ec, by rw [List.length_append, la, la, la, sizeLine_eq]; omega, fun p2 n2 => ?_⟩
    have k2 := (k1.trans kc).trans (same_new (o := .lst (ans n jA ++ ans n jB ++ ans n jC)) n2)
    refine ⟨_, rfl, m, n, rfl, hE.keep k2, fun j hj => hk j (by simp [hj]), fun qd Hd nd kd ed => ?_⟩
    refine ⟨p2, qd, _, _, rfl, rfl, kd _ _ upd_same, ed, by rw [List.length_append, List.length_append, la, la, la, la, sizeLine_eq]; omega, fun p3 n3 => ?_⟩
    have k3 := (k2.trans kd).trans (same_new (o := .lst (ans n jA ++ ans n jB ++ ans n jC ++ ans n jD)) n3)
    refine ⟨_, rfl, m, n, rfl, hE.keep k3, fun j hj => hk j (by simp [hj]), fun qe He ne ke ee => ?_⟩
    refine ⟨p3, qe, _, _, rfl, rfl, ke _ _ upd_same, ee, by rw [List.length_append, List.length_append, List.length_append, la, la, la, la, la, sizeLine_eq]; omega, fun p4 n4 => ?_⟩
    have k4 := k3.trans ke
    have z : ans n (jA ++ jB ++ jC ++ jD ++ jE) = ans n jA ++ ans n jB ++ ans n jC ++ ans n jD ++ ans n jE := by simp [ans]
    refine k p4 _ ?_ (k4.trans (same_new n4)) (by rw [z]; exact upd_same)
    cases e : H p4 with
    | none => rfl
    | some o => rw [k4 _ _ e] at n4; cases n4
end
/-! ### is it its own, and no other -/
def nsA : List Str := ["BadAnswers", "BadBase", "BadBegun", "BadChance", "BadChoice", "BadCopies", "BadCounts", "BadCourse", "BadDeed", "BadDoor", "BadDoors", "BadDue", "BadForm", "BadImages", "BadIns", "BadLetters", "BadLoops", "BadMany"]
def nsB : List Str := ["BadModuli", "BadNetRow", "BadNetRows", "BadNets", "BadNumber", "BadOrder", "BadOuts", "BadParting", "BadPeriod", "BadPicks", "BadPiece", "BadPieces", "BadPlaces", "BadPlan", "BadQuestion", "BadRight", "BadRoads", "BadSenses"]
def nsC : List Str := ["BadSheet", "BadSides", "BadSigns", "BadSteps", "BadText", "BadThrow", "BadTimes", "BadTurn", "BadTurns", "BadView", "BadViews", "BadWalk", "BadWalker", "BadWords", "BadWritten", "CanBeDone", "InUse", "IsSure"]
def nsD : List Str := ["IsWatched", "LastPlace", "NoCount", "NoFit", "NoGate", "NoGroup", "NoMove", "NoNet", "NoPlace", "NoRoad", "NoState", "NoWord", "NotEven", "NotJoined", "NotOver", "NotStrong", "NotTwoWay", "NotWatched"]
def nsE : List Str := ["NotWhole", "OpenView", "SameDue", "TakenName", "ToldApart", "UnlikeGates", "WouldChange"]
def NS : List Str := nsA ++ nsB ++ nsC ++ nsD ++ nsE
theorem ns_len : NS.length = 79 := by decide +kernel
theorem ns_nodup : NS.Nodup := by decide +kernel
/-- what holds of each of the errors by its class's name -/
structure Own (K : PySem.W.Frag) (ad : Str → Addr) (n : Str) : Prop where
  kit : ∀ j ∈ NS, Kit K ad n j
  net : PySem.W.kitOne K (.ref (ad n)) (.ref (ad "NetError")) = some true
  ve : PySem.W.kitOne K (.ref (ad n)) (.type "ValueError") = some true
  le : PySem.W.kitOne K (.ref (ad n)) (.type "LookupError") = some false
def spOwn (K : PySem.W.Frag) (ad : Str → Addr) : Sp := fun vs H Q _ => ∃ (m : Addr) (n : Str) (at_ : Nat), vs = [.ref m, .int at_] ∧ NS[at_]? = some n ∧ IsE K ad H m n ∧ Own K ad n ∧ ∀ H', Same H H' → Q (.bl true) H'
theorem scOwn : FnScope ["e", "at", "k"] ["e", "at"] (defScope sOwn) := ⟨rfl, rfl, rfl, by decide +kernel, rfl, by decide +kernel, by decide +kernel⟩
def bools (n : Str) : List Bool := NS.map fun j => decide (n = j)
theorem bools_at {n : Str} {i : Nat} (h : NS[i]? = some n) : bools n = (List.range 79).map fun (k : Nat) => decide ((k : Int) = (i : Int)) := by
  refine List.ext_getElem? fun k => ?_
  unfold bools
  rw [List.getElem?_map, List.getElem?_map]
  by_cases hk : k < 79
  · have hk' : k < NS.length := by rw [ns_len]; exact hk
    rw [List.getElem?_range hk, List.getElem?_eq_getElem hk']
    show some _ = some _
    congr 1
    obtain ⟨hi, ei⟩ := List.getElem?_eq_some_iff.mp h
    rw [← ei]
    have e : NS[i] = NS[k] ↔ i = k := by
      constructor
      · intro z
        exact (List.getElem_inj ns_nodup).mp z
      · intro z
        subst z
        rfl
    rw [decide_eq_decide, e]
    omega
  · rw [List.getElem?_eq_none (by rw [ns_len]; omega), List.getElem?_eq_none (by rw [List.length_range]; omega)]
    rfl
theorem dp_bools {K : PySem.W.Frag} {H : Hp} : ∀ bs : List Bool, DpAll K H (bs.map V.bl) (bs.map PyData.bool)
  | [] => .nil
  | b :: bs => .cons (.bl b) (dp_bools bs)
theorem eqv_bools : ∀ bs : List Bool, PyData.eqvAll (bs.map PyData.bool) (bs.map PyData.bool) = true
  | [] => by simp [PyData.eqvAll]
  | b :: bs => by simp [PyData.eqvAll, PyData.eqv, eqv_bools bs]
theorem can_bools : ∀ bs : List Bool, PyData.canLayAll0 (bs.map PyData.bool) = true
  | [] => by simp [PyData.canLayAll0]
  | b :: bs => by simp [PyData.canLayAll0, PyData.canLay0, can_bools bs]
theorem depth_bools : ∀ bs : List Bool, PyData.depthAll (bs.map PyData.bool) ≤ 2
  | [] => Nat.zero_le _
  | b :: bs => by
    have h := depth_bools bs
    rw [List.map_cons]
    show max (PyData.depth (.bool b)) (PyData.depthAll (bs.map PyData.bool)) ≤ 2
    exact Nat.max_le.mpr ⟨Nat.zero_le _, h⟩
theorem shaped_bools (bs : List Bool) : SeqAt.shaped (.list (bs.map PyData.bool)) = true := by
  have h1 := can_bools bs
  have h2 := depth_bools bs
  refine Bool.and_eq_true_iff.mpr ⟨h1, decide_eq_true ?_⟩
  show PyData.depthAll (bs.map PyData.bool) + 1 ≤ 64
  omega
section
variable {P : Program} {w : World} {K : PySem.W.Frag} {mg : Str → Option Value} {base : Heap} {ad : Str → Addr}
theorem ok_own {f fk : Addr} {fd dk : FuncData} (F : Fun K "_law_is_own" "_law_is_own" sOwn f fd) (hk : FnOk P w K mg base CX0 2 fk dk ["e"] (spKinds K ad NS)) (gk : mg "_law_kinds" = some (.ref fk)) (kk : PySem.W.keepIn K (.ref fk) = true) (bk : L2.Binds K dk ["e"] [])
    (gN : mg "NetError" = some (.ref (ad "NetError"))) (B : Bl mg) : FnOk P w K mg base CX0 3 f fd ["e", "at"] (spOwn K ad) := by
  refine F.ok scOwn (fun vs H Q E h => ?_) (fun cdv A outer s H vs Q E hr h => ?_)
  · obtain ⟨m, n, i, rfl, _⟩ := h
    rfl
  · obtain ⟨m, n, i, rfl, hi, hE, O, k⟩ := h
    refine ⟨_, pss_cons (ps_if (PW.pt (pw_or (pt_not (pt_val (pe_callB call_isX (by rfl) B.isinstance PyProof.Rows.boot_isinstance (pa_cons (pv 0) (pa_cons (pe_glob (v := .ref (ad "NetError")) (by rfl) gN rfl) pa_nil)))))
        (pw_or (pt_not (pt_val (pe_callB call_isX (by rfl) B.isinstance PyProof.Rows.boot_isinstance (pa_cons (pv 0) (pa_cons (pe_bltn (v := .ty "ValueError") (u := .type "ValueError") (by rfl) B.ve (by decide +kernel) rfl) pa_nil)))))
        (pw_or1 (pt_val (pe_callB call_isX (by rfl) B.isinstance PyProof.Rows.boot_isinstance (pa_cons (pv 0) (pa_cons (pe_bltn (v := .ty "LookupError") (u := .type "LookupError") (by rfl) B.le (by decide +kernel) rfl) pa_nil)))))))) (pss_one (ps_ret pe_bl)) pss_nil)
      (pss_one (ps_ret (pe_cmpR (op_eqD hr.units) (pe_call hk hr (by rfl) gk kk bk .nil pass0 (pa_cons (pv 0) pa_nil))
        (pe_lc (own := [("k", 2)]) (g := gName 2) (tt := tYes) (te := tOp rEq (tVar 2) (tVar 1)) rfl scOwn.nd (pi_range1 (by rfl) B.range (pa_cons pe_int pa_nil))
          (blkOk_by (own := [("k", 2)]) (N := ["e", "at", "k"]) (sc := defScope sOwn) (by decide +kernel)) (fun _ _ _ _ _ => pg_name (i := 2) scOwn.nd rfl (Or.inl rfl)) (fun _ _ _ _ _ => pts_nil)
          (fun _ _ _ _ _ => pe_cmpR op_eq (pv 2) (pv 1) (nomark _))) (by rfl)))), ?_⟩
    obtain ⟨⟨d, e1, e2⟩, e3⟩ := hE
    refine ⟨_, rfl, m, _, d, .ref (ad "NetError"), _, true, rfl, e1, e2, e3, (fun u r => r), O.net, true, rfl, ?_⟩
    refine ⟨_, rfl, m, _, d, .ty "ValueError", _, true, rfl, e1, e2, e3, (fun u r => r), O.ve, true, rfl, ?_⟩
    refine ⟨_, rfl, m, _, d, .ty "LookupError", _, false, rfl, e1, e2, e3, (fun u r => r), O.le, false, rfl, ?_⟩
    refine ⟨_, rfl, m, n, rfl, ⟨⟨d, e1, e2⟩, e3⟩, O.kit, fun q H1 nq k1 eq => ?_⟩
    refine ⟨79, rfl, by omega, by omega, fun D hD => ?_⟩
    have nqD : q ≠ D := ne_of_none eq hD
    refine lc_range (lo := 0) (n := 79) (fun j H2 => Same H1 H2 ∧ H2 D = some (.lst (((List.range j).map fun (k : Nat) => decide ((k : Int) = (i : Int))).map V.bl))) ?_ ?_ ?_
    · exact ⟨same_new hD, upd_same⟩
    · rintro j H2 hj ⟨k2, eD⟩
      refine ⟨rfl, ?_⟩
      refine yes_t ?_
      refine ⟨_, rfl, _, rfl, rfl, _, eD, by rw [List.length_map, List.length_map, List.length_range, sizeLine_eq]; omega, fun b o e => ?_, ?_⟩
      · rw [upd_ne (ne_of_none e hD)]
        exact k2 b o e
      · rw [upd_same, List.range_succ, List.map_append, List.map_append, dec_int]
        simp
        rw [Bool.eq_iff_iff]
        simp
    · rintro H2 ⟨k2, eD⟩
      rw [← bools_at hi] at eD
      have eq' : H2 q = some (.lst ((bools n).map V.bl)) := by
        rw [k2 _ _ eq]
        simp [ans, bools]
      refine ⟨.list ((bools n).map PyData.bool), .list ((bools n).map PyData.bool), .lst (SqL.of eq') (dp_bools _), .lst (SqL.of eD) (dp_bools _), shaped_bools _, shaped_bools _, ?_⟩
      rw [PyData.eqv, eqv_bools]
      exact k H2 (k1.trans k2)
end
end K0
set_option maxHeartbeats 4000000
namespace K0
open PySem PySem.Spec PyProof.Rows L2 LamX NdefX
/-! ### the law's classes, in their order -/
def clA : List Cl := [⟨"BadAnswers", ["index"]⟩, ⟨"BadBase", ["thing"]⟩, ⟨"BadBegun", ["index"]⟩, ⟨"BadChance", ["thing"]⟩, ⟨"BadChoice", ["thing"]⟩, ⟨"BadCopies", ["index"]⟩, ⟨"BadCounts", ["index"]⟩, ⟨"BadCourse", ["index"]⟩, ⟨"BadDeed", ["thing"]⟩, ⟨"BadDoor", ["thing"]⟩, ⟨"BadDoors", ["index"]⟩, ⟨"BadDue", ["thing"]⟩, ⟨"BadForm", ["index"]⟩, ⟨"BadImages", ["index"]⟩, ⟨"BadIns", ["index"]⟩, ⟨"BadLetters", ["index"]⟩, ⟨"BadLoops", ["thing"]⟩, ⟨"BadMany", ["thing"]⟩]
def clB : List Cl := [⟨"BadModuli", ["index"]⟩, ⟨"BadNetRow", ["index"]⟩, ⟨"BadNetRows", ["index"]⟩, ⟨"BadNets", ["index"]⟩, ⟨"BadNumber", ["thing"]⟩, ⟨"BadOrder", ["index"]⟩, ⟨"BadOuts", ["index"]⟩, ⟨"BadParting", ["index"]⟩, ⟨"BadPeriod", ["thing"]⟩, ⟨"BadPicks", ["index"]⟩, ⟨"BadPiece", ["thing"]⟩, ⟨"BadPieces", ["index"]⟩, ⟨"BadPlaces", ["index"]⟩, ⟨"BadPlan", ["thing"]⟩, ⟨"BadQuestion", ["thing"]⟩, ⟨"BadRight", ["thing"]⟩, ⟨"BadRoads", ["index"]⟩, ⟨"BadSenses", ["index"]⟩]
def clC : List Cl := [⟨"BadSheet", ["index"]⟩, ⟨"BadSides", ["thing"]⟩, ⟨"BadSigns", ["index"]⟩, ⟨"BadSteps", ["index"]⟩, ⟨"BadText", ["line"]⟩, ⟨"BadThrow", ["index"]⟩, ⟨"BadTimes", ["thing"]⟩, ⟨"BadTurn", ["thing"]⟩, ⟨"BadTurns", ["index"]⟩, ⟨"BadView", ["thing"]⟩, ⟨"BadViews", ["index"]⟩, ⟨"BadWalk", ["index"]⟩, ⟨"BadWalker", ["thing"]⟩, ⟨"BadWords", ["index"]⟩, ⟨"BadWritten", ["thing"]⟩, ⟨"CanBeDone", []⟩, ⟨"InUse", ["question"]⟩, ⟨"IsSure", []⟩]
def clD : List Cl := [⟨"IsWatched", ["thing"]⟩, ⟨"LastPlace", []⟩, ⟨"NoCount", ["thing"]⟩, ⟨"NoFit", ["many"]⟩, ⟨"NoGate", ["thing"]⟩, ⟨"NoGroup", ["thing"]⟩, ⟨"NoMove", ["thing"]⟩, ⟨"NoNet", ["name"]⟩, ⟨"NoPlace", ["thing"]⟩, ⟨"NoRoad", ["road"]⟩, ⟨"NoState", ["thing"]⟩, ⟨"NoWord", ["thing"]⟩, ⟨"NotEven", ["one", "other"]⟩, ⟨"NotJoined", ["thing"]⟩, ⟨"NotOver", []⟩, ⟨"NotStrong", ["thing"]⟩, ⟨"NotTwoWay", ["thing"]⟩, ⟨"NotWatched", ["thing"]⟩]
def clE : List Cl := [⟨"NotWhole", []⟩, ⟨"OpenView", ["thing"]⟩, ⟨"SameDue", ["thing"]⟩, ⟨"TakenName", ["name"]⟩, ⟨"ToldApart", []⟩, ⟨"UnlikeGates", []⟩, ⟨"WouldChange", ["question"]⟩]
def CL : List Cl := clA ++ clB ++ clC ++ clD ++ clE
theorem cl_names : CL.map (·.nm) = NS := by decide +kernel
/-- what is known of a class -/
def CF (P : Program) (w : World) (K : PySem.W.Frag) (mg : Str → Option Value) (base : Heap) (ad : Str → Addr) (c : Cl) : Prop := match c.fl with
  | [] => EZ K mg ad c.nm
  | [F] => ∃ (fI : Addr) (fd : FuncData), E1 P w K mg base ad c.nm F fI fd
  | [F, G] => ∃ (fI : Addr) (fd : FuncData), E2 P w K mg base ad c.nm F G fI fd
  | _ => False
abbrev sMadeA : Stmt := top 85
abbrev sKindsA : Stmt := top 90
def stsA : List Stmt := ((defBody sMadeA).drop 1).dropLast
def stkA : List Stmt := ((defBody sKindsA).drop 1).dropLast
abbrev sMadeB : Stmt := top 86
abbrev sKindsB : Stmt := top 91
def stsB : List Stmt := ((defBody sMadeB).drop 1).dropLast
def stkB : List Stmt := ((defBody sKindsB).drop 1).dropLast
abbrev sMadeC : Stmt := top 87
abbrev sKindsC : Stmt := top 92
def stsC : List Stmt := ((defBody sMadeC).drop 1).dropLast
def stkC : List Stmt := ((defBody sKindsC).drop 1).dropLast
abbrev sMadeD : Stmt := top 88
abbrev sKindsD : Stmt := top 93
def stsD : List Stmt := ((defBody sMadeD).drop 1).dropLast
def stkD : List Stmt := ((defBody sKindsD).drop 1).dropLast
abbrev sMadeE : Stmt := top 89
abbrev sKindsE : Stmt := top 94
def stsE : List Stmt := ((defBody sMadeE).drop 1).dropLast
def stkE : List Stmt := ((defBody sKindsE).drop 1).dropLast
section
variable {P : Program} {w : World} {K : PySem.W.Frag} {mg : Str → Option Value} {base : Heap} {ad : Str → Addr} {T : List (Addr × Str)} {f c Pt : Addr} {cdv : Value} {A : Around} {outer : List Env} {s : Shared} {H : Hp} {E : XK}
theorem does_a (M : MX (cxOf CX0 P w K mg base ["x", "y", "z", "found"] "_law_made_a" (defScope sMadeA) f (.ref c) A outer s H E) T c Pt) (F : ∀ c ∈ clA, CF P w K mg base ad c) : Paired (Does (cxOf CX0 P w K mg base ["x", "y", "z", "found"] "_law_made_a" (defScope sMadeA) f (.ref c) A outer s H E) T ad) stsA clA := by
  obtain ⟨fI0, fd0, h0⟩ := show ∃ (fI : Addr) (fd : FuncData), E1 P w K mg base ad "BadAnswers" "index" fI fd from F ⟨"BadAnswers", ["index"]⟩ List.mem_cons_self
  refine .cons (does1 M h0 (by rfl) rfl (by rfl) (by rfl)) ?_
  obtain ⟨fI1, fd1, h1⟩ := show ∃ (fI : Addr) (fd : FuncData), E1 P w K mg base ad "BadBase" "thing" fI fd from F ⟨"BadBase", ["thing"]⟩ (List.mem_cons_of_mem _ List.mem_cons_self)
  refine .cons (does1 M h1 (by rfl) rfl (by rfl) (by rfl)) ?_
  obtain ⟨fI2, fd2, h2⟩ := show ∃ (fI : Addr) (fd : FuncData), E1 P w K mg base ad "BadBegun" "index" fI fd from F ⟨"BadBegun", ["index"]⟩ (List.mem_cons_of_mem _ (List.mem_cons_of_mem _ List.mem_cons_self))
  refine .cons (does1 M h2 (by rfl) rfl (by rfl) (by rfl)) ?_
  obtain ⟨fI3, fd3, h3⟩ := show ∃ (fI : Addr) (fd : FuncData), E1 P w K mg base ad "BadChance" "thing" fI fd from F ⟨"BadChance", ["thing"]⟩ (List.mem_cons_of_mem _ (List.mem_cons_of_mem _ (List.mem_cons_of_mem _ List.mem_cons_self)))
  refine .cons (does1 M h3 (by rfl) rfl (by rfl) (by rfl)) ?_
  obtain ⟨fI4, fd4, h4⟩ := show ∃ (fI : Addr) (fd : FuncData), E1 P w K mg base ad "BadChoice" "thing" fI fd from F ⟨"BadChoice", ["thing"]⟩ (List.mem_cons_of_mem _ (List.mem_cons_of_mem _ (List.mem_cons_of_mem _ (List.mem_cons_of_mem _ List.mem_cons_self))))
  refine .cons (does1 M h4 (by rfl) rfl (by rfl) (by rfl)) ?_
  obtain ⟨fI5, fd5, h5⟩ := show ∃ (fI : Addr) (fd : FuncData), E1 P w K mg base ad "BadCopies" "index" fI fd from F ⟨"BadCopies", ["index"]⟩ (List.mem_cons_of_mem _ (List.mem_cons_of_mem _ (List.mem_cons_of_mem _ (List.mem_cons_of_mem _ (List.mem_cons_of_mem _ List.mem_cons_self)))))
  refine .cons (does1 M h5 (by rfl) rfl (by rfl) (by rfl)) ?_
  obtain ⟨fI6, fd6, h6⟩ := show ∃ (fI : Addr) (fd : FuncData), E1 P w K mg base ad "BadCounts" "index" fI fd from F ⟨"BadCounts", ["index"]⟩ (List.mem_cons_of_mem _ (List.mem_cons_of_mem _ (List.mem_cons_of_mem _ (List.mem_cons_of_mem _ (List.mem_cons_of_mem _ (List.mem_cons_of_mem _ List.mem_cons_self))))))
  refine .cons (does1 M h6 (by rfl) rfl (by rfl) (by rfl)) ?_
  obtain ⟨fI7, fd7, h7⟩ := show ∃ (fI : Addr) (fd : FuncData), E1 P w K mg base ad "BadCourse" "index" fI fd from F ⟨"BadCourse", ["index"]⟩ (List.mem_cons_of_mem _ (List.mem_cons_of_mem _ (List.mem_cons_of_mem _ (List.mem_cons_of_mem _ (List.mem_cons_of_mem _ (List.mem_cons_of_mem _ (List.mem_cons_of_mem _ List.mem_cons_self)))))))
  refine .cons (does1 M h7 (by rfl) rfl (by rfl) (by rfl)) ?_
  obtain ⟨fI8, fd8, h8⟩ := show ∃ (fI : Addr) (fd : FuncData), E1 P w K mg base ad "BadDeed" "thing" fI fd from F ⟨"BadDeed", ["thing"]⟩ (List.mem_cons_of_mem _ (List.mem_cons_of_mem _ (List.mem_cons_of_mem _ (List.mem_cons_of_mem _ (List.mem_cons_of_mem _ (List.mem_cons_of_mem _ (List.mem_cons_of_mem _ (List.mem_cons_of_mem _ List.mem_cons_self))))))))
  refine .cons (does1 M h8 (by rfl) rfl (by rfl) (by rfl)) ?_
  obtain ⟨fI9, fd9, h9⟩ := show ∃ (fI : Addr) (fd : FuncData), E1 P w K mg base ad "BadDoor" "thing" fI fd from F ⟨"BadDoor", ["thing"]⟩ (List.mem_cons_of_mem _ (List.mem_cons_of_mem _ (List.mem_cons_of_mem _ (List.mem_cons_of_mem _ (List.mem_cons_of_mem _ (List.mem_cons_of_mem _ (List.mem_cons_of_mem _ (List.mem_cons_of_mem _ (List.mem_cons_of_mem _ List.mem_cons_self)))))))))
  refine .cons (does1 M h9 (by rfl) rfl (by rfl) (by rfl)) ?_
  obtain ⟨fI10, fd10, h10⟩ := show ∃ (fI : Addr) (fd : FuncData), E1 P w K mg base ad "BadDoors" "index" fI fd from F ⟨"BadDoors", ["index"]⟩ (List.mem_cons_of_mem _ (List.mem_cons_of_mem _ (List.mem_cons_of_mem _ (List.mem_cons_of_mem _ (List.mem_cons_of_mem _ (List.mem_cons_of_mem _ (List.mem_cons_of_mem _ (List.mem_cons_of_mem _ (List.mem_cons_of_mem _ (List.mem_cons_of_mem _ List.mem_cons_self))))))))))
  refine .cons (does1 M h10 (by rfl) rfl (by rfl) (by rfl)) ?_
  obtain ⟨fI11, fd11, h11⟩ := show ∃ (fI : Addr) (fd : FuncData), E1 P w K mg base ad "BadDue" "thing" fI fd from F ⟨"BadDue", ["thing"]⟩ (List.mem_cons_of_mem _ (List.mem_cons_of_mem _ (List.mem_cons_of_mem _ (List.mem_cons_of_mem _ (List.mem_cons_of_mem _ (List.mem_cons_of_mem _ (List.mem_cons_of_mem _ (List.mem_cons_of_mem _ (List.mem_cons_of_mem _ (List.mem_cons_of_mem _ (List.mem_cons_of_mem _ List.mem_cons_self)))))))))))
  refine .cons (does1 M h11 (by rfl) rfl (by rfl) (by rfl)) ?_
  obtain ⟨fI12, fd12, h12⟩ := show ∃ (fI : Addr) (fd : FuncData), E1 P w K mg base ad "BadForm" "index" fI fd from F ⟨"BadForm", ["index"]⟩ (List.mem_cons_of_mem _ (List.mem_cons_of_mem _ (List.mem_cons_of_mem _ (List.mem_cons_of_mem _ (List.mem_cons_of_mem _ (List.mem_cons_of_mem _ (List.mem_cons_of_mem _ (List.mem_cons_of_mem _ (List.mem_cons_of_mem _ (List.mem_cons_of_mem _ (List.mem_cons_of_mem _ (List.mem_cons_of_mem _ List.mem_cons_self))))))))))))
  refine .cons (does1 M h12 (by rfl) rfl (by rfl) (by rfl)) ?_
  obtain ⟨fI13, fd13, h13⟩ := show ∃ (fI : Addr) (fd : FuncData), E1 P w K mg base ad "BadImages" "index" fI fd from F ⟨"BadImages", ["index"]⟩ (List.mem_cons_of_mem _ (List.mem_cons_of_mem _ (List.mem_cons_of_mem _ (List.mem_cons_of_mem _ (List.mem_cons_of_mem _ (List.mem_cons_of_mem _ (List.mem_cons_of_mem _ (List.mem_cons_of_mem _ (List.mem_cons_of_mem _ (List.mem_cons_of_mem _ (List.mem_cons_of_mem _ (List.mem_cons_of_mem _ (List.mem_cons_of_mem _ List.mem_cons_self)))))))))))))
  refine .cons (does1 M h13 (by rfl) rfl (by rfl) (by rfl)) ?_
  obtain ⟨fI14, fd14, h14⟩ := show ∃ (fI : Addr) (fd : FuncData), E1 P w K mg base ad "BadIns" "index" fI fd from F ⟨"BadIns", ["index"]⟩ (List.mem_cons_of_mem _ (List.mem_cons_of_mem _ (List.mem_cons_of_mem _ (List.mem_cons_of_mem _ (List.mem_cons_of_mem _ (List.mem_cons_of_mem _ (List.mem_cons_of_mem _ (List.mem_cons_of_mem _ (List.mem_cons_of_mem _ (List.mem_cons_of_mem _ (List.mem_cons_of_mem _ (List.mem_cons_of_mem _ (List.mem_cons_of_mem _ (List.mem_cons_of_mem _ List.mem_cons_self))))))))))))))
  refine .cons (does1 M h14 (by rfl) rfl (by rfl) (by rfl)) ?_
  obtain ⟨fI15, fd15, h15⟩ := show ∃ (fI : Addr) (fd : FuncData), E1 P w K mg base ad "BadLetters" "index" fI fd from F ⟨"BadLetters", ["index"]⟩ (List.mem_cons_of_mem _ (List.mem_cons_of_mem _ (List.mem_cons_of_mem _ (List.mem_cons_of_mem _ (List.mem_cons_of_mem _ (List.mem_cons_of_mem _ (List.mem_cons_of_mem _ (List.mem_cons_of_mem _ (List.mem_cons_of_mem _ (List.mem_cons_of_mem _ (List.mem_cons_of_mem _ (List.mem_cons_of_mem _ (List.mem_cons_of_mem _ (List.mem_cons_of_mem _ (List.mem_cons_of_mem _ List.mem_cons_self)))))))))))))))
  refine .cons (does1 M h15 (by rfl) rfl (by rfl) (by rfl)) ?_
  obtain ⟨fI16, fd16, h16⟩ := show ∃ (fI : Addr) (fd : FuncData), E1 P w K mg base ad "BadLoops" "thing" fI fd from F ⟨"BadLoops", ["thing"]⟩ (List.mem_cons_of_mem _ (List.mem_cons_of_mem _ (List.mem_cons_of_mem _ (List.mem_cons_of_mem _ (List.mem_cons_of_mem _ (List.mem_cons_of_mem _ (List.mem_cons_of_mem _ (List.mem_cons_of_mem _ (List.mem_cons_of_mem _ (List.mem_cons_of_mem _ (List.mem_cons_of_mem _ (List.mem_cons_of_mem _ (List.mem_cons_of_mem _ (List.mem_cons_of_mem _ (List.mem_cons_of_mem _ (List.mem_cons_of_mem _ List.mem_cons_self))))))))))))))))
  refine .cons (does1 M h16 (by rfl) rfl (by rfl) (by rfl)) ?_
  obtain ⟨fI17, fd17, h17⟩ := show ∃ (fI : Addr) (fd : FuncData), E1 P w K mg base ad "BadMany" "thing" fI fd from F ⟨"BadMany", ["thing"]⟩ (List.mem_cons_of_mem _ (List.mem_cons_of_mem _ (List.mem_cons_of_mem _ (List.mem_cons_of_mem _ (List.mem_cons_of_mem _ (List.mem_cons_of_mem _ (List.mem_cons_of_mem _ (List.mem_cons_of_mem _ (List.mem_cons_of_mem _ (List.mem_cons_of_mem _ (List.mem_cons_of_mem _ (List.mem_cons_of_mem _ (List.mem_cons_of_mem _ (List.mem_cons_of_mem _ (List.mem_cons_of_mem _ (List.mem_cons_of_mem _ (List.mem_cons_of_mem _ List.mem_cons_self)))))))))))))))))
  refine .cons (does1 M h17 (by rfl) rfl (by rfl) (by rfl)) ?_
  exact .nil
def jsA : List (List Str) := [["BadAnswers", "BadBase"], ["BadBegun", "BadChance"], ["BadChoice", "BadCopies"], ["BadCounts", "BadCourse"], ["BadDeed", "BadDoor"], ["BadDoors", "BadDue"], ["BadForm", "BadImages"], ["BadIns", "BadLetters"], ["BadLoops", "BadMany"]]
theorem jsA_eq : jsA.flatten = nsA := by decide +kernel
theorem doesk_a (M : KX (cxOf CX0 P w K mg base ["e", "found"] "_law_kinds_a" (defScope sKindsA) f cdv A outer s H E).nox) (G : ∀ n ∈ nsA, mg n = some (.ref (ad n))) : Paired (DoesK (cxOf CX0 P w K mg base ["e", "found"] "_law_kinds_a" (defScope sKindsA) f cdv A outer s H E).nox ad (Kit K ad)) stkA jsA := by
  refine .cons (doesK2 M (by rfl) (by rfl) (G "BadAnswers" List.mem_cons_self) (G "BadBase" (List.mem_cons_of_mem _ List.mem_cons_self)) rfl rfl (by rfl) (by rfl)) ?_
  refine .cons (doesK2 M (by rfl) (by rfl) (G "BadBegun" (List.mem_cons_of_mem _ (List.mem_cons_of_mem _ List.mem_cons_self))) (G "BadChance" (List.mem_cons_of_mem _ (List.mem_cons_of_mem _ (List.mem_cons_of_mem _ List.mem_cons_self)))) rfl rfl (by rfl) (by rfl)) ?_
  refine .cons (doesK2 M (by rfl) (by rfl) (G "BadChoice" (List.mem_cons_of_mem _ (List.mem_cons_of_mem _ (List.mem_cons_of_mem _ (List.mem_cons_of_mem _ List.mem_cons_self))))) (G "BadCopies" (List.mem_cons_of_mem _ (List.mem_cons_of_mem _ (List.mem_cons_of_mem _ (List.mem_cons_of_mem _ (List.mem_cons_of_mem _ List.mem_cons_self)))))) rfl rfl (by rfl) (by rfl)) ?_
  refine .cons (doesK2 M (by rfl) (by rfl) (G "BadCounts" (List.mem_cons_of_mem _ (List.mem_cons_of_mem _ (List.mem_cons_of_mem _ (List.mem_cons_of_mem _ (List.mem_cons_of_mem _ (List.mem_cons_of_mem _ List.mem_cons_self))))))) (G "BadCourse" (List.mem_cons_of_mem _ (List.mem_cons_of_mem _ (List.mem_cons_of_mem _ (List.mem_cons_of_mem _ (List.mem_cons_of_mem _ (List.mem_cons_of_mem _ (List.mem_cons_of_mem _ List.mem_cons_self)))))))) rfl rfl (by rfl) (by rfl)) ?_
  refine .cons (doesK2 M (by rfl) (by rfl) (G "BadDeed" (List.mem_cons_of_mem _ (List.mem_cons_of_mem _ (List.mem_cons_of_mem _ (List.mem_cons_of_mem _ (List.mem_cons_of_mem _ (List.mem_cons_of_mem _ (List.mem_cons_of_mem _ (List.mem_cons_of_mem _ List.mem_cons_self))))))))) (G "BadDoor" (List.mem_cons_of_mem _ (List.mem_cons_of_mem _ (List.mem_cons_of_mem _ (List.mem_cons_of_mem _ (List.mem_cons_of_mem _ (List.mem_cons_of_mem _ (List.mem_cons_of_mem _ (List.mem_cons_of_mem _ (List.mem_cons_of_mem _ List.mem_cons_self)))))))))) rfl rfl (by rfl) (by rfl)) ?_
  refine .cons (doesK2 M (by rfl) (by rfl) (G "BadDoors" (List.mem_cons_of_mem _ (List.mem_cons_of_mem _ (List.mem_cons_of_mem _ (List.mem_cons_of_mem _ (List.mem_cons_of_mem _ (List.mem_cons_of_mem _ (List.mem_cons_of_mem _ (List.mem_cons_of_mem _ (List.mem_cons_of_mem _ (List.mem_cons_of_mem _ List.mem_cons_self))))))))))) (G "BadDue" (List.mem_cons_of_mem _ (List.mem_cons_of_mem _ (List.mem_cons_of_mem _ (List.mem_cons_of_mem _ (List.mem_cons_of_mem _ (List.mem_cons_of_mem _ (List.mem_cons_of_mem _ (List.mem_cons_of_mem _ (List.mem_cons_of_mem _ (List.mem_cons_of_mem _ (List.mem_cons_of_mem _ List.mem_cons_self)))))))))))) rfl rfl (by rfl) (by rfl)) ?_
  refine .cons (doesK2 M (by rfl) (by rfl) (G "BadForm" (List.mem_cons_of_mem _ (List.mem_cons_of_mem _ (List.mem_cons_of_mem _ (List.mem_cons_of_mem _ (List.mem_cons_of_mem _ (List.mem_cons_of_mem _ (List.mem_cons_of_mem _ (List.mem_cons_of_mem _ (List.mem_cons_of_mem _ (List.mem_cons_of_mem _ (List.mem_cons_of_mem _ (List.mem_cons_of_mem _ List.mem_cons_self))))))))))))) (G "BadImages" (List.mem_cons_of_mem _ (List.mem_cons_of_mem _ (List.mem_cons_of_mem _ (List.mem_cons_of_mem _ (List.mem_cons_of_mem _ (List.mem_cons_of_mem _ (List.mem_cons_of_mem _ (List.mem_cons_of_mem _ (List.mem_cons_of_mem _ (List.mem_cons_of_mem _ (List.mem_cons_of_mem _ (List.mem_cons_of_mem _ (List.mem_cons_of_mem _ List.mem_cons_self)))))))))))))) rfl rfl (by rfl) (by rfl)) ?_
  refine .cons (doesK2 M (by rfl) (by rfl) (G "BadIns" (List.mem_cons_of_mem _ (List.mem_cons_of_mem _ (List.mem_cons_of_mem _ (List.mem_cons_of_mem _ (List.mem_cons_of_mem _ (List.mem_cons_of_mem _ (List.mem_cons_of_mem _ (List.mem_cons_of_mem _ (List.mem_cons_of_mem _ (List.mem_cons_of_mem _ (List.mem_cons_of_mem _ (List.mem_cons_of_mem _ (List.mem_cons_of_mem _ (List.mem_cons_of_mem _ List.mem_cons_self))))))))))))))) (G "BadLetters" (List.mem_cons_of_mem _ (List.mem_cons_of_mem _ (List.mem_cons_of_mem _ (List.mem_cons_of_mem _ (List.mem_cons_of_mem _ (List.mem_cons_of_mem _ (List.mem_cons_of_mem _ (List.mem_cons_of_mem _ (List.mem_cons_of_mem _ (List.mem_cons_of_mem _ (List.mem_cons_of_mem _ (List.mem_cons_of_mem _ (List.mem_cons_of_mem _ (List.mem_cons_of_mem _ (List.mem_cons_of_mem _ List.mem_cons_self)))))))))))))))) rfl rfl (by rfl) (by rfl)) ?_
  refine .cons (doesK2 M (by rfl) (by rfl) (G "BadLoops" (List.mem_cons_of_mem _ (List.mem_cons_of_mem _ (List.mem_cons_of_mem _ (List.mem_cons_of_mem _ (List.mem_cons_of_mem _ (List.mem_cons_of_mem _ (List.mem_cons_of_mem _ (List.mem_cons_of_mem _ (List.mem_cons_of_mem _ (List.mem_cons_of_mem _ (List.mem_cons_of_mem _ (List.mem_cons_of_mem _ (List.mem_cons_of_mem _ (List.mem_cons_of_mem _ (List.mem_cons_of_mem _ (List.mem_cons_of_mem _ List.mem_cons_self))))))))))))))))) (G "BadMany" (List.mem_cons_of_mem _ (List.mem_cons_of_mem _ (List.mem_cons_of_mem _ (List.mem_cons_of_mem _ (List.mem_cons_of_mem _ (List.mem_cons_of_mem _ (List.mem_cons_of_mem _ (List.mem_cons_of_mem _ (List.mem_cons_of_mem _ (List.mem_cons_of_mem _ (List.mem_cons_of_mem _ (List.mem_cons_of_mem _ (List.mem_cons_of_mem _ (List.mem_cons_of_mem _ (List.mem_cons_of_mem _ (List.mem_cons_of_mem _ (List.mem_cons_of_mem _ List.mem_cons_self)))))))))))))))))) rfl rfl (by rfl) (by rfl)) ?_
  exact .nil
theorem does_b (M : MX (cxOf CX0 P w K mg base ["x", "y", "z", "found"] "_law_made_b" (defScope sMadeB) f (.ref c) A outer s H E) T c Pt) (F : ∀ c ∈ clB, CF P w K mg base ad c) : Paired (Does (cxOf CX0 P w K mg base ["x", "y", "z", "found"] "_law_made_b" (defScope sMadeB) f (.ref c) A outer s H E) T ad) stsB clB := by
  obtain ⟨fI0, fd0, h0⟩ := show ∃ (fI : Addr) (fd : FuncData), E1 P w K mg base ad "BadModuli" "index" fI fd from F ⟨"BadModuli", ["index"]⟩ List.mem_cons_self
  refine .cons (does1 M h0 (by rfl) rfl (by rfl) (by rfl)) ?_
  obtain ⟨fI1, fd1, h1⟩ := show ∃ (fI : Addr) (fd : FuncData), E1 P w K mg base ad "BadNetRow" "index" fI fd from F ⟨"BadNetRow", ["index"]⟩ (List.mem_cons_of_mem _ List.mem_cons_self)
  refine .cons (does1 M h1 (by rfl) rfl (by rfl) (by rfl)) ?_
  obtain ⟨fI2, fd2, h2⟩ := show ∃ (fI : Addr) (fd : FuncData), E1 P w K mg base ad "BadNetRows" "index" fI fd from F ⟨"BadNetRows", ["index"]⟩ (List.mem_cons_of_mem _ (List.mem_cons_of_mem _ List.mem_cons_self))
  refine .cons (does1 M h2 (by rfl) rfl (by rfl) (by rfl)) ?_
  obtain ⟨fI3, fd3, h3⟩ := show ∃ (fI : Addr) (fd : FuncData), E1 P w K mg base ad "BadNets" "index" fI fd from F ⟨"BadNets", ["index"]⟩ (List.mem_cons_of_mem _ (List.mem_cons_of_mem _ (List.mem_cons_of_mem _ List.mem_cons_self)))
  refine .cons (does1 M h3 (by rfl) rfl (by rfl) (by rfl)) ?_
  obtain ⟨fI4, fd4, h4⟩ := show ∃ (fI : Addr) (fd : FuncData), E1 P w K mg base ad "BadNumber" "thing" fI fd from F ⟨"BadNumber", ["thing"]⟩ (List.mem_cons_of_mem _ (List.mem_cons_of_mem _ (List.mem_cons_of_mem _ (List.mem_cons_of_mem _ List.mem_cons_self))))
  refine .cons (does1 M h4 (by rfl) rfl (by rfl) (by rfl)) ?_
  obtain ⟨fI5, fd5, h5⟩ := show ∃ (fI : Addr) (fd : FuncData), E1 P w K mg base ad "BadOrder" "index" fI fd from F ⟨"BadOrder", ["index"]⟩ (List.mem_cons_of_mem _ (List.mem_cons_of_mem _ (List.mem_cons_of_mem _ (List.mem_cons_of_mem _ (List.mem_cons_of_mem _ List.mem_cons_self)))))
  refine .cons (does1 M h5 (by rfl) rfl (by rfl) (by rfl)) ?_
  obtain ⟨fI6, fd6, h6⟩ := show ∃ (fI : Addr) (fd : FuncData), E1 P w K mg base ad "BadOuts" "index" fI fd from F ⟨"BadOuts", ["index"]⟩ (List.mem_cons_of_mem _ (List.mem_cons_of_mem _ (List.mem_cons_of_mem _ (List.mem_cons_of_mem _ (List.mem_cons_of_mem _ (List.mem_cons_of_mem _ List.mem_cons_self))))))
  refine .cons (does1 M h6 (by rfl) rfl (by rfl) (by rfl)) ?_
  obtain ⟨fI7, fd7, h7⟩ := show ∃ (fI : Addr) (fd : FuncData), E1 P w K mg base ad "BadParting" "index" fI fd from F ⟨"BadParting", ["index"]⟩ (List.mem_cons_of_mem _ (List.mem_cons_of_mem _ (List.mem_cons_of_mem _ (List.mem_cons_of_mem _ (List.mem_cons_of_mem _ (List.mem_cons_of_mem _ (List.mem_cons_of_mem _ List.mem_cons_self)))))))
  refine .cons (does1 M h7 (by rfl) rfl (by rfl) (by rfl)) ?_
  obtain ⟨fI8, fd8, h8⟩ := show ∃ (fI : Addr) (fd : FuncData), E1 P w K mg base ad "BadPeriod" "thing" fI fd from F ⟨"BadPeriod", ["thing"]⟩ (List.mem_cons_of_mem _ (List.mem_cons_of_mem _ (List.mem_cons_of_mem _ (List.mem_cons_of_mem _ (List.mem_cons_of_mem _ (List.mem_cons_of_mem _ (List.mem_cons_of_mem _ (List.mem_cons_of_mem _ List.mem_cons_self))))))))
  refine .cons (does1 M h8 (by rfl) rfl (by rfl) (by rfl)) ?_
  obtain ⟨fI9, fd9, h9⟩ := show ∃ (fI : Addr) (fd : FuncData), E1 P w K mg base ad "BadPicks" "index" fI fd from F ⟨"BadPicks", ["index"]⟩ (List.mem_cons_of_mem _ (List.mem_cons_of_mem _ (List.mem_cons_of_mem _ (List.mem_cons_of_mem _ (List.mem_cons_of_mem _ (List.mem_cons_of_mem _ (List.mem_cons_of_mem _ (List.mem_cons_of_mem _ (List.mem_cons_of_mem _ List.mem_cons_self)))))))))
  refine .cons (does1 M h9 (by rfl) rfl (by rfl) (by rfl)) ?_
  obtain ⟨fI10, fd10, h10⟩ := show ∃ (fI : Addr) (fd : FuncData), E1 P w K mg base ad "BadPiece" "thing" fI fd from F ⟨"BadPiece", ["thing"]⟩ (List.mem_cons_of_mem _ (List.mem_cons_of_mem _ (List.mem_cons_of_mem _ (List.mem_cons_of_mem _ (List.mem_cons_of_mem _ (List.mem_cons_of_mem _ (List.mem_cons_of_mem _ (List.mem_cons_of_mem _ (List.mem_cons_of_mem _ (List.mem_cons_of_mem _ List.mem_cons_self))))))))))
  refine .cons (does1 M h10 (by rfl) rfl (by rfl) (by rfl)) ?_
  obtain ⟨fI11, fd11, h11⟩ := show ∃ (fI : Addr) (fd : FuncData), E1 P w K mg base ad "BadPieces" "index" fI fd from F ⟨"BadPieces", ["index"]⟩ (List.mem_cons_of_mem _ (List.mem_cons_of_mem _ (List.mem_cons_of_mem _ (List.mem_cons_of_mem _ (List.mem_cons_of_mem _ (List.mem_cons_of_mem _ (List.mem_cons_of_mem _ (List.mem_cons_of_mem _ (List.mem_cons_of_mem _ (List.mem_cons_of_mem _ (List.mem_cons_of_mem _ List.mem_cons_self)))))))))))
  refine .cons (does1 M h11 (by rfl) rfl (by rfl) (by rfl)) ?_
  obtain ⟨fI12, fd12, h12⟩ := show ∃ (fI : Addr) (fd : FuncData), E1 P w K mg base ad "BadPlaces" "index" fI fd from F ⟨"BadPlaces", ["index"]⟩ (List.mem_cons_of_mem _ (List.mem_cons_of_mem _ (List.mem_cons_of_mem _ (List.mem_cons_of_mem _ (List.mem_cons_of_mem _ (List.mem_cons_of_mem _ (List.mem_cons_of_mem _ (List.mem_cons_of_mem _ (List.mem_cons_of_mem _ (List.mem_cons_of_mem _ (List.mem_cons_of_mem _ (List.mem_cons_of_mem _ List.mem_cons_self))))))))))))
  refine .cons (does1 M h12 (by rfl) rfl (by rfl) (by rfl)) ?_
  obtain ⟨fI13, fd13, h13⟩ := show ∃ (fI : Addr) (fd : FuncData), E1 P w K mg base ad "BadPlan" "thing" fI fd from F ⟨"BadPlan", ["thing"]⟩ (List.mem_cons_of_mem _ (List.mem_cons_of_mem _ (List.mem_cons_of_mem _ (List.mem_cons_of_mem _ (List.mem_cons_of_mem _ (List.mem_cons_of_mem _ (List.mem_cons_of_mem _ (List.mem_cons_of_mem _ (List.mem_cons_of_mem _ (List.mem_cons_of_mem _ (List.mem_cons_of_mem _ (List.mem_cons_of_mem _ (List.mem_cons_of_mem _ List.mem_cons_self)))))))))))))
  refine .cons (does1 M h13 (by rfl) rfl (by rfl) (by rfl)) ?_
  obtain ⟨fI14, fd14, h14⟩ := show ∃ (fI : Addr) (fd : FuncData), E1 P w K mg base ad "BadQuestion" "thing" fI fd from F ⟨"BadQuestion", ["thing"]⟩ (List.mem_cons_of_mem _ (List.mem_cons_of_mem _ (List.mem_cons_of_mem _ (List.mem_cons_of_mem _ (List.mem_cons_of_mem _ (List.mem_cons_of_mem _ (List.mem_cons_of_mem _ (List.mem_cons_of_mem _ (List.mem_cons_of_mem _ (List.mem_cons_of_mem _ (List.mem_cons_of_mem _ (List.mem_cons_of_mem _ (List.mem_cons_of_mem _ (List.mem_cons_of_mem _ List.mem_cons_self))))))))))))))
  refine .cons (does1 M h14 (by rfl) rfl (by rfl) (by rfl)) ?_
  obtain ⟨fI15, fd15, h15⟩ := show ∃ (fI : Addr) (fd : FuncData), E1 P w K mg base ad "BadRight" "thing" fI fd from F ⟨"BadRight", ["thing"]⟩ (List.mem_cons_of_mem _ (List.mem_cons_of_mem _ (List.mem_cons_of_mem _ (List.mem_cons_of_mem _ (List.mem_cons_of_mem _ (List.mem_cons_of_mem _ (List.mem_cons_of_mem _ (List.mem_cons_of_mem _ (List.mem_cons_of_mem _ (List.mem_cons_of_mem _ (List.mem_cons_of_mem _ (List.mem_cons_of_mem _ (List.mem_cons_of_mem _ (List.mem_cons_of_mem _ (List.mem_cons_of_mem _ List.mem_cons_self)))))))))))))))
  refine .cons (does1 M h15 (by rfl) rfl (by rfl) (by rfl)) ?_
  obtain ⟨fI16, fd16, h16⟩ := show ∃ (fI : Addr) (fd : FuncData), E1 P w K mg base ad "BadRoads" "index" fI fd from F ⟨"BadRoads", ["index"]⟩ (List.mem_cons_of_mem _ (List.mem_cons_of_mem _ (List.mem_cons_of_mem _ (List.mem_cons_of_mem _ (List.mem_cons_of_mem _ (List.mem_cons_of_mem _ (List.mem_cons_of_mem _ (List.mem_cons_of_mem _ (List.mem_cons_of_mem _ (List.mem_cons_of_mem _ (List.mem_cons_of_mem _ (List.mem_cons_of_mem _ (List.mem_cons_of_mem _ (List.mem_cons_of_mem _ (List.mem_cons_of_mem _ (List.mem_cons_of_mem _ List.mem_cons_self))))))))))))))))
  refine .cons (does1 M h16 (by rfl) rfl (by rfl) (by rfl)) ?_
  obtain ⟨fI17, fd17, h17⟩ := show ∃ (fI : Addr) (fd : FuncData), E1 P w K mg base ad "BadSenses" "index" fI fd from F ⟨"BadSenses", ["index"]⟩ (List.mem_cons_of_mem _ (List.mem_cons_of_mem _ (List.mem_cons_of_mem _ (List.mem_cons_of_mem _ (List.mem_cons_of_mem _ (List.mem_cons_of_mem _ (List.mem_cons_of_mem _ (List.mem_cons_of_mem _ (List.mem_cons_of_mem _ (List.mem_cons_of_mem _ (List.mem_cons_of_mem _ (List.mem_cons_of_mem _ (List.mem_cons_of_mem _ (List.mem_cons_of_mem _ (List.mem_cons_of_mem _ (List.mem_cons_of_mem _ (List.mem_cons_of_mem _ List.mem_cons_self)))))))))))))))))
  refine .cons (does1 M h17 (by rfl) rfl (by rfl) (by rfl)) ?_
  exact .nil
def jsB : List (List Str) := [["BadModuli", "BadNetRow"], ["BadNetRows", "BadNets"], ["BadNumber", "BadOrder"], ["BadOuts", "BadParting"], ["BadPeriod", "BadPicks"], ["BadPiece", "BadPieces"], ["BadPlaces", "BadPlan"], ["BadQuestion", "BadRight"], ["BadRoads", "BadSenses"]]
theorem jsB_eq : jsB.flatten = nsB := by decide +kernel
theorem doesk_b (M : KX (cxOf CX0 P w K mg base ["e", "found"] "_law_kinds_b" (defScope sKindsB) f cdv A outer s H E).nox) (G : ∀ n ∈ nsB, mg n = some (.ref (ad n))) : Paired (DoesK (cxOf CX0 P w K mg base ["e", "found"] "_law_kinds_b" (defScope sKindsB) f cdv A outer s H E).nox ad (Kit K ad)) stkB jsB := by
  refine .cons (doesK2 M (by rfl) (by rfl) (G "BadModuli" List.mem_cons_self) (G "BadNetRow" (List.mem_cons_of_mem _ List.mem_cons_self)) rfl rfl (by rfl) (by rfl)) ?_
  refine .cons (doesK2 M (by rfl) (by rfl) (G "BadNetRows" (List.mem_cons_of_mem _ (List.mem_cons_of_mem _ List.mem_cons_self))) (G "BadNets" (List.mem_cons_of_mem _ (List.mem_cons_of_mem _ (List.mem_cons_of_mem _ List.mem_cons_self)))) rfl rfl (by rfl) (by rfl)) ?_
  refine .cons (doesK2 M (by rfl) (by rfl) (G "BadNumber" (List.mem_cons_of_mem _ (List.mem_cons_of_mem _ (List.mem_cons_of_mem _ (List.mem_cons_of_mem _ List.mem_cons_self))))) (G "BadOrder" (List.mem_cons_of_mem _ (List.mem_cons_of_mem _ (List.mem_cons_of_mem _ (List.mem_cons_of_mem _ (List.mem_cons_of_mem _ List.mem_cons_self)))))) rfl rfl (by rfl) (by rfl)) ?_
  refine .cons (doesK2 M (by rfl) (by rfl) (G "BadOuts" (List.mem_cons_of_mem _ (List.mem_cons_of_mem _ (List.mem_cons_of_mem _ (List.mem_cons_of_mem _ (List.mem_cons_of_mem _ (List.mem_cons_of_mem _ List.mem_cons_self))))))) (G "BadParting" (List.mem_cons_of_mem _ (List.mem_cons_of_mem _ (List.mem_cons_of_mem _ (List.mem_cons_of_mem _ (List.mem_cons_of_mem _ (List.mem_cons_of_mem _ (List.mem_cons_of_mem _ List.mem_cons_self)))))))) rfl rfl (by rfl) (by rfl)) ?_
  refine .cons (doesK2 M (by rfl) (by rfl) (G "BadPeriod" (List.mem_cons_of_mem _ (List.mem_cons_of_mem _ (List.mem_cons_of_mem _ (List.mem_cons_of_mem _ (List.mem_cons_of_mem _ (List.mem_cons_of_mem _ (List.mem_cons_of_mem _ (List.mem_cons_of_mem _ List.mem_cons_self))))))))) (G "BadPicks" (List.mem_cons_of_mem _ (List.mem_cons_of_mem _ (List.mem_cons_of_mem _ (List.mem_cons_of_mem _ (List.mem_cons_of_mem _ (List.mem_cons_of_mem _ (List.mem_cons_of_mem _ (List.mem_cons_of_mem _ (List.mem_cons_of_mem _ List.mem_cons_self)))))))))) rfl rfl (by rfl) (by rfl)) ?_
  refine .cons (doesK2 M (by rfl) (by rfl) (G "BadPiece" (List.mem_cons_of_mem _ (List.mem_cons_of_mem _ (List.mem_cons_of_mem _ (List.mem_cons_of_mem _ (List.mem_cons_of_mem _ (List.mem_cons_of_mem _ (List.mem_cons_of_mem _ (List.mem_cons_of_mem _ (List.mem_cons_of_mem _ (List.mem_cons_of_mem _ List.mem_cons_self))))))))))) (G "BadPieces" (List.mem_cons_of_mem _ (List.mem_cons_of_mem _ (List.mem_cons_of_mem _ (List.mem_cons_of_mem _ (List.mem_cons_of_mem _ (List.mem_cons_of_mem _ (List.mem_cons_of_mem _ (List.mem_cons_of_mem _ (List.mem_cons_of_mem _ (List.mem_cons_of_mem _ (List.mem_cons_of_mem _ List.mem_cons_self)))))))))))) rfl rfl (by rfl) (by rfl)) ?_
  refine .cons (doesK2 M (by rfl) (by rfl) (G "BadPlaces" (List.mem_cons_of_mem _ (List.mem_cons_of_mem _ (List.mem_cons_of_mem _ (List.mem_cons_of_mem _ (List.mem_cons_of_mem _ (List.mem_cons_of_mem _ (List.mem_cons_of_mem _ (List.mem_cons_of_mem _ (List.mem_cons_of_mem _ (List.mem_cons_of_mem _ (List.mem_cons_of_mem _ (List.mem_cons_of_mem _ List.mem_cons_self))))))))))))) (G "BadPlan" (List.mem_cons_of_mem _ (List.mem_cons_of_mem _ (List.mem_cons_of_mem _ (List.mem_cons_of_mem _ (List.mem_cons_of_mem _ (List.mem_cons_of_mem _ (List.mem_cons_of_mem _ (List.mem_cons_of_mem _ (List.mem_cons_of_mem _ (List.mem_cons_of_mem _ (List.mem_cons_of_mem _ (List.mem_cons_of_mem _ (List.mem_cons_of_mem _ List.mem_cons_self)))))))))))))) rfl rfl (by rfl) (by rfl)) ?_
  refine .cons (doesK2 M (by rfl) (by rfl) (G "BadQuestion" (List.mem_cons_of_mem _ (List.mem_cons_of_mem _ (List.mem_cons_of_mem _ (List.mem_cons_of_mem _ (List.mem_cons_of_mem _ (List.mem_cons_of_mem _ (List.mem_cons_of_mem _ (List.mem_cons_of_mem _ (List.mem_cons_of_mem _ (List.mem_cons_of_mem _ (List.mem_cons_of_mem _ (List.mem_cons_of_mem _ (List.mem_cons_of_mem _ (List.mem_cons_of_mem _ List.mem_cons_self))))))))))))))) (G "BadRight" (List.mem_cons_of_mem _ (List.mem_cons_of_mem _ (List.mem_cons_of_mem _ (List.mem_cons_of_mem _ (List.mem_cons_of_mem _ (List.mem_cons_of_mem _ (List.mem_cons_of_mem _ (List.mem_cons_of_mem _ (List.mem_cons_of_mem _ (List.mem_cons_of_mem _ (List.mem_cons_of_mem _ (List.mem_cons_of_mem _ (List.mem_cons_of_mem _ (List.mem_cons_of_mem _ (List.mem_cons_of_mem _ List.mem_cons_self)))))))))))))))) rfl rfl (by rfl) (by rfl)) ?_
  refine .cons (doesK2 M (by rfl) (by rfl) (G "BadRoads" (List.mem_cons_of_mem _ (List.mem_cons_of_mem _ (List.mem_cons_of_mem _ (List.mem_cons_of_mem _ (List.mem_cons_of_mem _ (List.mem_cons_of_mem _ (List.mem_cons_of_mem _ (List.mem_cons_of_mem _ (List.mem_cons_of_mem _ (List.mem_cons_of_mem _ (List.mem_cons_of_mem _ (List.mem_cons_of_mem _ (List.mem_cons_of_mem _ (List.mem_cons_of_mem _ (List.mem_cons_of_mem _ (List.mem_cons_of_mem _ List.mem_cons_self))))))))))))))))) (G "BadSenses" (List.mem_cons_of_mem _ (List.mem_cons_of_mem _ (List.mem_cons_of_mem _ (List.mem_cons_of_mem _ (List.mem_cons_of_mem _ (List.mem_cons_of_mem _ (List.mem_cons_of_mem _ (List.mem_cons_of_mem _ (List.mem_cons_of_mem _ (List.mem_cons_of_mem _ (List.mem_cons_of_mem _ (List.mem_cons_of_mem _ (List.mem_cons_of_mem _ (List.mem_cons_of_mem _ (List.mem_cons_of_mem _ (List.mem_cons_of_mem _ (List.mem_cons_of_mem _ List.mem_cons_self)))))))))))))))))) rfl rfl (by rfl) (by rfl)) ?_
  exact .nil
theorem does_c (M : MX (cxOf CX0 P w K mg base ["x", "y", "z", "found"] "_law_made_c" (defScope sMadeC) f (.ref c) A outer s H E) T c Pt) (F : ∀ c ∈ clC, CF P w K mg base ad c) : Paired (Does (cxOf CX0 P w K mg base ["x", "y", "z", "found"] "_law_made_c" (defScope sMadeC) f (.ref c) A outer s H E) T ad) stsC clC := by
  obtain ⟨fI0, fd0, h0⟩ := show ∃ (fI : Addr) (fd : FuncData), E1 P w K mg base ad "BadSheet" "index" fI fd from F ⟨"BadSheet", ["index"]⟩ List.mem_cons_self
  refine .cons (does1 M h0 (by rfl) rfl (by rfl) (by rfl)) ?_
  obtain ⟨fI1, fd1, h1⟩ := show ∃ (fI : Addr) (fd : FuncData), E1 P w K mg base ad "BadSides" "thing" fI fd from F ⟨"BadSides", ["thing"]⟩ (List.mem_cons_of_mem _ List.mem_cons_self)
  refine .cons (does1 M h1 (by rfl) rfl (by rfl) (by rfl)) ?_
  obtain ⟨fI2, fd2, h2⟩ := show ∃ (fI : Addr) (fd : FuncData), E1 P w K mg base ad "BadSigns" "index" fI fd from F ⟨"BadSigns", ["index"]⟩ (List.mem_cons_of_mem _ (List.mem_cons_of_mem _ List.mem_cons_self))
  refine .cons (does1 M h2 (by rfl) rfl (by rfl) (by rfl)) ?_
  obtain ⟨fI3, fd3, h3⟩ := show ∃ (fI : Addr) (fd : FuncData), E1 P w K mg base ad "BadSteps" "index" fI fd from F ⟨"BadSteps", ["index"]⟩ (List.mem_cons_of_mem _ (List.mem_cons_of_mem _ (List.mem_cons_of_mem _ List.mem_cons_self)))
  refine .cons (does1 M h3 (by rfl) rfl (by rfl) (by rfl)) ?_
  obtain ⟨fI4, fd4, h4⟩ := show ∃ (fI : Addr) (fd : FuncData), E1 P w K mg base ad "BadText" "line" fI fd from F ⟨"BadText", ["line"]⟩ (List.mem_cons_of_mem _ (List.mem_cons_of_mem _ (List.mem_cons_of_mem _ (List.mem_cons_of_mem _ List.mem_cons_self))))
  refine .cons (does1 M h4 (by rfl) rfl (by rfl) (by rfl)) ?_
  obtain ⟨fI5, fd5, h5⟩ := show ∃ (fI : Addr) (fd : FuncData), E1 P w K mg base ad "BadThrow" "index" fI fd from F ⟨"BadThrow", ["index"]⟩ (List.mem_cons_of_mem _ (List.mem_cons_of_mem _ (List.mem_cons_of_mem _ (List.mem_cons_of_mem _ (List.mem_cons_of_mem _ List.mem_cons_self)))))
  refine .cons (does1 M h5 (by rfl) rfl (by rfl) (by rfl)) ?_
  obtain ⟨fI6, fd6, h6⟩ := show ∃ (fI : Addr) (fd : FuncData), E1 P w K mg base ad "BadTimes" "thing" fI fd from F ⟨"BadTimes", ["thing"]⟩ (List.mem_cons_of_mem _ (List.mem_cons_of_mem _ (List.mem_cons_of_mem _ (List.mem_cons_of_mem _ (List.mem_cons_of_mem _ (List.mem_cons_of_mem _ List.mem_cons_self))))))
  refine .cons (does1 M h6 (by rfl) rfl (by rfl) (by rfl)) ?_
  obtain ⟨fI7, fd7, h7⟩ := show ∃ (fI : Addr) (fd : FuncData), E1 P w K mg base ad "BadTurn" "thing" fI fd from F ⟨"BadTurn", ["thing"]⟩ (List.mem_cons_of_mem _ (List.mem_cons_of_mem _ (List.mem_cons_of_mem _ (List.mem_cons_of_mem _ (List.mem_cons_of_mem _ (List.mem_cons_of_mem _ (List.mem_cons_of_mem _ List.mem_cons_self)))))))
  refine .cons (does1 M h7 (by rfl) rfl (by rfl) (by rfl)) ?_
  obtain ⟨fI8, fd8, h8⟩ := show ∃ (fI : Addr) (fd : FuncData), E1 P w K mg base ad "BadTurns" "index" fI fd from F ⟨"BadTurns", ["index"]⟩ (List.mem_cons_of_mem _ (List.mem_cons_of_mem _ (List.mem_cons_of_mem _ (List.mem_cons_of_mem _ (List.mem_cons_of_mem _ (List.mem_cons_of_mem _ (List.mem_cons_of_mem _ (List.mem_cons_of_mem _ List.mem_cons_self))))))))
  refine .cons (does1 M h8 (by rfl) rfl (by rfl) (by rfl)) ?_
  obtain ⟨fI9, fd9, h9⟩ := show ∃ (fI : Addr) (fd : FuncData), E1 P w K mg base ad "BadView" "thing" fI fd from F ⟨"BadView", ["thing"]⟩ (List.mem_cons_of_mem _ (List.mem_cons_of_mem _ (List.mem_cons_of_mem _ (List.mem_cons_of_mem _ (List.mem_cons_of_mem _ (List.mem_cons_of_mem _ (List.mem_cons_of_mem _ (List.mem_cons_of_mem _ (List.mem_cons_of_mem _ List.mem_cons_self)))))))))
  refine .cons (does1 M h9 (by rfl) rfl (by rfl) (by rfl)) ?_
  obtain ⟨fI10, fd10, h10⟩ := show ∃ (fI : Addr) (fd : FuncData), E1 P w K mg base ad "BadViews" "index" fI fd from F ⟨"BadViews", ["index"]⟩ (List.mem_cons_of_mem _ (List.mem_cons_of_mem _ (List.mem_cons_of_mem _ (List.mem_cons_of_mem _ (List.mem_cons_of_mem _ (List.mem_cons_of_mem _ (List.mem_cons_of_mem _ (List.mem_cons_of_mem _ (List.mem_cons_of_mem _ (List.mem_cons_of_mem _ List.mem_cons_self))))))))))
  refine .cons (does1 M h10 (by rfl) rfl (by rfl) (by rfl)) ?_
  obtain ⟨fI11, fd11, h11⟩ := show ∃ (fI : Addr) (fd : FuncData), E1 P w K mg base ad "BadWalk" "index" fI fd from F ⟨"BadWalk", ["index"]⟩ (List.mem_cons_of_mem _ (List.mem_cons_of_mem _ (List.mem_cons_of_mem _ (List.mem_cons_of_mem _ (List.mem_cons_of_mem _ (List.mem_cons_of_mem _ (List.mem_cons_of_mem _ (List.mem_cons_of_mem _ (List.mem_cons_of_mem _ (List.mem_cons_of_mem _ (List.mem_cons_of_mem _ List.mem_cons_self)))))))))))
  refine .cons (does1 M h11 (by rfl) rfl (by rfl) (by rfl)) ?_
  obtain ⟨fI12, fd12, h12⟩ := show ∃ (fI : Addr) (fd : FuncData), E1 P w K mg base ad "BadWalker" "thing" fI fd from F ⟨"BadWalker", ["thing"]⟩ (List.mem_cons_of_mem _ (List.mem_cons_of_mem _ (List.mem_cons_of_mem _ (List.mem_cons_of_mem _ (List.mem_cons_of_mem _ (List.mem_cons_of_mem _ (List.mem_cons_of_mem _ (List.mem_cons_of_mem _ (List.mem_cons_of_mem _ (List.mem_cons_of_mem _ (List.mem_cons_of_mem _ (List.mem_cons_of_mem _ List.mem_cons_self))))))))))))
  refine .cons (does1 M h12 (by rfl) rfl (by rfl) (by rfl)) ?_
  obtain ⟨fI13, fd13, h13⟩ := show ∃ (fI : Addr) (fd : FuncData), E1 P w K mg base ad "BadWords" "index" fI fd from F ⟨"BadWords", ["index"]⟩ (List.mem_cons_of_mem _ (List.mem_cons_of_mem _ (List.mem_cons_of_mem _ (List.mem_cons_of_mem _ (List.mem_cons_of_mem _ (List.mem_cons_of_mem _ (List.mem_cons_of_mem _ (List.mem_cons_of_mem _ (List.mem_cons_of_mem _ (List.mem_cons_of_mem _ (List.mem_cons_of_mem _ (List.mem_cons_of_mem _ (List.mem_cons_of_mem _ List.mem_cons_self)))))))))))))
  refine .cons (does1 M h13 (by rfl) rfl (by rfl) (by rfl)) ?_
  obtain ⟨fI14, fd14, h14⟩ := show ∃ (fI : Addr) (fd : FuncData), E1 P w K mg base ad "BadWritten" "thing" fI fd from F ⟨"BadWritten", ["thing"]⟩ (List.mem_cons_of_mem _ (List.mem_cons_of_mem _ (List.mem_cons_of_mem _ (List.mem_cons_of_mem _ (List.mem_cons_of_mem _ (List.mem_cons_of_mem _ (List.mem_cons_of_mem _ (List.mem_cons_of_mem _ (List.mem_cons_of_mem _ (List.mem_cons_of_mem _ (List.mem_cons_of_mem _ (List.mem_cons_of_mem _ (List.mem_cons_of_mem _ (List.mem_cons_of_mem _ List.mem_cons_self))))))))))))))
  refine .cons (does1 M h14 (by rfl) rfl (by rfl) (by rfl)) ?_
  refine .cons (does0 M (show EZ _ _ _ _ from F ⟨"CanBeDone", []⟩ (List.mem_cons_of_mem _ (List.mem_cons_of_mem _ (List.mem_cons_of_mem _ (List.mem_cons_of_mem _ (List.mem_cons_of_mem _ (List.mem_cons_of_mem _ (List.mem_cons_of_mem _ (List.mem_cons_of_mem _ (List.mem_cons_of_mem _ (List.mem_cons_of_mem _ (List.mem_cons_of_mem _ (List.mem_cons_of_mem _ (List.mem_cons_of_mem _ (List.mem_cons_of_mem _ (List.mem_cons_of_mem _ List.mem_cons_self)))))))))))))))) (by rfl) rfl (by rfl) (by rfl)) ?_
  obtain ⟨fI16, fd16, h16⟩ := show ∃ (fI : Addr) (fd : FuncData), E1 P w K mg base ad "InUse" "question" fI fd from F ⟨"InUse", ["question"]⟩ (List.mem_cons_of_mem _ (List.mem_cons_of_mem _ (List.mem_cons_of_mem _ (List.mem_cons_of_mem _ (List.mem_cons_of_mem _ (List.mem_cons_of_mem _ (List.mem_cons_of_mem _ (List.mem_cons_of_mem _ (List.mem_cons_of_mem _ (List.mem_cons_of_mem _ (List.mem_cons_of_mem _ (List.mem_cons_of_mem _ (List.mem_cons_of_mem _ (List.mem_cons_of_mem _ (List.mem_cons_of_mem _ (List.mem_cons_of_mem _ List.mem_cons_self))))))))))))))))
  refine .cons (does1 M h16 (by rfl) rfl (by rfl) (by rfl)) ?_
  refine .cons (does0 M (show EZ _ _ _ _ from F ⟨"IsSure", []⟩ (List.mem_cons_of_mem _ (List.mem_cons_of_mem _ (List.mem_cons_of_mem _ (List.mem_cons_of_mem _ (List.mem_cons_of_mem _ (List.mem_cons_of_mem _ (List.mem_cons_of_mem _ (List.mem_cons_of_mem _ (List.mem_cons_of_mem _ (List.mem_cons_of_mem _ (List.mem_cons_of_mem _ (List.mem_cons_of_mem _ (List.mem_cons_of_mem _ (List.mem_cons_of_mem _ (List.mem_cons_of_mem _ (List.mem_cons_of_mem _ (List.mem_cons_of_mem _ List.mem_cons_self)))))))))))))))))) (by rfl) rfl (by rfl) (by rfl)) ?_
  exact .nil
def jsC : List (List Str) := [["BadSheet", "BadSides"], ["BadSigns", "BadSteps"], ["BadText", "BadThrow"], ["BadTimes", "BadTurn"], ["BadTurns", "BadView"], ["BadViews", "BadWalk"], ["BadWalker", "BadWords"], ["BadWritten", "CanBeDone"], ["InUse", "IsSure"]]
theorem jsC_eq : jsC.flatten = nsC := by decide +kernel
theorem doesk_c (M : KX (cxOf CX0 P w K mg base ["e", "found"] "_law_kinds_c" (defScope sKindsC) f cdv A outer s H E).nox) (G : ∀ n ∈ nsC, mg n = some (.ref (ad n))) : Paired (DoesK (cxOf CX0 P w K mg base ["e", "found"] "_law_kinds_c" (defScope sKindsC) f cdv A outer s H E).nox ad (Kit K ad)) stkC jsC := by
  refine .cons (doesK2 M (by rfl) (by rfl) (G "BadSheet" List.mem_cons_self) (G "BadSides" (List.mem_cons_of_mem _ List.mem_cons_self)) rfl rfl (by rfl) (by rfl)) ?_
  refine .cons (doesK2 M (by rfl) (by rfl) (G "BadSigns" (List.mem_cons_of_mem _ (List.mem_cons_of_mem _ List.mem_cons_self))) (G "BadSteps" (List.mem_cons_of_mem _ (List.mem_cons_of_mem _ (List.mem_cons_of_mem _ List.mem_cons_self)))) rfl rfl (by rfl) (by rfl)) ?_
  refine .cons (doesK2 M (by rfl) (by rfl) (G "BadText" (List.mem_cons_of_mem _ (List.mem_cons_of_mem _ (List.mem_cons_of_mem _ (List.mem_cons_of_mem _ List.mem_cons_self))))) (G "BadThrow" (List.mem_cons_of_mem _ (List.mem_cons_of_mem _ (List.mem_cons_of_mem _ (List.mem_cons_of_mem _ (List.mem_cons_of_mem _ List.mem_cons_self)))))) rfl rfl (by rfl) (by rfl)) ?_
  refine .cons (doesK2 M (by rfl) (by rfl) (G "BadTimes" (List.mem_cons_of_mem _ (List.mem_cons_of_mem _ (List.mem_cons_of_mem _ (List.mem_cons_of_mem _ (List.mem_cons_of_mem _ (List.mem_cons_of_mem _ List.mem_cons_self))))))) (G "BadTurn" (List.mem_cons_of_mem _ (List.mem_cons_of_mem _ (List.mem_cons_of_mem _ (List.mem_cons_of_mem _ (List.mem_cons_of_mem _ (List.mem_cons_of_mem _ (List.mem_cons_of_mem _ List.mem_cons_self)))))))) rfl rfl (by rfl) (by rfl)) ?_
  refine .cons (doesK2 M (by rfl) (by rfl) (G "BadTurns" (List.mem_cons_of_mem _ (List.mem_cons_of_mem _ (List.mem_cons_of_mem _ (List.mem_cons_of_mem _ (List.mem_cons_of_mem _ (List.mem_cons_of_mem _ (List.mem_cons_of_mem _ (List.mem_cons_of_mem _ List.mem_cons_self))))))))) (G "BadView" (List.mem_cons_of_mem _ (List.mem_cons_of_mem _ (List.mem_cons_of_mem _ (List.mem_cons_of_mem _ (List.mem_cons_of_mem _ (List.mem_cons_of_mem _ (List.mem_cons_of_mem _ (List.mem_cons_of_mem _ (List.mem_cons_of_mem _ List.mem_cons_self)))))))))) rfl rfl (by rfl) (by rfl)) ?_
  refine .cons (doesK2 M (by rfl) (by rfl) (G "BadViews" (List.mem_cons_of_mem _ (List.mem_cons_of_mem _ (List.mem_cons_of_mem _ (List.mem_cons_of_mem _ (List.mem_cons_of_mem _ (List.mem_cons_of_mem _ (List.mem_cons_of_mem _ (List.mem_cons_of_mem _ (List.mem_cons_of_mem _ (List.mem_cons_of_mem _ List.mem_cons_self))))))))))) (G "BadWalk" (List.mem_cons_of_mem _ (List.mem_cons_of_mem _ (List.mem_cons_of_mem _ (List.mem_cons_of_mem _ (List.mem_cons_of_mem _ (List.mem_cons_of_mem _ (List.mem_cons_of_mem _ (List.mem_cons_of_mem _ (List.mem_cons_of_mem _ (List.mem_cons_of_mem _ (List.mem_cons_of_mem _ List.mem_cons_self)))))))))))) rfl rfl (by rfl) (by rfl)) ?_
  refine .cons (doesK2 M (by rfl) (by rfl) (G "BadWalker" (List.mem_cons_of_mem _ (List.mem_cons_of_mem _ (List.mem_cons_of_mem _ (List.mem_cons_of_mem _ (List.mem_cons_of_mem _ (List.mem_cons_of_mem _ (List.mem_cons_of_mem _ (List.mem_cons_of_mem _ (List.mem_cons_of_mem _ (List.mem_cons_of_mem _ (List.mem_cons_of_mem _ (List.mem_cons_of_mem _ List.mem_cons_self))))))))))))) (G "BadWords" (List.mem_cons_of_mem _ (List.mem_cons_of_mem _ (List.mem_cons_of_mem _ (List.mem_cons_of_mem _ (List.mem_cons_of_mem _ (List.mem_cons_of_mem _ (List.mem_cons_of_mem _ (List.mem_cons_of_mem _ (List.mem_cons_of_mem _ (List.mem_cons_of_mem _ (List.mem_cons_of_mem _ (List.mem_cons_of_mem _ (List.mem_cons_of_mem _ List.mem_cons_self)))))))))))))) rfl rfl (by rfl) (by rfl)) ?_
  refine .cons (doesK2 M (by rfl) (by rfl) (G "BadWritten" (List.mem_cons_of_mem _ (List.mem_cons_of_mem _ (List.mem_cons_of_mem _ (List.mem_cons_of_mem _ (List.mem_cons_of_mem _ (List.mem_cons_of_mem _ (List.mem_cons_of_mem _ (List.mem_cons_of_mem _ (List.mem_cons_of_mem _ (List.mem_cons_of_mem _ (List.mem_cons_of_mem _ (List.mem_cons_of_mem _ (List.mem_cons_of_mem _ (List.mem_cons_of_mem _ List.mem_cons_self))))))))))))))) (G "CanBeDone" (List.mem_cons_of_mem _ (List.mem_cons_of_mem _ (List.mem_cons_of_mem _ (List.mem_cons_of_mem _ (List.mem_cons_of_mem _ (List.mem_cons_of_mem _ (List.mem_cons_of_mem _ (List.mem_cons_of_mem _ (List.mem_cons_of_mem _ (List.mem_cons_of_mem _ (List.mem_cons_of_mem _ (List.mem_cons_of_mem _ (List.mem_cons_of_mem _ (List.mem_cons_of_mem _ (List.mem_cons_of_mem _ List.mem_cons_self)))))))))))))))) rfl rfl (by rfl) (by rfl)) ?_
  refine .cons (doesK2 M (by rfl) (by rfl) (G "InUse" (List.mem_cons_of_mem _ (List.mem_cons_of_mem _ (List.mem_cons_of_mem _ (List.mem_cons_of_mem _ (List.mem_cons_of_mem _ (List.mem_cons_of_mem _ (List.mem_cons_of_mem _ (List.mem_cons_of_mem _ (List.mem_cons_of_mem _ (List.mem_cons_of_mem _ (List.mem_cons_of_mem _ (List.mem_cons_of_mem _ (List.mem_cons_of_mem _ (List.mem_cons_of_mem _ (List.mem_cons_of_mem _ (List.mem_cons_of_mem _ List.mem_cons_self))))))))))))))))) (G "IsSure" (List.mem_cons_of_mem _ (List.mem_cons_of_mem _ (List.mem_cons_of_mem _ (List.mem_cons_of_mem _ (List.mem_cons_of_mem _ (List.mem_cons_of_mem _ (List.mem_cons_of_mem _ (List.mem_cons_of_mem _ (List.mem_cons_of_mem _ (List.mem_cons_of_mem _ (List.mem_cons_of_mem _ (List.mem_cons_of_mem _ (List.mem_cons_of_mem _ (List.mem_cons_of_mem _ (List.mem_cons_of_mem _ (List.mem_cons_of_mem _ (List.mem_cons_of_mem _ List.mem_cons_self)))))))))))))))))) rfl rfl (by rfl) (by rfl)) ?_
  exact .nil
theorem does_d (M : MX (cxOf CX0 P w K mg base ["x", "y", "z", "found"] "_law_made_d" (defScope sMadeD) f (.ref c) A outer s H E) T c Pt) (F : ∀ c ∈ clD, CF P w K mg base ad c) : Paired (Does (cxOf CX0 P w K mg base ["x", "y", "z", "found"] "_law_made_d" (defScope sMadeD) f (.ref c) A outer s H E) T ad) stsD clD := by
  obtain ⟨fI0, fd0, h0⟩ := show ∃ (fI : Addr) (fd : FuncData), E1 P w K mg base ad "IsWatched" "thing" fI fd from F ⟨"IsWatched", ["thing"]⟩ List.mem_cons_self
  refine .cons (does1 M h0 (by rfl) rfl (by rfl) (by rfl)) ?_
  refine .cons (does0 M (show EZ _ _ _ _ from F ⟨"LastPlace", []⟩ (List.mem_cons_of_mem _ List.mem_cons_self)) (by rfl) rfl (by rfl) (by rfl)) ?_
  obtain ⟨fI2, fd2, h2⟩ := show ∃ (fI : Addr) (fd : FuncData), E1 P w K mg base ad "NoCount" "thing" fI fd from F ⟨"NoCount", ["thing"]⟩ (List.mem_cons_of_mem _ (List.mem_cons_of_mem _ List.mem_cons_self))
  refine .cons (does1 M h2 (by rfl) rfl (by rfl) (by rfl)) ?_
  obtain ⟨fI3, fd3, h3⟩ := show ∃ (fI : Addr) (fd : FuncData), E1 P w K mg base ad "NoFit" "many" fI fd from F ⟨"NoFit", ["many"]⟩ (List.mem_cons_of_mem _ (List.mem_cons_of_mem _ (List.mem_cons_of_mem _ List.mem_cons_self)))
  refine .cons (does1 M h3 (by rfl) rfl (by rfl) (by rfl)) ?_
  obtain ⟨fI4, fd4, h4⟩ := show ∃ (fI : Addr) (fd : FuncData), E1 P w K mg base ad "NoGate" "thing" fI fd from F ⟨"NoGate", ["thing"]⟩ (List.mem_cons_of_mem _ (List.mem_cons_of_mem _ (List.mem_cons_of_mem _ (List.mem_cons_of_mem _ List.mem_cons_self))))
  refine .cons (does1 M h4 (by rfl) rfl (by rfl) (by rfl)) ?_
  obtain ⟨fI5, fd5, h5⟩ := show ∃ (fI : Addr) (fd : FuncData), E1 P w K mg base ad "NoGroup" "thing" fI fd from F ⟨"NoGroup", ["thing"]⟩ (List.mem_cons_of_mem _ (List.mem_cons_of_mem _ (List.mem_cons_of_mem _ (List.mem_cons_of_mem _ (List.mem_cons_of_mem _ List.mem_cons_self)))))
  refine .cons (does1 M h5 (by rfl) rfl (by rfl) (by rfl)) ?_
  obtain ⟨fI6, fd6, h6⟩ := show ∃ (fI : Addr) (fd : FuncData), E1 P w K mg base ad "NoMove" "thing" fI fd from F ⟨"NoMove", ["thing"]⟩ (List.mem_cons_of_mem _ (List.mem_cons_of_mem _ (List.mem_cons_of_mem _ (List.mem_cons_of_mem _ (List.mem_cons_of_mem _ (List.mem_cons_of_mem _ List.mem_cons_self))))))
  refine .cons (does1 M h6 (by rfl) rfl (by rfl) (by rfl)) ?_
  obtain ⟨fI7, fd7, h7⟩ := show ∃ (fI : Addr) (fd : FuncData), E1 P w K mg base ad "NoNet" "name" fI fd from F ⟨"NoNet", ["name"]⟩ (List.mem_cons_of_mem _ (List.mem_cons_of_mem _ (List.mem_cons_of_mem _ (List.mem_cons_of_mem _ (List.mem_cons_of_mem _ (List.mem_cons_of_mem _ (List.mem_cons_of_mem _ List.mem_cons_self)))))))
  refine .cons (does1 M h7 (by rfl) rfl (by rfl) (by rfl)) ?_
  obtain ⟨fI8, fd8, h8⟩ := show ∃ (fI : Addr) (fd : FuncData), E1 P w K mg base ad "NoPlace" "thing" fI fd from F ⟨"NoPlace", ["thing"]⟩ (List.mem_cons_of_mem _ (List.mem_cons_of_mem _ (List.mem_cons_of_mem _ (List.mem_cons_of_mem _ (List.mem_cons_of_mem _ (List.mem_cons_of_mem _ (List.mem_cons_of_mem _ (List.mem_cons_of_mem _ List.mem_cons_self))))))))
  refine .cons (does1 M h8 (by rfl) rfl (by rfl) (by rfl)) ?_
  obtain ⟨fI9, fd9, h9⟩ := show ∃ (fI : Addr) (fd : FuncData), E1 P w K mg base ad "NoRoad" "road" fI fd from F ⟨"NoRoad", ["road"]⟩ (List.mem_cons_of_mem _ (List.mem_cons_of_mem _ (List.mem_cons_of_mem _ (List.mem_cons_of_mem _ (List.mem_cons_of_mem _ (List.mem_cons_of_mem _ (List.mem_cons_of_mem _ (List.mem_cons_of_mem _ (List.mem_cons_of_mem _ List.mem_cons_self)))))))))
  refine .cons (does1 M h9 (by rfl) rfl (by rfl) (by rfl)) ?_
  obtain ⟨fI10, fd10, h10⟩ := show ∃ (fI : Addr) (fd : FuncData), E1 P w K mg base ad "NoState" "thing" fI fd from F ⟨"NoState", ["thing"]⟩ (List.mem_cons_of_mem _ (List.mem_cons_of_mem _ (List.mem_cons_of_mem _ (List.mem_cons_of_mem _ (List.mem_cons_of_mem _ (List.mem_cons_of_mem _ (List.mem_cons_of_mem _ (List.mem_cons_of_mem _ (List.mem_cons_of_mem _ (List.mem_cons_of_mem _ List.mem_cons_self))))))))))
  refine .cons (does1 M h10 (by rfl) rfl (by rfl) (by rfl)) ?_
  obtain ⟨fI11, fd11, h11⟩ := show ∃ (fI : Addr) (fd : FuncData), E1 P w K mg base ad "NoWord" "thing" fI fd from F ⟨"NoWord", ["thing"]⟩ (List.mem_cons_of_mem _ (List.mem_cons_of_mem _ (List.mem_cons_of_mem _ (List.mem_cons_of_mem _ (List.mem_cons_of_mem _ (List.mem_cons_of_mem _ (List.mem_cons_of_mem _ (List.mem_cons_of_mem _ (List.mem_cons_of_mem _ (List.mem_cons_of_mem _ (List.mem_cons_of_mem _ List.mem_cons_self)))))))))))
  refine .cons (does1 M h11 (by rfl) rfl (by rfl) (by rfl)) ?_
  obtain ⟨fI12, fd12, h12⟩ := show ∃ (fI : Addr) (fd : FuncData), E2 P w K mg base ad "NotEven" "one" "other" fI fd from F ⟨"NotEven", ["one", "other"]⟩ (List.mem_cons_of_mem _ (List.mem_cons_of_mem _ (List.mem_cons_of_mem _ (List.mem_cons_of_mem _ (List.mem_cons_of_mem _ (List.mem_cons_of_mem _ (List.mem_cons_of_mem _ (List.mem_cons_of_mem _ (List.mem_cons_of_mem _ (List.mem_cons_of_mem _ (List.mem_cons_of_mem _ (List.mem_cons_of_mem _ List.mem_cons_self))))))))))))
  refine .cons (does2 M h12 (by rfl) rfl (by rfl) (by decide) (by rfl)) ?_
  obtain ⟨fI13, fd13, h13⟩ := show ∃ (fI : Addr) (fd : FuncData), E1 P w K mg base ad "NotJoined" "thing" fI fd from F ⟨"NotJoined", ["thing"]⟩ (List.mem_cons_of_mem _ (List.mem_cons_of_mem _ (List.mem_cons_of_mem _ (List.mem_cons_of_mem _ (List.mem_cons_of_mem _ (List.mem_cons_of_mem _ (List.mem_cons_of_mem _ (List.mem_cons_of_mem _ (List.mem_cons_of_mem _ (List.mem_cons_of_mem _ (List.mem_cons_of_mem _ (List.mem_cons_of_mem _ (List.mem_cons_of_mem _ List.mem_cons_self)))))))))))))
  refine .cons (does1 M h13 (by rfl) rfl (by rfl) (by rfl)) ?_
  refine .cons (does0 M (show EZ _ _ _ _ from F ⟨"NotOver", []⟩ (List.mem_cons_of_mem _ (List.mem_cons_of_mem _ (List.mem_cons_of_mem _ (List.mem_cons_of_mem _ (List.mem_cons_of_mem _ (List.mem_cons_of_mem _ (List.mem_cons_of_mem _ (List.mem_cons_of_mem _ (List.mem_cons_of_mem _ (List.mem_cons_of_mem _ (List.mem_cons_of_mem _ (List.mem_cons_of_mem _ (List.mem_cons_of_mem _ (List.mem_cons_of_mem _ List.mem_cons_self))))))))))))))) (by rfl) rfl (by rfl) (by rfl)) ?_
  obtain ⟨fI15, fd15, h15⟩ := show ∃ (fI : Addr) (fd : FuncData), E1 P w K mg base ad "NotStrong" "thing" fI fd from F ⟨"NotStrong", ["thing"]⟩ (List.mem_cons_of_mem _ (List.mem_cons_of_mem _ (List.mem_cons_of_mem _ (List.mem_cons_of_mem _ (List.mem_cons_of_mem _ (List.mem_cons_of_mem _ (List.mem_cons_of_mem _ (List.mem_cons_of_mem _ (List.mem_cons_of_mem _ (List.mem_cons_of_mem _ (List.mem_cons_of_mem _ (List.mem_cons_of_mem _ (List.mem_cons_of_mem _ (List.mem_cons_of_mem _ (List.mem_cons_of_mem _ List.mem_cons_self)))))))))))))))
  refine .cons (does1 M h15 (by rfl) rfl (by rfl) (by rfl)) ?_
  obtain ⟨fI16, fd16, h16⟩ := show ∃ (fI : Addr) (fd : FuncData), E1 P w K mg base ad "NotTwoWay" "thing" fI fd from F ⟨"NotTwoWay", ["thing"]⟩ (List.mem_cons_of_mem _ (List.mem_cons_of_mem _ (List.mem_cons_of_mem _ (List.mem_cons_of_mem _ (List.mem_cons_of_mem _ (List.mem_cons_of_mem _ (List.mem_cons_of_mem _ (List.mem_cons_of_mem _ (List.mem_cons_of_mem _ (List.mem_cons_of_mem _ (List.mem_cons_of_mem _ (List.mem_cons_of_mem _ (List.mem_cons_of_mem _ (List.mem_cons_of_mem _ (List.mem_cons_of_mem _ (List.mem_cons_of_mem _ List.mem_cons_self))))))))))))))))
  refine .cons (does1 M h16 (by rfl) rfl (by rfl) (by rfl)) ?_
  obtain ⟨fI17, fd17, h17⟩ := show ∃ (fI : Addr) (fd : FuncData), E1 P w K mg base ad "NotWatched" "thing" fI fd from F ⟨"NotWatched", ["thing"]⟩ (List.mem_cons_of_mem _ (List.mem_cons_of_mem _ (List.mem_cons_of_mem _ (List.mem_cons_of_mem _ (List.mem_cons_of_mem _ (List.mem_cons_of_mem _ (List.mem_cons_of_mem _ (List.mem_cons_of_mem _ (List.mem_cons_of_mem _ (List.mem_cons_of_mem _ (List.mem_cons_of_mem _ (List.mem_cons_of_mem _ (List.mem_cons_of_mem _ (List.mem_cons_of_mem _ (List.mem_cons_of_mem _ (List.mem_cons_of_mem _ (List.mem_cons_of_mem _ List.mem_cons_self)))))))))))))))))
  refine .cons (does1 M h17 (by rfl) rfl (by rfl) (by rfl)) ?_
  exact .nil
def jsD : List (List Str) := [["IsWatched", "LastPlace"], ["NoCount", "NoFit"], ["NoGate", "NoGroup"], ["NoMove", "NoNet"], ["NoPlace", "NoRoad"], ["NoState", "NoWord"], ["NotEven", "NotJoined"], ["NotOver", "NotStrong"], ["NotTwoWay", "NotWatched"]]
theorem jsD_eq : jsD.flatten = nsD := by decide +kernel
theorem doesk_d (M : KX (cxOf CX0 P w K mg base ["e", "found"] "_law_kinds_d" (defScope sKindsD) f cdv A outer s H E).nox) (G : ∀ n ∈ nsD, mg n = some (.ref (ad n))) : Paired (DoesK (cxOf CX0 P w K mg base ["e", "found"] "_law_kinds_d" (defScope sKindsD) f cdv A outer s H E).nox ad (Kit K ad)) stkD jsD := by
  refine .cons (doesK2 M (by rfl) (by rfl) (G "IsWatched" List.mem_cons_self) (G "LastPlace" (List.mem_cons_of_mem _ List.mem_cons_self)) rfl rfl (by rfl) (by rfl)) ?_
  refine .cons (doesK2 M (by rfl) (by rfl) (G "NoCount" (List.mem_cons_of_mem _ (List.mem_cons_of_mem _ List.mem_cons_self))) (G "NoFit" (List.mem_cons_of_mem _ (List.mem_cons_of_mem _ (List.mem_cons_of_mem _ List.mem_cons_self)))) rfl rfl (by rfl) (by rfl)) ?_
  refine .cons (doesK2 M (by rfl) (by rfl) (G "NoGate" (List.mem_cons_of_mem _ (List.mem_cons_of_mem _ (List.mem_cons_of_mem _ (List.mem_cons_of_mem _ List.mem_cons_self))))) (G "NoGroup" (List.mem_cons_of_mem _ (List.mem_cons_of_mem _ (List.mem_cons_of_mem _ (List.mem_cons_of_mem _ (List.mem_cons_of_mem _ List.mem_cons_self)))))) rfl rfl (by rfl) (by rfl)) ?_
  refine .cons (doesK2 M (by rfl) (by rfl) (G "NoMove" (List.mem_cons_of_mem _ (List.mem_cons_of_mem _ (List.mem_cons_of_mem _ (List.mem_cons_of_mem _ (List.mem_cons_of_mem _ (List.mem_cons_of_mem _ List.mem_cons_self))))))) (G "NoNet" (List.mem_cons_of_mem _ (List.mem_cons_of_mem _ (List.mem_cons_of_mem _ (List.mem_cons_of_mem _ (List.mem_cons_of_mem _ (List.mem_cons_of_mem _ (List.mem_cons_of_mem _ List.mem_cons_self)))))))) rfl rfl (by rfl) (by rfl)) ?_
  refine .cons (doesK2 M (by rfl) (by rfl) (G "NoPlace" (List.mem_cons_of_mem _ (List.mem_cons_of_mem _ (List.mem_cons_of_mem _ (List.mem_cons_of_mem _ (List.mem_cons_of_mem _ (List.mem_cons_of_mem _ (List.mem_cons_of_mem _ (List.mem_cons_of_mem _ List.mem_cons_self))))))))) (G "NoRoad" (List.mem_cons_of_mem _ (List.mem_cons_of_mem _ (List.mem_cons_of_mem _ (List.mem_cons_of_mem _ (List.mem_cons_of_mem _ (List.mem_cons_of_mem _ (List.mem_cons_of_mem _ (List.mem_cons_of_mem _ (List.mem_cons_of_mem _ List.mem_cons_self)))))))))) rfl rfl (by rfl) (by rfl)) ?_
  refine .cons (doesK2 M (by rfl) (by rfl) (G "NoState" (List.mem_cons_of_mem _ (List.mem_cons_of_mem _ (List.mem_cons_of_mem _ (List.mem_cons_of_mem _ (List.mem_cons_of_mem _ (List.mem_cons_of_mem _ (List.mem_cons_of_mem _ (List.mem_cons_of_mem _ (List.mem_cons_of_mem _ (List.mem_cons_of_mem _ List.mem_cons_self))))))))))) (G "NoWord" (List.mem_cons_of_mem _ (List.mem_cons_of_mem _ (List.mem_cons_of_mem _ (List.mem_cons_of_mem _ (List.mem_cons_of_mem _ (List.mem_cons_of_mem _ (List.mem_cons_of_mem _ (List.mem_cons_of_mem _ (List.mem_cons_of_mem _ (List.mem_cons_of_mem _ (List.mem_cons_of_mem _ List.mem_cons_self)))))))))))) rfl rfl (by rfl) (by rfl)) ?_
  refine .cons (doesK2 M (by rfl) (by rfl) (G "NotEven" (List.mem_cons_of_mem _ (List.mem_cons_of_mem _ (List.mem_cons_of_mem _ (List.mem_cons_of_mem _ (List.mem_cons_of_mem _ (List.mem_cons_of_mem _ (List.mem_cons_of_mem _ (List.mem_cons_of_mem _ (List.mem_cons_of_mem _ (List.mem_cons_of_mem _ (List.mem_cons_of_mem _ (List.mem_cons_of_mem _ List.mem_cons_self))))))))))))) (G "NotJoined" (List.mem_cons_of_mem _ (List.mem_cons_of_mem _ (List.mem_cons_of_mem _ (List.mem_cons_of_mem _ (List.mem_cons_of_mem _ (List.mem_cons_of_mem _ (List.mem_cons_of_mem _ (List.mem_cons_of_mem _ (List.mem_cons_of_mem _ (List.mem_cons_of_mem _ (List.mem_cons_of_mem _ (List.mem_cons_of_mem _ (List.mem_cons_of_mem _ List.mem_cons_self)))))))))))))) rfl rfl (by rfl) (by rfl)) ?_
  refine .cons (doesK2 M (by rfl) (by rfl) (G "NotOver" (List.mem_cons_of_mem _ (List.mem_cons_of_mem _ (List.mem_cons_of_mem _ (List.mem_cons_of_mem _ (List.mem_cons_of_mem _ (List.mem_cons_of_mem _ (List.mem_cons_of_mem _ (List.mem_cons_of_mem _ (List.mem_cons_of_mem _ (List.mem_cons_of_mem _ (List.mem_cons_of_mem _ (List.mem_cons_of_mem _ (List.mem_cons_of_mem _ (List.mem_cons_of_mem _ List.mem_cons_self))))))))))))))) (G "NotStrong" (List.mem_cons_of_mem _ (List.mem_cons_of_mem _ (List.mem_cons_of_mem _ (List.mem_cons_of_mem _ (List.mem_cons_of_mem _ (List.mem_cons_of_mem _ (List.mem_cons_of_mem _ (List.mem_cons_of_mem _ (List.mem_cons_of_mem _ (List.mem_cons_of_mem _ (List.mem_cons_of_mem _ (List.mem_cons_of_mem _ (List.mem_cons_of_mem _ (List.mem_cons_of_mem _ (List.mem_cons_of_mem _ List.mem_cons_self)))))))))))))))) rfl rfl (by rfl) (by rfl)) ?_
  refine .cons (doesK2 M (by rfl) (by rfl) (G "NotTwoWay" (List.mem_cons_of_mem _ (List.mem_cons_of_mem _ (List.mem_cons_of_mem _ (List.mem_cons_of_mem _ (List.mem_cons_of_mem _ (List.mem_cons_of_mem _ (List.mem_cons_of_mem _ (List.mem_cons_of_mem _ (List.mem_cons_of_mem _ (List.mem_cons_of_mem _ (List.mem_cons_of_mem _ (List.mem_cons_of_mem _ (List.mem_cons_of_mem _ (List.mem_cons_of_mem _ (List.mem_cons_of_mem _ (List.mem_cons_of_mem _ List.mem_cons_self))))))))))))))))) (G "NotWatched" (List.mem_cons_of_mem _ (List.mem_cons_of_mem _ (List.mem_cons_of_mem _ (List.mem_cons_of_mem _ (List.mem_cons_of_mem _ (List.mem_cons_of_mem _ (List.mem_cons_of_mem _ (List.mem_cons_of_mem _ (List.mem_cons_of_mem _ (List.mem_cons_of_mem _ (List.mem_cons_of_mem _ (List.mem_cons_of_mem _ (List.mem_cons_of_mem _ (List.mem_cons_of_mem _ (List.mem_cons_of_mem _ (List.mem_cons_of_mem _ (List.mem_cons_of_mem _ List.mem_cons_self)))))))))))))))))) rfl rfl (by rfl) (by rfl)) ?_
  exact .nil
theorem does_e (M : MX (cxOf CX0 P w K mg base ["x", "y", "z", "found"] "_law_made_e" (defScope sMadeE) f (.ref c) A outer s H E) T c Pt) (F : ∀ c ∈ clE, CF P w K mg base ad c) : Paired (Does (cxOf CX0 P w K mg base ["x", "y", "z", "found"] "_law_made_e" (defScope sMadeE) f (.ref c) A outer s H E) T ad) stsE clE := by
  refine .cons (does0 M (show EZ _ _ _ _ from F ⟨"NotWhole", []⟩ List.mem_cons_self) (by rfl) rfl (by rfl) (by rfl)) ?_
  obtain ⟨fI1, fd1, h1⟩ := show ∃ (fI : Addr) (fd : FuncData), E1 P w K mg base ad "OpenView" "thing" fI fd from F ⟨"OpenView", ["thing"]⟩ (List.mem_cons_of_mem _ List.mem_cons_self)
  refine .cons (does1 M h1 (by rfl) rfl (by rfl) (by rfl)) ?_
  obtain ⟨fI2, fd2, h2⟩ := show ∃ (fI : Addr) (fd : FuncData), E1 P w K mg base ad "SameDue" "thing" fI fd from F ⟨"SameDue", ["thing"]⟩ (List.mem_cons_of_mem _ (List.mem_cons_of_mem _ List.mem_cons_self))
  refine .cons (does1 M h2 (by rfl) rfl (by rfl) (by rfl)) ?_
  obtain ⟨fI3, fd3, h3⟩ := show ∃ (fI : Addr) (fd : FuncData), E1 P w K mg base ad "TakenName" "name" fI fd from F ⟨"TakenName", ["name"]⟩ (List.mem_cons_of_mem _ (List.mem_cons_of_mem _ (List.mem_cons_of_mem _ List.mem_cons_self)))
  refine .cons (does1 M h3 (by rfl) rfl (by rfl) (by rfl)) ?_
  refine .cons (does0 M (show EZ _ _ _ _ from F ⟨"ToldApart", []⟩ (List.mem_cons_of_mem _ (List.mem_cons_of_mem _ (List.mem_cons_of_mem _ (List.mem_cons_of_mem _ List.mem_cons_self))))) (by rfl) rfl (by rfl) (by rfl)) ?_
  refine .cons (does0 M (show EZ _ _ _ _ from F ⟨"UnlikeGates", []⟩ (List.mem_cons_of_mem _ (List.mem_cons_of_mem _ (List.mem_cons_of_mem _ (List.mem_cons_of_mem _ (List.mem_cons_of_mem _ List.mem_cons_self)))))) (by rfl) rfl (by rfl) (by rfl)) ?_
  obtain ⟨fI6, fd6, h6⟩ := show ∃ (fI : Addr) (fd : FuncData), E1 P w K mg base ad "WouldChange" "question" fI fd from F ⟨"WouldChange", ["question"]⟩ (List.mem_cons_of_mem _ (List.mem_cons_of_mem _ (List.mem_cons_of_mem _ (List.mem_cons_of_mem _ (List.mem_cons_of_mem _ (List.mem_cons_of_mem _ List.mem_cons_self))))))
  refine .cons (does1 M h6 (by rfl) rfl (by rfl) (by rfl)) ?_
  exact .nil
def jsE : List (List Str) := [["NotWhole", "OpenView"], ["SameDue", "TakenName"], ["ToldApart", "UnlikeGates"], ["WouldChange"]]
theorem jsE_eq : jsE.flatten = nsE := by decide +kernel
theorem doesk_e (M : KX (cxOf CX0 P w K mg base ["e", "found"] "_law_kinds_e" (defScope sKindsE) f cdv A outer s H E).nox) (G : ∀ n ∈ nsE, mg n = some (.ref (ad n))) : Paired (DoesK (cxOf CX0 P w K mg base ["e", "found"] "_law_kinds_e" (defScope sKindsE) f cdv A outer s H E).nox ad (Kit K ad)) stkE jsE := by
  refine .cons (doesK2 M (by rfl) (by rfl) (G "NotWhole" List.mem_cons_self) (G "OpenView" (List.mem_cons_of_mem _ List.mem_cons_self)) rfl rfl (by rfl) (by rfl)) ?_
  refine .cons (doesK2 M (by rfl) (by rfl) (G "SameDue" (List.mem_cons_of_mem _ (List.mem_cons_of_mem _ List.mem_cons_self))) (G "TakenName" (List.mem_cons_of_mem _ (List.mem_cons_of_mem _ (List.mem_cons_of_mem _ List.mem_cons_self)))) rfl rfl (by rfl) (by rfl)) ?_
  refine .cons (doesK2 M (by rfl) (by rfl) (G "ToldApart" (List.mem_cons_of_mem _ (List.mem_cons_of_mem _ (List.mem_cons_of_mem _ (List.mem_cons_of_mem _ List.mem_cons_self))))) (G "UnlikeGates" (List.mem_cons_of_mem _ (List.mem_cons_of_mem _ (List.mem_cons_of_mem _ (List.mem_cons_of_mem _ (List.mem_cons_of_mem _ List.mem_cons_self)))))) rfl rfl (by rfl) (by rfl)) ?_
  refine .cons (doesK1 M (by rfl) (G "WouldChange" (List.mem_cons_of_mem _ (List.mem_cons_of_mem _ (List.mem_cons_of_mem _ (List.mem_cons_of_mem _ (List.mem_cons_of_mem _ (List.mem_cons_of_mem _ List.mem_cons_self))))))) rfl (by rfl) (by rfl)) ?_
  exact .nil
end
end K0
set_option maxHeartbeats 4000000
namespace K0
open PySem PySem.Spec PyProof.Rows L2 LamX NdefX
/-! ### the law's own body, statement by statement -/
def NL : List Str := ["script", "stream", "some", "turn", "x", "y", "z", "made", "at", "mine", "twin", "field", "due", "held", "kept", "base"]
theorem scLaw : FnScope NL ["script"] (defScope sLaw) := ⟨rfl, rfl, rfl, by decide +kernel, rfl, by decide +kernel, by decide +kernel⟩
def lawSt (i : Nat) : Stmt := (defBody sLaw).getD i (.Pass ⟨0, 0, 0, 0⟩)
/-- what is new in H' -/
def fresh (H H' : Hp) : Hp := fun b => match H b with
  | none => H' b
  | some _ => none
theorem fresh_at {H H' : Hp} {a : Addr} {o : HO} (h : H a = none) (e : H' a = some o) : fresh H H' a = some o := by
  unfold fresh
  rw [h]
  exact e
theorem none_of {H H' : Hp} {a : Addr} (k : Same H H') (h : H' a = none) : H a = none := by
  cases e : H a with
  | none => rfl
  | some o =>
    rw [k _ _ e] at h
    cases h
mutual
theorem Rp.keepN {H H' : Hp} (k : ∀ b o, H b = some o → (∀ ps, o ≠ .tbl ps) → H' b = some o) : ∀ (d : PyData) (v : V), Rp H v d → Rp H' v d
  | .none, _, h => by cases h; exact .non
  | .bool _, _, h => by cases h; exact .bl _
  | .int _, _, h => by cases h; exact .int _
  | .str _, _, h => by cases h; exact .str _
  | .list ds, _, h => by
    cases h with
    | lst e hs => exact .lst (k _ _ e (by intro ps z; cases z)) (RpAll.keepN k ds _ hs)
  | .tuple ds, _, h => by
    cases h with
    | tup e hs => exact .tup (k _ _ e (by intro ps z; cases z)) (RpAll.keepN k ds _ hs)
  | .dict _, _, h => by
    cases h with
    | dict e => exact .dict (k _ _ e (by intro ps z; cases z))
theorem RpAll.keepN {H H' : Hp} (k : ∀ b o, H b = some o → (∀ ps, o ≠ .tbl ps) → H' b = some o) : ∀ (ds : List PyData) (vs : List V), RpAll H vs ds → RpAll H' vs ds
  | [], _, h => by cases h; exact .nil
  | d :: ds, _, h => by
    cases h with
    | cons h1 h2 => exact .cons (Rp.keepN k d _ h1) (RpAll.keepN k ds _ h2)
end
theorem RpAll.mem {H : Hp} : ∀ (ds : List PyData) (vs : List V), RpAll H vs ds → ∀ v ∈ vs, ∃ d ∈ ds, Rp H v d
  | [], _, h, v, hv => by
    cases h
    exact absurd hv List.not_mem_nil
  | d :: ds, _, h, v, hv => by
    cases h with
    | cons h1 h2 =>
      rcases List.mem_cons.mp hv with e | e
      · subst e
        exact ⟨d, List.mem_cons_self, h1⟩
      · obtain ⟨d', hd, r⟩ := RpAll.mem ds _ h2 v e
        exact ⟨d', List.mem_cons_of_mem _ hd, r⟩
section
variable {P : Program} {w : World} {K : PySem.W.Frag} {mg : Str → Option Value} {base : Heap} {f : Addr} {cdv : Value} {A : Around} {outer : List Env} {s : Shared} {H0 : Hp}
/-- some = [..]: fifteen things, all of them new -/
theorem st_some : ∃ t : TS, PS (cxOf CX0 P w K mg base NL "law" (defScope sLaw) f cdv A outer s H0 E0) (lawSt 1) t ∧ ∀ (D : Ends) (σ : L2.St) (H : Hp),
    (∀ (q : Addr) (gs : List V) (H' : Hp), H q = none → Same H H' → H' q = some (.lst gs) → gs.length = 15 → RpAll (fresh H H') gs goods → D.nx (σ.set 2 (some (.ref q))) H') → t D σ H := by
  refine ⟨_, ps_set (i := 2) scLaw.nd rfl (Or.inl rfl) (pe_lst (pa_cons pe_non (pa_cons pe_int (pa_cons (pe_un un_neg pe_int) (pa_cons pe_bl (pa_cons pe_str (pa_cons pe_str (pa_cons (pe_lst (pa_cons pe_int (pa_cons pe_str pa_nil)))
    (pa_cons (pe_tup (pa_cons pe_int (pa_cons pe_non pa_nil))) (pa_cons (pe_disp (pps_cons pe_str pe_int pps_nil) rfl rfl (by simp) (by decide)) (pa_cons (pe_lst (pa_cons (pe_lst (pa_cons pe_str pa_nil)) pa_nil)) (pa_cons (pe_op op_pow pe_int pe_int)
    (pa_cons (pe_tup (pa_cons pe_str (pa_cons pe_int pa_nil))) (pa_cons pe_bl (pa_cons pe_int (pa_cons pe_int pa_nil)))))))))))))))), ?_⟩
  intro D σ H k
  refine ⟨_, rfl, by show 2 ≤ sizeLine; decide, fun a6 h6 => ⟨by show 2 ≤ sizeLine; decide, fun a7 h7 => fun a8 h8 => ⟨upd_same, [(Sum.inr "a", V.int 1)], rfl, by decide, ?_⟩⟩⟩
  refine ⟨by show 1 ≤ sizeLine; decide, fun a9 h9 => ⟨by show 1 ≤ sizeLine; decide, fun a10 h10 => ⟨10, 30, rfl, rfl, ⟨by decide, by decide, by decide⟩, ⟨by show 2 ≤ sizeLine; decide, fun a11 h11 => ⟨by show 15 ≤ sizeLine; decide, fun q hq => ?_⟩⟩⟩⟩⟩
  have k6 := same_new (o := .lst [V.int 1, V.str "b"]) h6
  have k7 := same_new (o := .tup [V.int 2, V.non]) h7
  have k8 : Same _ (upd (upd _ a8 (.dK [])) a8 (.dK (mergeK [] [(Sum.inr "a", V.int 1)]))) := fun b o e => by
    rw [upd_ne (ne_of_none e h8), upd_ne (ne_of_none e h8)]
    exact e
  have k9 := same_new (o := .lst [V.str "x"]) h9
  have k10 := same_new (o := .lst [V.ref a9]) h10
  have k11 := same_new (o := .tup [V.str "s", V.int 3]) h11
  have kq := same_new (o := .lst [V.non, V.int 5, V.int (-1), V.bl true, V.str "a", V.str "", V.ref a6, V.ref a7, V.ref a8, V.ref a10, V.int (10 ^ (30 : Int).toNat), V.ref a11, V.bl false, V.int 0, V.int 1]) hq
  have n7 := none_of k6 h7
  have n8 := none_of (k6.trans k7) h8
  have n9 := none_of ((k6.trans k7).trans k8) h9
  have n10 := none_of (((k6.trans k7).trans k8).trans k9) h10
  have n11 := none_of ((((k6.trans k7).trans k8).trans k9).trans k10) h11
  have nq := none_of (((((k6.trans k7).trans k8).trans k9).trans k10).trans k11) hq
  have l10 := k11.trans kq
  have l9 := k10.trans l10
  have l8 := k9.trans l9
  have l7 := k8.trans l8
  have l6 := k7.trans l7
  refine k q _ _ nq (k6.trans l6) upd_same rfl ?_
  have f6 := fresh_at h6 (l6 _ _ upd_same)
  have f7 := fresh_at n7 (l7 _ _ upd_same)
  have f8 := fresh_at n8 (l8 _ _ upd_same)
  have f9 := fresh_at n9 (l9 _ _ upd_same)
  have f10 := fresh_at n10 (l10 _ _ upd_same)
  have f11 := fresh_at n11 (kq _ _ upd_same)
  exact .cons .non (.cons (.int _) (.cons (.int _) (.cons (.bl _) (.cons (.str _) (.cons (.str _) (.cons (.lst f6 (.cons (.int _) (.cons (.str _) .nil))) (.cons (.tup f7 (.cons (.int _) (.cons .non .nil))) (.cons (.dict f8)
    (.cons (.lst f10 (.cons (.lst f9 (.cons (.str _) .nil)) .nil)) (.cons (.int _) (.cons (.tup f11 (.cons (.str _) (.cons (.int _) .nil))) (.cons (.bl _) (.cons (.int _) (.cons (.int _) .nil))))))))))))))
end
end K0
set_option maxHeartbeats 4000000
namespace K0
open PySem PySem.Spec PyProof.Rows L2 LamX NdefX
/-! ### the loop of the law -/
def CallF (P : Program) (w : World) (K : PySem.W.Frag) (mg : Str → Option Value) (base : Heap) (k : Nat) (nm : Str) (ps : List Str) (sp : Sp) : Prop :=
  ∃ (f : Addr) (fd : FuncData), FnOk P w K mg base CX0 k f fd ps sp ∧ mg nm = some (.ref f) ∧ PySem.W.keepIn K (.ref f) = true ∧ L2.Binds K fd ps []
def CallG (P : Program) (w : World) (K : PySem.W.Frag) (mg : Str → Option Value) (base : Heap) (k : Nat) (nm : Str) (ps : List Str) (sp : Sp) : Prop :=
  ∃ (f : Addr) (fd : FuncData), FnG P w K mg base k f fd ps sp ∧ mg nm = some (.ref f) ∧ PySem.W.keepIn K (.ref f) = true ∧ L2.Binds K fd ps []
/-- all that the law's own body leans on -/
structure LF (P : Program) (w : World) (K : PySem.W.Frag) (mg : Str → Option Value) (base : Heap) (ad : Str → Addr) (T : List (Addr × Str)) : Prop where
  B : Bl mg
  start : CallF P w K mg base 1 "_law_start" ["script"] (spStart K)
  mixed : CallF P w K mg base 2 "_law_mixed" ["stream", "some"] spMixed
  mA : CallF P w K mg base 3 "_law_made_a" ["x", "y", "z"] (spMade P w K mg base ad T clA)
  mB : CallF P w K mg base 3 "_law_made_b" ["x", "y", "z"] (spMade P w K mg base ad T clB)
  mC : CallF P w K mg base 3 "_law_made_c" ["x", "y", "z"] (spMade P w K mg base ad T clC)
  mD : CallF P w K mg base 3 "_law_made_d" ["x", "y", "z"] (spMade P w K mg base ad T clD)
  mE : CallF P w K mg base 3 "_law_made_e" ["x", "y", "z"] (spMade P w K mg base ad T clE)
  own : CallF P w K mg base 3 "_law_is_own" ["e", "at"] (spOwn K ad)
  kinds : CallF P w K mg base 2 "_law_kinds" ["e"] (spKinds K ad NS)
  these : CallG P w K mg base 1 "_law_are_these" ["found", "due"] spThese
  cl : ∀ c ∈ CL, CF P w K mg base ad c ∧ Own K ad c.nm ∧ ExcC K (ad c.nm)
/-! heaps -/
def rest (p l : Addr) (H : Hp) : Hp := fun b => if b = p ∨ b = l then none else H b
theorem rest_of {p l b : Addr} {H : Hp} {o : HO} (h : rest p l H b = some o) : H b = some o ∧ b ≠ p ∧ b ≠ l := by
  unfold rest at h
  split at h
  · cases h
  · rename_i n
    exact ⟨h, fun e => n (.inl e), fun e => n (.inr e)⟩
theorem rest_at {p l b : Addr} {H : Hp} {o : HO} (h : H b = some o) (n1 : b ≠ p) (n2 : b ≠ l) : rest p l H b = some o := by
  unfold rest
  rw [if_neg (fun z => z.elim n1 n2)]
  exact h
/-- all but the stream and the tables stay -/
def KeepL (p l : Addr) (H H' : Hp) : Prop := ∀ b o, H b = some o → b ≠ p → b ≠ l → (∀ ps, o ≠ .tbl ps) → H' b = some o
theorem KeepL.trans {p l : Addr} {H H1 H2 : Hp} (a : KeepL p l H H1) (b : KeepL p l H1 H2) : KeepL p l H H2 := fun c o e n1 n2 n3 => b c o (a c o e n1 n2 n3) n1 n2 n3
theorem KeepL.of2 {p l : Addr} {H H' : Hp} (k : Keep2 p l H H') : KeepL p l H H' := fun b o e n1 n2 _ => k b o e n1 n2
theorem KeepL.ofN {p l : Addr} {H H' : Hp} (k : ExtN H H') : KeepL p l H H' := fun b o e _ _ n => k b o e n
theorem KeepL.ofS {p l : Addr} {H H' : Hp} (k : Same H H') : KeepL p l H H' := fun b o e _ _ _ => k b o e
theorem KeepL.rp {p l : Addr} {H H' : Hp} (k : KeepL p l H H') {ds : List PyData} {vs : List V} (h : RpAll (rest p l H) vs ds) : RpAll (rest p l H') vs ds :=
  RpAll.keepN (fun b o e n => let ⟨e1, n1, n2⟩ := rest_of e; rest_at (k b o e1 n1 n2 n) n1 n2) ds vs h
theorem StreamAt.keepN {H H' : Hp} {p l : Addr} {N : Int} (s : StreamAt H p l N) (k : ExtN H H') : StreamAt H' p l N := by
  obtain ⟨⟨ns, a, b, c, h1, h2, h3⟩, ne⟩ := s
  exact ⟨⟨ns, a, b, c, k _ _ h1 (by intro ps z; cases z), k _ _ h2 (by intro ps z; cases z), h3⟩, ne⟩
theorem tabs_keep2 {T : List (Addr × Str)} {H H' : Hp} {p l : Addr} {N : Int} (t : Tabs T H) (s : StreamAt H p l N) (k : Keep2 p l H H') : Tabs T H' := fun q hq => by
  obtain ⟨⟨ns, a, b, c, g1, g2, _⟩, _⟩ := s
  obtain ⟨ps, h1, h2, h3⟩ := t q hq
  refine ⟨ps, k _ _ h1 (ne_of h1 g1 (by intro z; cases z)) (ne_of h1 g2 (by intro z; cases z)), h2, fun pos cv hc => ?_⟩
  obtain ⟨c2, e1, e2⟩ := h3 pos cv hc
  exact ⟨c2, e1, k _ _ e2 (ne_of e2 g1 codeO_lst) (ne_of e2 g2 codeO_lst)⟩
section
variable {P : Program} {w : World} {K : PySem.W.Frag} {mg : Str → Option Value} {base : Heap} {ad : Str → Addr} {T : List (Addr × Str)}
theorem Items.ne {H : Hp} {cs : List Cl} {tds : List (Addr × Addr)} {x y : V} {q : Addr} (h : Items P w K mg base ad H cs tds x y) (hq : H q = none) : ∀ p ∈ tds, p.2 ≠ q := by
  induction h with
  | nil => intro p hp; exact absurd hp List.not_mem_nil
  | cons r _ ih =>
    intro p hp
    rcases List.mem_cons.mp hp with e | e
    · subst e
      obtain ⟨m, n, f, c', L, _, _, _, _, _, _, h7⟩ := r.ex
      exact ne_of_none h7 hq
    · exact ih p e
theorem Items.at {H : Hp} {cs : List Cl} {tds : List (Addr × Addr)} {x y : V} (h : Items P w K mg base ad H cs tds x y) : ∀ (i : Nat) (p : Addr × Addr), tds[i]? = some p → ∃ c, cs[i]? = some c ∧ Item P w K mg base ad H c x y p.1 p.2 := by
  induction h with
  | nil => intro i p e; simp at e
  | cons r _ ih =>
    intro i p e
    cases i with
    | zero =>
      rw [List.getElem?_cons_zero] at e
      obtain rfl := Option.some.inj e
      exact ⟨_, rfl, r⟩
    | succ i =>
      rw [List.getElem?_cons_succ] at e
      obtain ⟨c, e1, e2⟩ := ih i p e
      exact ⟨c, by rw [List.getElem?_cons_succ]; exact e1, e2⟩
theorem vals_rp {H : Hp} {c : Cl} {x y : V} {dx dy : PyData} (rx : Rp H x dx) (ry : Rp H y dy) (gx : dx ∈ goods) (gy : dy ∈ goods) : ∃ ds, RpAll H (vals c x y) ds ∧ (∀ d ∈ ds, d ∈ goods) ∧ ds.length ≤ 2 := by
  obtain ⟨n, fl⟩ := c
  match fl with
  | [] => exact ⟨[], .nil, fun d h => absurd h List.not_mem_nil, Nat.zero_le _⟩
  | [_] => exact ⟨[dx], .cons rx .nil, fun d h => by rw [List.mem_singleton.mp h]; exact gx, Nat.le_of_ble_eq_true rfl⟩
  | _ :: _ :: _ =>
    refine ⟨[dx, dy], .cons rx (.cons ry .nil), fun d h => ?_, Nat.le_of_ble_eq_true rfl⟩
    rcases List.mem_cons.mp h with e | e
    · rw [e]; exact gx
    · rw [List.mem_singleton.mp e]; exact gy
theorem StreamAt.to {H H' : Hp} {p l : Addr} {N M : Int} (s : StreamAt H p l N) (kp : ∀ o, H p = some o → H' p = some o) (kl : ∀ o, H l = some o → H' l = some o) (h : N = M) : StreamAt H' p l M := by
  subst h
  obtain ⟨⟨ns, a, b, c, h1, h2, h3⟩, ne⟩ := s
  exact ⟨⟨ns, a, b, c, kp _ h1, kl _ h2, h3⟩, ne⟩
theorem vals_two (c : Cl) (x y : V) : (vals c x y).length ≤ 2 := by
  obtain ⟨n, fl⟩ := c
  match fl with
  | [] => exact Nat.zero_le _
  | [_] => exact Nat.le_of_ble_eq_true rfl
  | _ :: _ :: _ => exact Nat.le_of_ble_eq_true rfl
theorem Items.neL {H : Hp} {cs : List Cl} {tds : List (Addr × Addr)} {x y : V} {q : Addr} {zs : List V} (h : Items P w K mg base ad H cs tds x y) (hq : H q = some (.lst zs)) (hz : 2 < zs.length) : ∀ p ∈ tds, p.2 ≠ q := by
  induction h with
  | nil => intro p hp; exact absurd hp List.not_mem_nil
  | @cons c _ _ _ r _ ih =>
    intro p hp
    rcases List.mem_cons.mp hp with e | e
    · subst e
      obtain ⟨m, n, f, c', L, _, _, _, _, _, _, h7⟩ := r.ex
      intro z
      rw [z, hq] at h7
      injection h7 with h8
      injection h8 with h9
      have := vals_two c x y
      rw [← h9] at this
      omega
    · exact ih p e
theorem cut3 {ys : List V} (h : ys.length = 15) : ∃ y0 y1 y2, y0 ∈ ys ∧ y1 ∈ ys ∧ cutV ys none (some 3) = [y0, y1, y2] := by
  match ys, h with
  | y0 :: y1 :: y2 :: t, h =>
    refine ⟨y0, y1, y2, List.mem_cons_self, List.mem_cons_of_mem _ List.mem_cons_self, ?_⟩
    unfold cutV
    rw [h]
    rfl
theorem CF.len {c : Cl} (h : CF P w K mg base ad c) : c.fl.length ≤ 2 := by
  obtain ⟨n, fl⟩ := c
  match fl, h with
  | [], _ => exact Nat.zero_le _
  | [_], _ => exact Nat.le_of_ble_eq_true rfl
  | [_, _], _ => exact Nat.le_of_ble_eq_true rfl
  | _ :: _ :: _ :: _, h => exact False.elim h
theorem len5 : clA.length = 18 ∧ clB.length = 18 ∧ clC.length = 18 ∧ clD.length = 18 ∧ clE.length = 7 := by decide +kernel
theorem cl_at {i : Nat} {c : Cl} (h : CL[i]? = some c) : NS[i]? = some c.nm := by
  rw [← cl_names, List.getElem?_map, h]
  rfl
end
section
variable {P : Program} {w : World} {K : PySem.W.Frag} {mg : Str → Option Value} {base : Heap} {ad : Str → Addr} {T : List (Addr × Str)} {f : Addr} {cdv : Value} {A : Around} {outer : List Env} {s : Shared} {H0 : Hp}
theorem st_for (F : LF P w K mg base ad T) (hgd : (A.deeper (envOfC "law" (defScope sLaw) s.heap.objs.size f cdv)).guards = some []) (hr : Room 3 (A.deeper (envOfC "law" (defScope sLaw) s.heap.objs.size f cdv))) : ∃ t : TS, PS (cxOf CX0 P w K mg base NL "law" (defScope sLaw) f cdv A outer s H0 E0) (lawSt 2) t ∧
    ∀ (D : Ends) (a p l q : Addr) (gs : List V) (H : Hp), StreamAt H p l 0 → H q = some (.lst gs) → q ≠ p → q ≠ l → gs.length = 15 → RpAll (rest p l H) gs goods → Tabs T H →
    (∀ (σ : L2.St) (H' : Hp), (∃ x1 x2 x3 x4 x5 x6 x7 x8 x9 x10 x11 x12, σ = [some (.ref a), x1, x2, x3, x4, x5, x6, x7, x8, x9, x10, x11, x12, none, none, none]) → D.nx σ H') →
    t D [some (.ref a), some (.ref p), some (.ref q), none, none, none, none, none, none, none, none, none, none, none, none, none] H := by
  obtain ⟨fM, dM, oM, gM, kM, bM⟩ := F.mixed
  obtain ⟨fA, dA, oA, gA, kA, bA⟩ := F.mA
  obtain ⟨fB, dB, oB, gB, kB, bB⟩ := F.mB
  obtain ⟨fC, dC, oC, gC, kC, bC⟩ := F.mC
  obtain ⟨fD, dD, oD, gD, kD, bD⟩ := F.mD
  obtain ⟨fE, dE, oE, gE, kE, bE⟩ := F.mE
  obtain ⟨fO, dO, oO, gO, kO, bO⟩ := F.own
  obtain ⟨fT, dT, oT, gT, kT, bT⟩ := F.these
  have mm := hr.mono (j := 2) (by decide)
  have m1 := hr.mono (j := 1) (by decide)
  refine ⟨_, ps_for (passes_of rfl) rfl (pi_range1 (by rfl) F.B.range (pa_cons pe_int pa_nil)) (pg_name (i := 3) scLaw.nd rfl (Or.inl rfl))
    (pss_cons (ps_asg (pe_slice sl_list (pe_call oM mm (by rfl) gM kM bM .nil pass0 (pa_cons (pv 1) (pa_cons (pv 2) pa_nil))) po_none (po_some pe_int)) (pg_lst rfl (pgs_cons (pg_name (i := 4) scLaw.nd rfl (Or.inl rfl)) (pgs_cons (pg_name (i := 5) scLaw.nd rfl (Or.inl rfl)) (pgs_cons (pg_name (i := 6) scLaw.nd rfl (Or.inl rfl)) pgs_nil)))))
    (pss_cons (ps_set (i := 7) scLaw.nd rfl (Or.inl rfl) (pe_op op_cat (pe_op op_cat (pe_call oA hr (by rfl) gA kA bA .nil pass0 (pa_cons (pv 4) (pa_cons (pv 5) (pa_cons (pv 6) pa_nil)))) (pe_call oB hr (by rfl) gB kB bB .nil pass0 (pa_cons (pv 4) (pa_cons (pv 5) (pa_cons (pv 6) pa_nil)))))
      (pe_call oC hr (by rfl) gC kC bC .nil pass0 (pa_cons (pv 4) (pa_cons (pv 5) (pa_cons (pv 6) pa_nil))))))
    (pss_cons (ps_expr (pe_bm PySem.F.plainAttrs_list PySem.F.slot_list_extend PySem.F.type_list_extend mt_extend (pv 7) (pa_cons (pe_op op_cat (pe_call oD hr (by rfl) gD kD bD .nil pass0 (pa_cons (pv 4) (pa_cons (pv 5) (pa_cons (pv 6) pa_nil)))) (pe_call oE hr (by rfl) gE kE bE .nil pass0 (pa_cons (pv 4) (pa_cons (pv 5) (pa_cons (pv 6) pa_nil))))) pa_nil)))
    (pss_one (ps_for (passes_of rfl) rfl (pi_enum (by rfl) F.B.enumerate (pa_cons (pv 7) pa_nil)) (pg_tup rfl (pgs_cons (pg_name (i := 8) scLaw.nd rfl (Or.inl rfl)) (pgs_cons (pg_tup rfl (pgs_cons (pg_name (i := 9) scLaw.nd rfl (Or.inl rfl)) (pgs_cons (pg_name (i := 10) scLaw.nd rfl (Or.inl rfl)) (pgs_cons (pg_name (i := 11) scLaw.nd rfl (Or.inl rfl)) (pgs_cons (pg_name (i := 12) scLaw.nd rfl (Or.inl rfl)) pgs_nil))))) pgs_nil)))
      (pss_cons (ps_if (PW.pt (pw_or (pt_not (pt_val (pe_call oO hr (by rfl) gO kO bO .nil pass0 (pa_cons (pv 9) (pa_cons (pv 8) pa_nil))))) (pw_or1 (pt_not (pt_val (pe_call oO hr (by rfl) gO kO bO .nil pass0 (pa_cons (pv 10) (pa_cons (pv 8) pa_nil)))))))) (pss_one (ps_ret pe_bl)) pss_nil)
      (pss_one (ps_if (PW.pt (pw_or (pt_not (pt_val (pe_callG oT hgd m1 (by rfl) gT kT bT (pa_cons (pe_lamC (i := 11) m1 rfl (Or.inl rfl) (pa_cons (pv 9) pa_nil)) (pa_cons (pv 12) pa_nil))))) (pw_or1 (pt_not (pt_val (pe_callG oT hgd m1 (by rfl) gT kT bT (pa_cons (pe_lamC (i := 11) m1 rfl (Or.inl rfl) (pa_cons (pv 10) pa_nil)) (pa_cons (pv 12) pa_nil)))))))) (pss_one (ps_ret pe_bl)) pss_nil)))))))), ?_⟩
  intro D a p l q gs H hs hq nqp nql hg hR hT k
  refine ⟨2, rfl, by decide, by decide, ?_⟩
  refine for_range (fun i σ H1 => (∃ x3 x4 x5 x6 x7 x8 x9 x10 x11 x12, σ = [some (.ref a), some (.ref p), some (.ref q), x3, x4, x5, x6, x7, x8, x9, x10, x11, x12, none, none, none]) ∧ StreamAt H1 p l (15 * i) ∧ H1 q = some (.lst gs) ∧ RpAll (rest p l H1) gs goods ∧ Tabs T H1)
    ⟨⟨_, _, _, _, _, _, _, _, _, _, rfl⟩, (by simpa using hs), hq, hR, hT⟩ ?_ ?_
  · rintro i σ H1 hi ⟨⟨x3, x4, x5, x6, x7, x8, x9, x10, x11, x12, rfl⟩, hs1, hq1, hR1, hT1⟩
    refine ⟨_, rfl, _, rfl, p, l, q, 15 * (i : Int), gs, rfl, by omega, by omega, (by omega), hq1, hs1, fun r ys H2 hr0 hr1 ly my hs2 k2 => ?_⟩
    obtain ⟨x, y, z, mx, my', hcut⟩ := cut3 (ys := ys) (by omega)
    have hx := my x mx
    have hy := my y my'
    refine ⟨3, rfl, r, ys, rfl, SqL.of hr1, fun c hc => ?_⟩
    rw [hcut]
    refine ⟨c, _, rfl, SqL.of upd_same, rfl, _, _, rfl, _, _, rfl, _, _, rfl, rfl, ?_⟩
    have k3 := same_new (o := .lst [x, y, z]) hc
    have s3 := hs2.keep k3 (Int.le_refl _)
    have T3 := (tabs_keep2 hT1 hs1 k2).ext k3
    have K3 : KeepL p l H1 _ := (KeepL.of2 k2).trans (KeepL.ofS k3)
    refine ⟨_, rfl, _, rfl, _, rfl, x, y, z, rfl, T3, fun qa tA Ha na eA TA la da IA => ?_⟩
    refine ⟨_, rfl, _, rfl, _, rfl, x, y, z, rfl, TA, fun qb tB Hb nb eB TB lb db IB => ?_⟩
    obtain ⟨l1, l2, l3, l4, l5⟩ := len5
    have zA := IA.len
    have zB := IB.len
    refine ⟨qa, qb, _, _, rfl, rfl, eB _ _ la (by intro ps z; cases z), lb, by rw [List.length_map, List.length_map, sizeLine_eq]; omega, fun q1 n1 => ?_⟩
    have k4 := same_new (o := .lst (tA.map (fun p => V.ref p.1) ++ tB.map fun p => V.ref p.1)) n1
    refine ⟨_, rfl, _, rfl, _, rfl, x, y, z, rfl, TB.ext k4, fun qc tC Hc nc eC TC lc dc IC => ?_⟩
    have zC := IC.len
    refine ⟨q1, qc, _, _, rfl, rfl, eC _ _ upd_same (by intro ps z; cases z), lc, by rw [List.length_append, List.length_map, List.length_map, List.length_map, sizeLine_eq]; omega, fun q2 n2 => ?_⟩
    have k5 := same_new (o := .lst (tA.map (fun p => V.ref p.1) ++ tB.map (fun p => V.ref p.1) ++ tC.map fun p => V.ref p.1)) n2
    refine ⟨_, rfl, .inl ⟨rfl, _, SqL.of upd_same⟩, ?_⟩
    refine ⟨_, rfl, _, rfl, _, rfl, x, y, z, rfl, TC.ext k5, fun qd tD Hd nd eD TD ld dd ID => ?_⟩
    refine ⟨_, rfl, _, rfl, _, rfl, x, y, z, rfl, TD, fun qe tE He ne eE TE le de IE => ?_⟩
    have zD := ID.len
    have zE := IE.len
    refine ⟨qd, qe, _, _, rfl, rfl, eE _ _ ld (by intro ps z; cases z), le, by rw [List.length_map, List.length_map, sizeLine_eq]; omega, fun q3 n3 => ?_⟩
    have k6 := same_new (o := .lst (tD.map (fun p => V.ref p.1) ++ tE.map fun p => V.ref p.1)) n3
    have h62 := k6 _ _ (eE _ _ (eD _ _ upd_same (by intro ps z; cases z)) (by intro ps z; cases z))
    refine ⟨q2, q3, _, _, rfl, rfl, h62, upd_same, by simp only [List.length_append, List.length_map]; rw [sizeLine_eq]; omega, ?_⟩
    have e45 := (extN_same k4).trans eC
    have e56 := ((extN_same k5).trans eD).trans (eE.trans (extN_same k6))
    have I6 := ((((((IA.keepN eB).app IB).keepN e45).app IC).keepN e56).app (((ID.keepN eE).app IE).keepN (extN_same k6)))
    rw [show clA ++ clB ++ clC ++ (clD ++ clE) = CL from by simp [CL]] at I6
    have emap : tA.map (fun p => V.ref p.1) ++ tB.map (fun p => V.ref p.1) ++ tC.map (fun p => V.ref p.1) ++ (tD.map (fun p => V.ref p.1) ++ tE.map fun p => V.ref p.1) = (tA ++ tB ++ tC ++ (tD ++ tE)).map fun p => V.ref p.1 := by simp
    rw [emap]
    have hlen2 : 2 < (tA.map (fun p => V.ref p.1) ++ tB.map (fun p => V.ref p.1) ++ tC.map fun p => V.ref p.1).length := by simp only [List.length_append, List.length_map]; omega
    have I7 := I6.keepB h62 (keepB_upd (ys := (tA ++ tB ++ tC ++ (tD ++ tE)).map fun p => V.ref p.1)) (I6.neL h62 hlen2)
    have K5 : KeepL p l H1 Hc := ((K3.trans (KeepL.ofN eA)).trans (KeepL.ofN eB)).trans (KeepL.ofN e45)
    have K6 := K5.trans (KeepL.ofN e56)
    have s5 := ((s3.keepN eA).keepN eB).keepN e45
    have s6 := s5.keepN e56
    have T6 := TE.ext k6
    have np2 : p ≠ q2 := by
      obtain ⟨o, e⟩ := s5.p
      exact ne_of_none e n2
    have nl2 : l ≠ q2 := by
      obtain ⟨o, e⟩ := s5.l
      exact ne_of_none e n2
    generalize (tA ++ tB ++ tC ++ (tD ++ tE)) = tds at I7 ⊢
    have K7 : KeepL p l H1 (upd (upd He q3 (.lst (tD.map (fun p => V.ref p.1) ++ tE.map fun p => V.ref p.1))) q2 (.lst (tds.map fun p => V.ref p.1))) := fun b o e m1 m2 m3 => by
      rw [upd_ne (ne_of_none (K5 b o e m1 m2 m3) n2)]
      exact K6 b o e m1 m2 m3
    have s7 := s6.to (H' := upd (upd He q3 (.lst (tD.map (fun p => V.ref p.1) ++ tE.map fun p => V.ref p.1))) q2 (.lst (tds.map fun p => V.ref p.1))) (M := 15 * ((i + 1 : Nat) : Int)) (fun o e => by rw [upd_ne np2]; exact e) (fun o e => by rw [upd_ne nl2]; exact e) (by rw [hg]; omega)
    have T7 := tabs_upd (ys := tds.map fun p => V.ref p.1) T6 h62
    have h72 : upd (upd He q3 (.lst (tD.map (fun p => V.ref p.1) ++ tE.map fun p => V.ref p.1))) q2 (.lst (tds.map fun p => V.ref p.1)) q2 = some (.lst (tds.map fun p => V.ref p.1)) := upd_same
    generalize upd (upd He q3 (.lst (tD.map (fun p => V.ref p.1) ++ tE.map fun p => V.ref p.1))) q2 (.lst (tds.map fun p => V.ref p.1)) = H7 at I7 K7 s7 T7 h72 ⊢
    have q7 := K7 _ _ hq1 nqp nql (by intro ps z; cases z)
    have R7 := K7.rp hR1
    obtain ⟨dx, gx, rx⟩ := RpAll.mem goods gs R7 x hx
    obtain ⟨dy, gy, ry⟩ := RpAll.mem goods gs R7 y hy
    have rx7 := Rp.keep (H' := H7) (fun b o e => (rest_of e).1) dx x rx
    have ry7 := Rp.keep (H' := H7) (fun b o e => (rest_of e).1) dy y ry
    refine ⟨_, rfl, q2, _, rfl, SqL.of h72, ?_⟩
    refine for_it (walk_enum (xs := tds.map fun p => V.ref p.1)) (fun j σ H8 => (∃ y3 y8 y9 y10 y11 y12, σ = [some (.ref a), some (.ref p), some (.ref q), y3, some x, some y, some z, some (.ref q2), y8, y9, y10, y11, y12, none, none, none]) ∧ Same H7 H8)
      ⟨⟨_, _, _, _, _, _, rfl⟩, fun b o e => e⟩ (fun j σ H8 _ h => SqL.of (h.2 _ _ h72)) ?_ ?_
    · rintro j v σ H8 H9 hj ⟨⟨y3, y8, y9, y10, y11, y12, rfl⟩, kS⟩ ⟨T', x', y', rfl, hT', rfl, ex, ey⟩
      obtain rfl := Option.some.inj ex
      have ey : (tds.map fun p => V.ref p.1)[j]? = some y' := ey
      rw [List.getElem?_map] at ey
      obtain ⟨td, etd, rfl⟩ := Option.map_eq_some_iff.mp ey
      obtain ⟨c1, ec, it⟩ := I7.at j td etd
      obtain ⟨m, n, f', c', L, i1, i2, i3, i4, i5, i6, i7⟩ := it.ex
      obtain ⟨_, O, X⟩ := F.cl c1 (List.mem_of_getElem? ec)
      have kS9 := kS.trans (same_new (o := .tup [V.int (j : Nat), V.ref td.1]) hT')
      refine ⟨T', _, rfl, SqT.of upd_same, rfl, _, _, rfl, _, _, rfl, ⟨td.1, _, rfl, SqT.of (kS9 _ _ i1), rfl, _, _, rfl, _, _, rfl, _, _, rfl, _, _, rfl, rfl, rfl, ?_⟩⟩
      have eM := (ExAt.isE i2 X).keep kS9
      have eN := (ExAt.isE i3 X).keep kS9
      refine ⟨_, rfl, _, rfl, m, c1.nm, j, rfl, cl_at ec, eM, O, fun Ha1 kA1 => ⟨true, rfl, ?_⟩⟩
      refine ⟨_, rfl, _, rfl, n, c1.nm, j, rfl, cl_at ec, eN.keep kA1, O, fun Hb1 kB1 => ⟨true, rfl, ?_⟩⟩
      have kS10 := kS9.trans (kA1.trans kB1)
      obtain ⟨ds, rd, gd, ld2⟩ := vals_rp (c := c1) rx7 ry7 gx gy
      have vl : (vals c1 x y).length = c1.fl.length := vals_len ((F.cl c1 (List.mem_of_getElem? ec)).1.len)
      refine ⟨f', c', L, 1, spLam (ad c1.nm) c1.fl, rfl, kS10 _ _ i4, i6, _, rfl, kS10 _ _ i4, kS10 _ _ i5, m, vals c1 x y, rfl, vl, i2.keep kS10, fun pz hz => ?_⟩
      have kS11 := kS10.trans (same_new (o := .lst (vals c1 x y)) hz)
      refine ⟨_, rfl, pz, td.2, vals c1 x y, ds, rfl, upd_same, kS11 _ _ i7, RpAll.keep kS11 ds _ rd, gd, ld2, true, rfl, ?_⟩
      refine ⟨f', c', L, 1, spLam (ad c1.nm) c1.fl, rfl, kS11 _ _ i4, i6, _, rfl, kS11 _ _ i4, kS11 _ _ i5, n, vals c1 x y, rfl, vl, i3.keep kS11, fun pw hw => ?_⟩
      have kS12 := kS11.trans (same_new (o := .lst (vals c1 x y)) hw)
      refine ⟨_, rfl, pw, td.2, vals c1 x y, ds, rfl, upd_same, kS12 _ _ i7, RpAll.keep kS12 ds _ rd, gd, ld2, true, rfl, ?_⟩
      exact ⟨⟨_, _, _, _, _, _, rfl⟩, kS12⟩
    · rintro σ H8 ⟨⟨y3, y8, y9, y10, y11, y12, rfl⟩, kS⟩
      refine ⟨⟨_, _, _, _, _, _, _, _, _, _, rfl⟩, ?_, kS _ _ q7, (KeepL.ofS kS).rp R7, T7.ext kS⟩
      exact s7.keep kS (Int.le_refl _)
  · rintro σ H1 ⟨⟨x3, x4, x5, x6, x7, x8, x9, x10, x11, x12, rfl⟩, _⟩
    exact k _ H1 ⟨_, _, _, _, _, _, _, _, _, _, _, _, rfl⟩
end
end K0
set_option maxHeartbeats 4000000
namespace K0
open PySem PySem.Spec PyProof.Rows L2 LamX NdefX
/-! ### the rest of the law's body -/
def vw : PyData := .list [.str "v", .str "w"]
def vw4 : PyData := .list [vw, vw, vw, vw]
theorem vw4_eq : PyData.eqv vw4 vw4 = true := by decide +kernel
theorem vw4_shaped : SeqAt.shaped vw4 = true := by decide +kernel
theorem ans_net : (ans "NetError" NS).all flatV = true ∧ inV (.bl true) (ans "NetError" NS) = false := by decide +kernel
theorem cl_BadSigns : (⟨"BadSigns", ["index"]⟩ : Cl) ∈ CL := List.mem_of_getElem? (i := 38) rfl
theorem cl_NoPlace : (⟨"NoPlace", ["thing"]⟩ : Cl) ∈ CL := List.mem_of_getElem? (i := 62) rfl
theorem cl_NoWord : (⟨"NoWord", ["thing"]⟩ : Cl) ∈ CL := List.mem_of_getElem? (i := 65) rfl
theorem cl_BadView : (⟨"BadView", ["thing"]⟩ : Cl) ∈ CL := List.mem_of_getElem? (i := 45) rfl
/-- what is known of NetError itself -/
structure NF (K : PySem.W.Frag) (mg : Str → Option Value) (ad : Str → Addr) : Prop where
  ez : EZ K mg ad "NetError"
  ex : ExcC K (ad "NetError")
  kit : ∀ j ∈ NS, Kit K ad "NetError" j
  ve : PySem.W.kitOne K (.ref (ad "NetError")) (.type "ValueError") = some true
def spLaw (T : List (Addr × Str)) (K : PySem.W.Frag) : Sp := fun vs H Q _ => ∃ (a : Addr) (ns : List Int), vs = [.ref a] ∧ SqL K H a (ns.map V.int) ∧ ns.length ≤ 63 ∧ Tabs T H ∧ ∀ H', Q (.bl true) H'
theorem law_body : defBody sLaw = [lawSt 0, lawSt 1, lawSt 2, lawSt 3, lawSt 4, lawSt 5, lawSt 6, lawSt 7, lawSt 8] := by rfl
section
variable {P : Program} {w : World} {K : PySem.W.Frag} {mg : Str → Option Value} {base : Heap} {ad : Str → Addr} {T : List (Addr × Str)}
theorem ok_law {f : Addr} {fd : FuncData} (Fn : Fun K "law" "law" sLaw f fd) (F : LF P w K mg base ad T) (N : NF K mg ad) : FnG P w K mg base 4 f fd ["script"] (spLaw T K) := by
  refine fng_of Fn scLaw (fun vs H Q E h => ?_) (fun cdv A outer s H vs Q hgd hr h => ?_)
  · obtain ⟨a, ns, rfl, _⟩ := h
    rfl
  obtain ⟨a, ns, rfl, hS, hz, hT, k⟩ := h
  obtain ⟨fS, dS, oS, gS, kS, bS⟩ := F.start
  obtain ⟨fK, dK, oK, gK, kK, bK⟩ := F.kinds
  obtain ⟨i1, d1, c1⟩ := show ∃ (fI : Addr) (fd : FuncData), E1 P w K mg base ad "BadSigns" "index" fI fd from (F.cl _ cl_BadSigns).1
  obtain ⟨i2, d2, c2⟩ := show ∃ (fI : Addr) (fd : FuncData), E1 P w K mg base ad "NoPlace" "thing" fI fd from (F.cl _ cl_NoPlace).1
  obtain ⟨i3, d3, c3⟩ := show ∃ (fI : Addr) (fd : FuncData), E1 P w K mg base ad "NoWord" "thing" fI fd from (F.cl _ cl_NoWord).1
  obtain ⟨i4, d4, c4⟩ := show ∃ (fI : Addr) (fd : FuncData), E1 P w K mg base ad "BadView" "thing" fI fd from (F.cl _ cl_BadView).1
  have m1 := hr.mono (j := 1) (by decide)
  have m2 := hr.mono (j := 2) (by decide)
  obtain ⟨tS, pS, rS⟩ := st_some (P := P) (w := w) (K := K) (mg := mg) (base := base) (f := f) (cdv := cdv) (A := A) (outer := outer) (s := s) (H0 := H)
  obtain ⟨tF, pF, rF⟩ := st_for (f := f) (cdv := cdv) (A := A) (outer := outer) (s := s) (H0 := H) F hgd hr
  rw [law_body]
  refine ⟨_, pss_cons (ps_set (i := 1) scLaw.nd rfl (Or.inl rfl) (pe_call oS m1 (by rfl) gS kS bS .nil pass0 (pa_cons (pv 0) pa_nil))) (pss_cons pS (pss_cons pF
    (pss_cons (ps_set (i := 13) scLaw.nd rfl (Or.inl rfl) (pe_lst (pa_cons pe_str pa_nil)))
    (pss_cons (ps_set (i := 14) scLaw.nd rfl (Or.inl rfl) (pe_lst (pa_cons (pe_oex c1.T c1.iC c1.tI c1.ok m2 c1.bd (by rfl) c1.gC (pa_cons (pv 13) pa_nil) rfl) (pa_cons (pe_oex c2.T c2.iC c2.tI c2.ok m2 c2.bd (by rfl) c2.gC (pa_cons (pv 13) pa_nil) rfl)
      (pa_cons (pe_oex c3.T c3.iC c3.tI c3.ok m2 c3.bd (by rfl) c3.gC (pa_cons (pv 13) pa_nil) rfl) (pa_cons (pe_oex c4.T c4.iC c4.tI c4.ok m2 c4.bd (by rfl) c4.gC (pa_cons (pv 13) pa_nil) rfl) pa_nil))))))
    (pss_cons (ps_expr (pe_bm PySem.F.plainAttrs_list PySem.F.slot_list_append PySem.F.type_list_append mt_append (pv 13) (pa_cons pe_str pa_nil)))
    (pss_cons (ps_if (pt_cmpR (op_neD hr.units) (pe_lst (pa_cons (pe_exoF (pe_ix ix_list (pv 14) pe_int (fun _ _ => rfl))) (pa_cons (pe_exoF (pe_ix ix_list (pv 14) pe_int (fun _ _ => rfl))) (pa_cons (pe_exoF (pe_ix ix_list (pv 14) pe_int (fun _ _ => rfl))) (pa_cons (pe_exoF (pe_ix ix_list (pv 14) pe_int (fun _ _ => rfl))) pa_nil)))))
      (pe_op op_rep (pe_lst (pa_cons (pe_lst (pa_cons pe_str (pa_cons pe_str pa_nil))) pa_nil)) pe_int) (by rfl)) (pss_one (ps_ret pe_bl)) pss_nil)
    (pss_cons (ps_set (i := 15) scLaw.nd rfl (Or.inl rfl) (pe_oex0 PySem.F.excBase_ValueError N.ez.q N.ez.gC N.ez.kC (by rfl) rfl))
    (pss_one (ps_ret (pe_and (pe_callB call_isX (by rfl) F.B.isinstance PyProof.Rows.boot_isinstance (pa_cons (pv 15) (pa_cons (pe_bltn (v := .ty "ValueError") (u := .type "ValueError") (by rfl) F.B.ve (by decide +kernel) rfl) pa_nil)))
      (pe_one (pe_cmpR op_notIn_seq pe_bl (pe_call oK m2 (by rfl) gK kK bK .nil pass0 (pa_cons (pv 15) pa_nil)) (by rfl))))))))))))), ?_⟩
  refine ⟨_, rfl, a, ns, rfl, hS, hz, fun p l H1 np nl hs k1 => ?_⟩
  refine rS _ _ H1 fun q gs H2 nq k2 eq lg hR => ?_
  have npq : q ≠ p := by
    obtain ⟨o, e⟩ := hs.p
    exact (ne_of_none e nq).symm
  have nlq : q ≠ l := by
    obtain ⟨o, e⟩ := hs.l
    exact (ne_of_none e nq).symm
  have hR2 : RpAll (rest p l H2) gs goods := RpAll.keep (fun b o e => by
    unfold fresh at e
    cases e1 : H1 b with
    | some o1 => rw [e1] at e; cases e
    | none =>
      rw [e1] at e
      obtain ⟨o3, e3⟩ := hs.p
      obtain ⟨o4, e4⟩ := hs.l
      exact rest_at e (ne_of_none e3 e1).symm (ne_of_none e4 e1).symm) goods gs hR
  refine rF _ a p l q gs H2 (hs.keep k2 (Int.le_refl _)) eq npq nlq lg hR2 ((hT.ext k1).ext k2) fun σ H3 hσ => ?_
  obtain ⟨x1, x2, x3, x4, x5, x6, x7, x8, x9, x10, x11, x12, rfl⟩ := hσ
  refine ⟨by show 1 ≤ sizeLine; decide, fun h nh => ?_⟩
  refine ⟨_, rfl, (by show 1 ≤ 1000; decide), fun a1 ha1 => ⟨a1, [.ref h], rfl, rfl, upd_same, fun dx1 H4 hd1 e1 e1' kp1 => ⟨rfl, ?_⟩⟩⟩
  have q1 : Same (upd H3 h (.lst [.str "v"])) H4 := fun b o e => kp1 b o (by rw [upd_ne (ne_of_none e ha1)]; exact e) (ne_of_none e ha1)
  refine ⟨_, rfl, (by show 1 ≤ 1000; decide), fun a2 ha2 => ⟨a2, [.ref h], rfl, rfl, upd_same, fun dx2 H5 hd2 e2 e2' kp2 => ⟨rfl, ?_⟩⟩⟩
  have q2 : Same H4 H5 := fun b o e => kp2 b o (by rw [upd_ne (ne_of_none e ha2)]; exact e) (ne_of_none e ha2)
  refine ⟨_, rfl, (by show 1 ≤ 1000; decide), fun a3 ha3 => ⟨a3, [.ref h], rfl, rfl, upd_same, fun dx3 H6 hd3 e3 e3' kp3 => ⟨rfl, ?_⟩⟩⟩
  have q3 : Same H5 H6 := fun b o e => kp3 b o (by rw [upd_ne (ne_of_none e ha3)]; exact e) (ne_of_none e ha3)
  refine ⟨_, rfl, (by show 1 ≤ 1000; decide), fun a4 ha4 => ⟨a4, [.ref h], rfl, rfl, upd_same, fun dx4 H7 hd4 e4 e4' kp4 => ⟨rfl, ?_⟩⟩⟩
  have q4 : Same H6 H7 := fun b o e => kp4 b o (by rw [upd_ne (ne_of_none e ha4)]; exact e) (ne_of_none e ha4)
  refine ⟨by show 4 ≤ sizeLine; decide, fun r nr => ?_⟩
  have q5 := same_new (o := .lst [.ref a1, .ref a2, .ref a3, .ref a4]) nr
  have hh : H7 h = some (.lst [.str "v"]) := q4 _ _ (q3 _ _ (q2 _ _ (q1 _ _ upd_same)))
  have nhr : h ≠ r := ne_of_none hh nr
  refine ⟨_, rfl, .inl ⟨rfl, _, SqL.of (q5 _ _ hh)⟩, h, [.str "v"], .str "w", rfl, rfl, q5 _ _ hh, by show 1 < sizeLine; decide, ?_⟩
  have up : ∀ (b : Addr) (o : HO), H7 b = some o → (∀ xs, o ≠ .lst xs) → upd (upd H7 r (.lst [.ref a1, .ref a2, .ref a3, .ref a4])) h (.lst ([.str "v"] ++ [.str "w"])) b = some o := fun b o e n => by
    rw [upd_ne (ne_of e hh (n _)), upd_ne (ne_of_none e nr)]
    exact e
  have f1 := up _ _ (q4 _ _ (q3 _ _ (q2 _ _ e1))) fun xs => exo_lst
  have g1 := up _ _ (q4 _ _ (q3 _ _ (q2 _ _ e1'))) fun xs => exd_lst
  have f2 := up _ _ (q4 _ _ (q3 _ _ e2)) fun xs => exo_lst
  have g2 := up _ _ (q4 _ _ (q3 _ _ e2')) fun xs => exd_lst
  have f3 := up _ _ (q4 _ _ e3) fun xs => exo_lst
  have g3 := up _ _ (q4 _ _ e3') fun xs => exd_lst
  have f4 := up _ _ e4 fun xs => exo_lst
  have g4 := up _ _ e4' fun xs => exd_lst
  have fr : upd (upd H7 r (.lst [.ref a1, .ref a2, .ref a3, .ref a4])) h (.lst ([.str "v"] ++ [.str "w"])) r = some (.lst [.ref a1, .ref a2, .ref a3, .ref a4]) := by
    rw [upd_ne nhr.symm]
    exact upd_same
  have fh : upd (upd H7 r (.lst [.ref a1, .ref a2, .ref a3, .ref a4])) h (.lst ([.str "v"] ++ [.str "w"])) h = some (.lst [.str "v", .str "w"]) := upd_same
  generalize upd (upd H7 r (.lst [.ref a1, .ref a2, .ref a3, .ref a4])) h (.lst ([.str "v"] ++ [.str "w"])) = H8 at f1 g1 f2 g2 f3 g3 f4 g4 fr fh ⊢
  refine ⟨_, rfl, r, _, 0, .ref a1, rfl, rfl, SqL.of fr, rfl, a1, _, dx1, _, .ref h, rfl, f1, g1, rfl, c1.xf, c1.no, ?_⟩
  refine ⟨_, rfl, r, _, 1, .ref a2, rfl, rfl, SqL.of fr, rfl, a2, _, dx2, _, .ref h, rfl, f2, g2, rfl, c2.xf, c2.no, ?_⟩
  refine ⟨_, rfl, r, _, 2, .ref a3, rfl, rfl, SqL.of fr, rfl, a3, _, dx3, _, .ref h, rfl, f3, g3, rfl, c3.xf, c3.no, ?_⟩
  refine ⟨_, rfl, r, _, 3, .ref a4, rfl, rfl, SqL.of fr, rfl, a4, _, dx4, _, .ref h, rfl, f4, g4, rfl, c4.xf, c4.no, ?_⟩
  refine ⟨by show 4 ≤ sizeLine; decide, fun u nu => ⟨by show 2 ≤ sizeLine; decide, fun u1 nu1 => ⟨by show 1 ≤ sizeLine; decide, fun u2 nu2 => ⟨u2, 4, [.ref u1], rfl, rfl, upd_same, by decide, by decide, by show 1 * 4 ≤ sizeLine; decide, fun u3 nu3 => ?_⟩⟩⟩⟩
  have w1 := same_new (o := .lst [.ref h, .ref h, .ref h, .ref h]) nu
  have w2 := same_new (o := .lst [.str "v", .str "w"]) nu1
  have w3 := same_new (o := .lst [.ref u1]) nu2
  have w4 := same_new (o := .lst (List.replicate (4 : Int).toNat [V.ref u1]).flatten) nu3
  have z1 := w4 _ _ (w3 _ _ (w2 _ _ upd_same))
  have z2 := w4 _ _ (w3 _ _ (w2 _ _ (w1 _ _ fh)))
  have z3 := w4 _ _ (w3 _ _ upd_same)
  have dvh := Dp.lst (K := K) (ds := [.str "v", .str "w"]) (SqL.of z2) (.cons (.str _) (.cons (.str _) .nil))
  have dvu := Dp.lst (K := K) (ds := [.str "v", .str "w"]) (SqL.of z3) (.cons (.str _) (.cons (.str _) .nil))
  refine ⟨vw4, vw4, .lst (SqL.of z1) (.cons dvh (.cons dvh (.cons dvh (.cons dvh .nil)))), .lst (SqL.of upd_same) (.cons dvu (.cons dvu (.cons dvu (.cons dvu .nil)))), vw4_shaped, vw4_shaped, ?_⟩
  rw [vw4_eq]
  refine ⟨_, rfl, ?_⟩
  refine fun b nb => ?_
  refine ⟨_, rfl, b, _, none, .ty "ValueError", _, true, rfl, upd_same, (fun dx z => by cases z), N.ex, (fun u r => r), N.ve, true, rfl, ?_⟩
  refine iteT ⟨_, rfl, b, "NetError", rfl, ⟨⟨none, upd_same, fun dx z => by cases z⟩, N.ex⟩, N.kit, fun q' H' nq' kq' eq' => ⟨q', _, rfl, .inl (SqL.of eq'), rfl, ans_net.1, ?_⟩⟩
  rw [ans_net.2]
  exact k H'
end
end K0
set_option maxHeartbeats 4000000
namespace K0
open PySem PySem.Spec PyProof.Rows L2 LamX NdefX
/-! ### the law, called from outside -/
section
variable {P : Program} {w : World} {K : PySem.W.Frag} {mg mb : Str → Option Value} {k : Nat} {fa a : Addr} {cs : List (Addr × Addr)} {fd : FuncData} {x : Str} {sp : Sp} {s : Shared} {vs : List Value} {ns : List Int}
abbrev lstO (vs : List Value) : Obj := { cls := .type "list", data := .seq vs.toArray }
abbrev tabO0 : Obj := { cls := .none, data := .fields #[] }
/-- what is tracked: the tables, the script where it is new -/
def trk0 (K : PySem.W.Frag) (cs : List (Addr × Addr)) (a : Addr) (vs : List Value) (ns : List Int) : Hp := fun b =>
  if b ∈ cs.map (·.2) then some (.tbl #[]) else if b = a ∧ K.lookup a = none then some (.frz (lstO vs) (.lst (ns.map V.int))) else none
theorem trk0_tab {p : Addr × Addr} (hp : p ∈ cs) : trk0 K cs a vs ns p.2 = some (.tbl #[]) := if_pos (List.mem_map.mpr ⟨p, hp, rfl⟩)
theorem trk0_some {b : Addr} {u : HO} (h : trk0 K cs a vs ns b = some u) : (∃ p ∈ cs, p.2 = b ∧ u = .tbl #[]) ∨ (b = a ∧ K.lookup a = none ∧ u = .frz (lstO vs) (.lst (ns.map V.int))) := by
  unfold trk0 at h
  split at h
  · rename_i m
    obtain ⟨p, hp, e⟩ := List.mem_map.mp m
    exact .inl ⟨p, hp, e, (Option.some.inj h).symm⟩
  · split at h
    · rename_i m
      exact .inr ⟨m.1, m.2, (Option.some.inj h).symm⟩
    · cases h
theorem call_lawG (KX : K.In s.heap) (hG : s.heap.Ns mainGlobals mg) (hB : s.heap.Ns builtinsNs mb) (hBB : ∀ x : Str, x ≠ "__name__" → mb x = bootBuiltins x) (hL : s.heap.NoLimit) (hg : s.gens = #[])
    (hT : ∀ p ∈ cs, s.heap.get? p.2 = some tabO0) (nT : ∀ p ∈ cs, K.lookup p.2 = none) (C : ∀ p ∈ cs, PySem.W.CodeHd s.heap p.1 p.2)
    (hbm : ∃ (bm : Addr) (ob : Obj), mg "__builtins__" = some (.ref bm) ∧ bm ≠ builtinsNs ∧ s.heap.get? bm = some ob ∧ ob.cls = .type "module" ∧ ob.dict = some builtinsNs ∧ ob.data = .plain)
    (ha : s.heap.get? a = some (lstO vs)) (hi : IntsAre vs ns) (hl : ns.length ≤ sizeLine) (hr : Room k callerA) (hgd : callerA.guards = some [])
    (F : ∀ base : Heap, K.In base → base.Ns mainGlobals mg → (∀ p ∈ cs, TabB base mg p.1 p.2) → FnG P w K mg base k fa fd [x] sp) (hbd : ∀ (s : Shared) (u : Value), BindsTo s fd ⟨[u], []⟩ [(x, u)])
    (hsp : ∀ H : Hp, (∀ p ∈ cs, H p.2 = some (.tbl #[])) → SqL K H a (ns.map V.int) → sp [.ref a] H (fun v _ => v = .bl true) E0) :
    codeAny (model P w) callerA (.call (.ref fa) ⟨[.ref a], []⟩) (fun r s' => r = .ok (.ret (.bool true)) ∧ OldK s.heap s'.heap ∧ s'.os = s.os ∧ AllBare s'.gens) s := by
  have rv := vals_ints hi
  have hlen : vs.length ≤ sizeLine := by rw [hi.length]; exact hl
  have free : ∀ (b : Addr) (o : Obj), s.heap.get? b = some o → o ≠ lstO vs → o ≠ tabO0 → trk0 K cs a vs ns b = none := by
    intro b o e n1 n2
    cases q : trk0 K cs a vs ns b with
    | none => rfl
    | some u =>
      rcases trk0_some q with ⟨p, hp, z, _⟩ | ⟨z, _, _⟩
      · rw [← z, hT p hp] at e
        exact (n2 (Option.some.inj e).symm).elim
      · rw [z, ha] at e
        exact (n1 (Option.some.inj e).symm).elim
  have low : ∀ (b : Addr) (o : Obj), s.heap.get? b = some o → o ≠ lstO vs → o ≠ tabO0 → (hidT s.heap (trk0 K cs a vs ns)).get? b = some o := fun b o e n1 n2 => hidT_get e (free b o e n1 n2)
  have lowN : ∀ (b : Addr) (m : Str → Option Value), s.heap.Ns b m → (hidT s.heap (trk0 K cs a vs ns)).Ns b m := by
    rintro b m ⟨o, es, ep, e, d, r⟩
    refine ⟨o, es, ep, low b o e (fun z => ?_) (fun z => ?_), d, r⟩
    · rw [z] at d
      cases d
    · rw [z] at d
      cases d
  have Kb : K.In (hidT s.heap (trk0 K cs a vs ns)) := fun b o e => hidT_get (KX b o e) (by
    cases q : trk0 K cs a vs ns b with
    | none => rfl
    | some u =>
      rcases trk0_some q with ⟨p, hp, z, _⟩ | ⟨z, y, _⟩
      · rw [← z, nT p hp] at e
        cases e
      · rw [z, y] at e
        cases e)
  have TB : ∀ p ∈ cs, TabB (hidT s.heap (trk0 K cs a vs ns)) mg p.1 p.2 := by
    intro p hp
    refine ⟨?_, ?_, fun z => ?_⟩
    · obtain ⟨o, us, f1, f2, f3, f4, f5, f6, f7, e1, r1, r2, r3, rr⟩ := C p hp
      refine ⟨o, us, f1, f2, f3, f4, f5, f6, f7, low _ o e1 (fun z => ?_) (fun z => ?_), r1, r2, r3, rr⟩
      · rw [z] at r2
        cases r2
      · rw [z] at r2
        cases r2
        simp at r3
    · obtain ⟨bm, ob, b1, b2, b3, b4, b5, b6⟩ := hbm
      have n1 : ob ≠ lstO vs := fun z => by rw [z] at b6; cases b6
      have n2 : ob ≠ tabO0 := fun z => by rw [z] at b6; cases b6
      refine ⟨bm, ob, b1, b2, fun z => ?_, fun z => ?_, low _ _ b3 n1 n2, b4, b5, b6⟩
      · obtain ⟨o, es, ep, e, d, _⟩ := hG
        rw [← z, b3] at e
        rw [← Option.some.inj e, b6] at d
        cases d
      · have t := hT p hp
        rw [← z, b3] at t
        exact n2 (Option.some.inj t)
    · obtain ⟨o, es, ep, e, d, _⟩ := hG
      rw [z, hT p hp] at e
      rw [← Option.some.inj e] at d
      cases d
  have hok : HOk P w (trk0 K cs a vs ns) s.heap := by
    intro b u z
    rcases trk0_some z with ⟨p, hp, e, eu⟩ | ⟨e, _, eu⟩
    · subst eu
      rw [← e]
      exact hT p hp
    · subst eu
      rw [e]
      exact ⟨ha, by rw [List.length_map]; exact hl, vs, _, rv, ha⟩
  have hS : SqL K (trk0 K cs a vs ns) a (ns.map V.int) := by
    cases q : K.lookup a with
    | some o =>
      have e := KX a o q
      rw [ha] at e
      obtain rfl := Option.some.inj e
      exact .inr ⟨_, vs.toArray, _, q, rfl, rfl, rfl, by simpa using hlen, by simpa using rv⟩
    | none =>
      have na : a ∉ cs.map (·.2) := fun m => by
        obtain ⟨p, hp, e⟩ := List.mem_map.mp m
        have t := hT p hp
        rw [e, ha] at t
        cases t
      refine .inl (.inr ⟨lstO vs, ?_⟩)
      unfold trk0
      rw [if_neg na, if_pos ⟨rfl, q⟩]
  obtain ⟨mc, l1, l2⟩ := hL
  have en : Env0 P w K mg (hidT s.heap (trk0 K cs a vs ns)) callerA [] s (trk0 K cs a vs ns) :=
    { frames := rfl, mod := ⟨Kb, lowN _ _ hG, ⟨mb, lowN _ _ hB, hBB⟩, mc, lowN _ _ l1, l2⟩, bs := fun b o e => of_hidT e, bsz := Nat.le_of_eq (hidT_size _ _), funs := trivial, frf := fun b hb => absurd (show b ∈ ([] : List Addr) from hb) List.not_mem_nil, hok := hok, bare := .of_eq hg }
  have key := (F _ Kb (lowN _ _ hG) TB).run callerA [] s _ ⟨[.ref a], []⟩ [.ref a] [.ref a] (fun v _ => v = .bl true) hgd hr en (hbd s (.ref a)) (.cons rfl .nil) (hsp _ (fun p hp => trk0_tab hp) hS)
  refine codeAny_mono key fun r s' h => ?_
  cases r with
  | error e => exact False.elim h
  | ok fl =>
    cases fl with
    | ret u =>
      obtain ⟨v, H', os, bare, un, hok', r', q⟩ := h
      have q : v = .bl true := q
      subst q
      have ru : u = Value.bool true := r'
      subst ru
      have old : ∀ b o, (∀ p ∈ cs, p.2 ≠ b) → s.heap.get? b = some o → s'.heap.get? b = some o := by
        intro b o nb e
        cases q : trk0 K cs a vs ns b with
        | none => exact un.keep b o e q (fun z => absurd (show b ∈ ([] : List Addr) from z) List.not_mem_nil) (by simp)
        | some t =>
          rcases trk0_some q with ⟨p, hp, z, _⟩ | ⟨z, _, et⟩
          · exact absurd z (nb p hp)
          · subst et
            have t2 := (hok' b _ (un.frzs b _ _ q)).1
            rw [z, ha] at e
            rw [← Option.some.inj e]
            exact t2
      have grown : ∀ p ∈ cs, ∃ more : Array Value, s'.heap.get? p.2 = some { cls := .none, data := .fields more } := fun p hp => by
        obtain ⟨more, z⟩ := un.tbls p.2 #[] (trk0_tab hp)
        exact ⟨_, hok' p.2 _ z⟩
      refine ⟨rfl, ⟨fun b o e => ?_, fun b o e => ?_⟩, os, bare⟩
      · by_cases hb : ∃ p ∈ cs, p.2 = b
        · obtain ⟨p, hp, z⟩ := hb
          subst z
          obtain ⟨more, hm⟩ := grown p hp
          rw [hT p hp] at e
          obtain rfl := Option.some.inj e
          exact .inr (.inl ⟨((C p hp).tab (hT p hp)).isCodeTable, rfl, #[], more, rfl, by rw [Array.empty_append]; exact hm⟩)
        · exact .inl (old b o (fun p hp z => hb ⟨p, hp, z⟩) e)
      · by_cases hb : ∃ p ∈ cs, p.2 = b
        · obtain ⟨p, hp, z⟩ := hb
          subst z
          obtain ⟨more, hm⟩ := grown p hp
          exact ⟨_, hm⟩
        · exact ⟨o, old b o (fun p hp z => hb ⟨p, hp, z⟩) e⟩
    | next => exact False.elim h
    | brk => exact False.elim h
    | cont => exact False.elim h
end
end K0
set_option maxHeartbeats 4000000
namespace K0
open PySem PySem.Spec PyProof.Rows L2 LamX NdefX He
/-! ### the head's facts -/
/-- where the classes stand -/
def ADC : List Addr := [44, 63, 82, 101, 120, 139, 158, 177, 196, 215, 234, 253, 272, 291, 310, 329, 348, 367, 386, 405, 424, 443, 462, 481, 500, 519, 538, 557, 576, 595, 614, 633, 652, 671, 690, 709, 728, 747, 766, 785, 804, 823, 842, 861, 880, 899, 918, 937, 956, 975, 994, 1006, 1025, 1037, 1056, 1068, 1087, 1106, 1125, 1144, 1163, 1182, 1201, 1220, 1239, 1258, 1277, 1296, 1308, 1327, 1346, 1365, 1377, 1396, 1415, 1434, 1446, 1458, 1477]
/-- the part of the heap that is looked at -/
def ADS : List Addr := [3, 24, 23, 1, 44, 43, 41, 40, 63, 62, 60, 59, 82, 81, 79, 78, 101, 100, 98, 97, 120, 119, 117, 116, 139, 138, 136, 135, 158, 157, 155, 154, 177, 176, 174, 173, 196, 195, 193, 192, 215, 214, 212, 211, 234, 233, 231, 230, 253, 252, 250, 249, 272, 271, 269, 268, 291, 290, 288, 287, 310, 309, 307, 306, 329, 328, 326, 325, 348, 347, 345, 344, 367, 366, 364, 363, 386, 385, 383, 382, 405, 404, 402, 401, 424, 423, 421, 420, 443, 442, 440, 439, 462, 461, 459, 458, 481, 480, 478, 477, 500, 499, 497, 496, 519, 518, 516, 515, 538, 537, 535, 534, 557, 556, 554, 553, 576, 575, 573, 572, 595, 594, 592, 591, 614, 613, 611, 610, 633, 632, 630, 629, 652, 651, 649, 648, 671, 670, 668, 667, 690, 689, 687, 686, 709, 708, 706, 705, 728, 727, 725, 724, 747, 746, 744, 743, 766, 765, 763, 762, 785, 784, 782, 781, 804, 803, 801, 800, 823, 822, 820, 819, 842, 841, 839, 838, 861, 860, 858, 857, 880, 879, 877, 876, 899, 898, 896, 895, 918, 917, 915, 914, 937, 936, 934, 933, 956, 955, 953, 952, 975, 974, 972, 971, 994, 993, 991, 990, 1006, 1005, 1025, 1024, 1022, 1021, 1037, 1036, 1056, 1055, 1053, 1052, 1068, 1067, 1087, 1086, 1084, 1083, 1106, 1105, 1103, 1102, 1125, 1124, 1122, 1121, 1144, 1143, 1141, 1140, 1163, 1162, 1160, 1159, 1182, 1181, 1179, 1178, 1201, 1200, 1198, 1197, 1220, 1219, 1217, 1216, 1239, 1238, 1236, 1235, 1258, 1257, 1255, 1254, 1277, 1276, 1274, 1273, 1296, 1295, 1293, 1292, 1308, 1307, 1327, 1326, 1324, 1323, 1346, 1345, 1343, 1342, 1365, 1364, 1362, 1361, 1377, 1376, 1396, 1395, 1393, 1392, 1415, 1414, 1412, 1411, 1434, 1433, 1431, 1430, 1446, 1445, 1458, 1457, 1477, 1476, 1474, 1473, 1486, 1485, 1493, 1492, 1498, 1497, 1505, 1504, 1512, 1511, 1519, 1518, 1526, 1525, 1533, 1532, 1540, 1539, 1547, 1546, 1554, 1553, 1561, 1560, 1568, 1567, 1575, 1574, 1580, 1579, 1587, 1586, 1594, 1593]
def iSt (k : Nat) : Stmt := match top k with
  | .ClassDef _ _ _ (d :: _) _ _ _ _ _ _ _ => d
  | _ => .Pass ⟨0, 0, 0, 0⟩
def dD (nm : Str) (i : Nat) : DefD := ⟨(nm, none), nm, nm, defArgs (top i), defBody (top i), defScope (top i), [], []⟩
def dI (nm q : Str) (k : Nat) : DefD := ⟨(nm, some "__init__"), "__init__", q, defArgs (iSt k), defBody (iSt k), defScope (iSt k), [], []⟩
def DF : List DefD := [dD "_law_start" 82, dD "_law_draw" 83, dD "_law_mixed" 84, dD "_law_made_a" 85, dD "_law_made_b" 86, dD "_law_made_c" 87, dD "_law_made_d" 88, dD "_law_made_e" 89, dD "_law_kinds_a" 90, dD "_law_kinds_b" 91, dD "_law_kinds_c" 92, dD "_law_kinds_d" 93, dD "_law_kinds_e" 94, dD "_law_kinds" 95, dD "_law_is_own" 96, dD "_law_are_these" 97, dD "law" 98]
def DIa : List DefD := [dI "BadAnswers" "BadAnswers.__init__" 2, dI "BadBase" "BadBase.__init__" 3, dI "BadBegun" "BadBegun.__init__" 4, dI "BadChance" "BadChance.__init__" 5, dI "BadChoice" "BadChoice.__init__" 6, dI "BadCopies" "BadCopies.__init__" 7, dI "BadCounts" "BadCounts.__init__" 8, dI "BadCourse" "BadCourse.__init__" 9, dI "BadDeed" "BadDeed.__init__" 10, dI "BadDoor" "BadDoor.__init__" 11, dI "BadDoors" "BadDoors.__init__" 12, dI "BadDue" "BadDue.__init__" 13, dI "BadForm" "BadForm.__init__" 14, dI "BadImages" "BadImages.__init__" 15, dI "BadIns" "BadIns.__init__" 16, dI "BadLetters" "BadLetters.__init__" 17, dI "BadLoops" "BadLoops.__init__" 18, dI "BadMany" "BadMany.__init__" 19, dI "BadModuli" "BadModuli.__init__" 20, dI "BadNetRow" "BadNetRow.__init__" 21, dI "BadNetRows" "BadNetRows.__init__" 22, dI "BadNets" "BadNets.__init__" 23, dI "BadNumber" "BadNumber.__init__" 24, dI "BadOrder" "BadOrder.__init__" 25]
def DIb : List DefD := [dI "BadOuts" "BadOuts.__init__" 26, dI "BadParting" "BadParting.__init__" 27, dI "BadPeriod" "BadPeriod.__init__" 28, dI "BadPicks" "BadPicks.__init__" 29, dI "BadPiece" "BadPiece.__init__" 30, dI "BadPieces" "BadPieces.__init__" 31, dI "BadPlaces" "BadPlaces.__init__" 32, dI "BadPlan" "BadPlan.__init__" 33, dI "BadQuestion" "BadQuestion.__init__" 34, dI "BadRight" "BadRight.__init__" 35, dI "BadRoads" "BadRoads.__init__" 36, dI "BadSenses" "BadSenses.__init__" 37, dI "BadSheet" "BadSheet.__init__" 38, dI "BadSides" "BadSides.__init__" 39, dI "BadSigns" "BadSigns.__init__" 40, dI "BadSteps" "BadSteps.__init__" 41, dI "BadText" "BadText.__init__" 42, dI "BadThrow" "BadThrow.__init__" 43, dI "BadTimes" "BadTimes.__init__" 44, dI "BadTurn" "BadTurn.__init__" 45, dI "BadTurns" "BadTurns.__init__" 46, dI "BadView" "BadView.__init__" 47, dI "BadViews" "BadViews.__init__" 48, dI "BadWalk" "BadWalk.__init__" 49]
def DIc : List DefD := [dI "BadWalker" "BadWalker.__init__" 50, dI "BadWords" "BadWords.__init__" 51, dI "BadWritten" "BadWritten.__init__" 52, dI "InUse" "InUse.__init__" 54, dI "IsWatched" "IsWatched.__init__" 56, dI "NoCount" "NoCount.__init__" 58, dI "NoFit" "NoFit.__init__" 59, dI "NoGate" "NoGate.__init__" 60, dI "NoGroup" "NoGroup.__init__" 61, dI "NoMove" "NoMove.__init__" 62, dI "NoNet" "NoNet.__init__" 63, dI "NoPlace" "NoPlace.__init__" 64, dI "NoRoad" "NoRoad.__init__" 65, dI "NoState" "NoState.__init__" 66, dI "NoWord" "NoWord.__init__" 67, dI "NotEven" "NotEven.__init__" 68, dI "NotJoined" "NotJoined.__init__" 69, dI "NotStrong" "NotStrong.__init__" 71, dI "NotTwoWay" "NotTwoWay.__init__" 72, dI "NotWatched" "NotWatched.__init__" 73, dI "OpenView" "OpenView.__init__" 75, dI "SameDue" "SameDue.__init__" 76, dI "TakenName" "TakenName.__init__" 77, dI "WouldChange" "WouldChange.__init__" 80]
def DI : List DefD := DIa ++ DIb ++ DIc
def NZ : List Str := ["CanBeDone", "IsSure", "LastPlace", "NotOver", "NotWhole", "ToldApart", "UnlikeGates"]
def NO : List Str := NS.filter fun n => !NZ.contains n
def FRE : List Str := ["list", "int", "len", "range", "repr", "isinstance", "enumerate", "ValueError", "LookupError"]
def glB (K : PySem.W.Frag) (x : Str) : Bool := eqO (PySem.W.nsIn K mainGlobals x) (some (some (.ref (ga K x))))
def frB (K : PySem.W.Frag) (x : Str) : Bool := eqO (PySem.W.nsIn K mainGlobals x) (some none)
def oexB (K : PySem.W.Frag) (C : Addr) : Bool := (match K.lookup C with
  | some ⟨.type t, _, .cls ⟨_, _, .ref C' :: bm, _, _, true, _, _, _, _, false⟩, ⟨[_, _, _, _, some (.builtin id), _]⟩⟩ => decide (t = "type") && (decide (C' = C) && (decide (id = "ValueError.__new__") && PySem.HandSPX.refsVE bm))
  | _ => false) && (eqO (PySem.W.findIn K (.ref C) "__setattr__") (some (some (.builtin "object.__setattr__"))) && (decide (PySem.W.subIn K (.ref C) (.type "BaseException") = some true) && (decide (PySem.W.typeIn K (.ref C) = some (.type "type")) && PySem.W.keepIn K (.ref C))))
def excB (K : PySem.W.Frag) (D : Addr) : Bool := eqO (PySem.W.findIn K (.ref D) "__getattribute__") (some (some (.builtin "BaseException.__getattribute__"))) && (eqO (PySem.W.findIn K (.ref D) "__getattr__") (some none) && (decide (PySem.W.subIn K (.ref D) (.type "BaseException") = some true) &&
  (PySem.W.hasDictIn K D && (eqO (PySem.W.findIn K (.ref D) "__class__") (some (some (.builtin "object.__class__"))) && (decide (PySem.W.mroIn K D (.type "object") = some true))))))
/-- the line of ancestors, NetError's own left out of it where it is the class itself -/
def mroB (K : PySem.W.Frag) (C : Addr) (bs : List Value) : Bool := (PySem.W.clsIn K C).any (fun cd => decide (cd.mro = .ref C :: bs)) && decide (PySem.W.typeIn K (.ref C) = some (.type "type"))
def kiB (K : PySem.W.Frag) (C : Addr) : Bool := decide (PySem.W.kitOne K (.ref C) (.type "ValueError") = some true) && decide (PySem.W.kitOne K (.ref C) (.type "LookupError") = some false)
def inB (K : PySem.W.Frag) (C : Addr) : Bool := eqO (PySem.W.findIn K (.ref C) "__init__") (some (some (.ref (ma K C "__init__")))) && decide (PySem.W.typeIn K (.ref (ma K C "__init__")) = some (.type "function"))
def atB (K : PySem.W.Frag) (c : Cl) : Bool := c.fl.all fun f => eqO (PySem.W.findIn K (.ref (ga K c.nm)) f) (some none)
def ezB (K : PySem.W.Frag) (C : Addr) : Bool := PySem.W.excIn K C veB "ValueError.__new__" && PySem.W.keepIn K (.ref C)
/-- .. of the errors -/
def f1B (K : PySem.W.Frag) : Bool := NS.all fun n => glB K n && (excB K (ga K n) && (mroB K (ga K n) (.ref (ga K "NetError") :: veB) && kiB K (ga K n)))
def f2B (K : PySem.W.Frag) : Bool := (CL.all fun c => atB K c) && ((NO.all fun n => oexB K (ga K n) && (xfB K (ga K n) && inB K (ga K n))) && NZ.all fun n => ezB K (ga K n))
/-- .. of the rest -/
def f3B (K : PySem.W.Frag) : Bool := glB K "NetError" && (excB K (ga K "NetError") && (mroB K (ga K "NetError") veB && (kiB K (ga K "NetError") && (ezB K (ga K "NetError") && ((DF.all fun d => glB K d.name) && ((FRE.all fun x => frB K x) &&
  (decide ((("NetError" : Str) :: NS).map (fun n => ga K n) = 24 :: ADC) && ((K.lookup sysModules).isSome && (decide (PySem.W.specialIn K (.builtin "object.__class__") "__get__" = some (some (.builtin "getset_descriptor.__get__"))) && decide (PySem.W.takesIn K (.builtin "object.__class__") = some true))))))))))
def TF : List Defn := [("_law_made_a", none), ("_law_made_b", none), ("_law_made_c", none), ("_law_made_d", none), ("_law_made_e", none)]
end K0
set_option maxHeartbeats 4000000
namespace K0
open PySem PySem.Spec PyProof.Rows L2 LamX NdefX He
/-! ### from the facts -/
def TABS : List Addr := [1500, 1507, 1514, 1521, 1528]
def f4B (K : PySem.W.Frag) : Bool := decide ((TF.map fun p => (cT K p).2) = TABS)
/-- what the head says -/
structure HF (K : PySem.W.Frag) : Prop where
  f1 : f1B K = true
  f2 : f2B K = true
  f3 : f3B K = true
  f4 : f4B K = true
  df : ∀ d ∈ DF ++ DI, ∃ fd, FunD K d.name d.qual d.params d.body d.scope (d.dvs K) (d.kws K) (fAd K d.at_) fd
theorem toFun {K : PySem.W.Frag} {x q : Str} {st : Stmt} {f : Addr} {fd : FuncData} {kws : List (Str × V)} (F : FunD K x q (defArgs st) (defBody st) (defScope st) [] kws f fd) : Fun K x q st f fd := by
  obtain ⟨⟨oc, od, dV, kV, doc, pm, an, cdv, ct, osl, e, lk, hcd, hD, hK⟩, kp⟩ := F
  have z : dV = .none := by
    rcases hD with ⟨_, h⟩ | ⟨h, _⟩
    · exact h
    · exact absurd rfl h
  subst z
  exact ⟨⟨oc, od, kV, doc, pm, an, cdv, ct, osl, e, lk, hcd⟩, kp⟩
theorem bindsOf {K : PySem.W.Frag} {x q : Str} {st : Stmt} {f : Addr} {fd : FuncData} {ps : List Str} (F : Fun K x q st f fd)
    (h : ∀ (kV doc pm : Value) (an : Option Addr) (cdv ct : Value) (us : List Value), us.length = ps.length → bindArgs (PySem.W.fnOf x q (defArgs st) (defBody st) (defScope st) .none kV doc pm an cdv ct) ⟨us, []⟩ = pure (ps.zip us)) : L2.Binds K fd ps [] := by
  obtain ⟨oc, od, kV, doc, pm, an, cdv, ct, osl, rfl, lk, hcd⟩ := F.ex
  exact Binds.all (h kV doc pm an cdv ct)
/-- an init of one field, of two -/
abbrev bnd (q : Str) (st : Stmt) (kV doc pm : Value) (an : Option Addr) (cdv ct : Value) : FuncData := PySem.W.fnOf "__init__" q (defArgs st) (defBody st) (defScope st) .none kV doc pm an cdv ct
section
variable {P : Program} {w : World} {K : PySem.W.Frag} {mg : Str → Option Value} {base : Heap} {nm F G q : Str} {k : Nat} {p1 p2 p3 p4 q1 q2 q3 q4 : Pos}
theorem oexB_ok {C : Addr} (h : oexB K C = true) : OexC K C := by
  obtain ⟨h1, h2⟩ := ba h
  obtain ⟨h3, h4⟩ := ba h2
  obtain ⟨h5, h6⟩ := ba h4
  obtain ⟨h7, h8⟩ := ba h6
  refine ⟨?_, eqO_ok h3, of_decide_eq_true h5, of_decide_eq_true h7, h8⟩
  split at h1
  · rename_i t dd nm2 bs C' bm N q2 sn sub ab col k0 k1 k2 k3 id k5 lk
    obtain ⟨g1, g2⟩ := ba h1
    obtain ⟨g3, g4⟩ := ba g2
    obtain ⟨g5, g6⟩ := ba g4
    have e1 := of_decide_eq_true g1
    have e2 := of_decide_eq_true g3
    have e3 := of_decide_eq_true g5
    subst e1 e2 e3
    exact ⟨_, _, _, _, _, _, _, _, _, _, _, _, _, _, _, lk, g6⟩
  · cases h1
theorem excB_ok {D : Addr} (h : excB K D = true) (hn : PySem.W.specialIn K (.builtin "object.__class__") "__get__" = some (some (.builtin "getset_descriptor.__get__"))) (ht : PySem.W.takesIn K (.builtin "object.__class__") = some true) : ExcC K D := by
  obtain ⟨h1, h⟩ := ba h
  obtain ⟨h2, h⟩ := ba h
  obtain ⟨h3, h⟩ := ba h
  obtain ⟨h4, h⟩ := ba h
  obtain ⟨h5, h6⟩ := ba h
  exact ⟨eqO_ok h1, eqO_ok h2, of_decide_eq_true h3, h4, eqO_ok h5, hn, ht, of_decide_eq_true h6⟩
theorem mroB_ok {C : Addr} {bs : List Value} (h : mroB K C bs = true) : (∃ cd, PySem.W.clsIn K C = some cd ∧ cd.mro = .ref C :: bs) ∧ PySem.W.typeIn K (.ref C) = some (.type "type") := by
  obtain ⟨h1, h2⟩ := ba h
  obtain ⟨cd, e1, e2⟩ := PySem.W.any_some h1
  exact ⟨⟨cd, e1, of_decide_eq_true e2⟩, of_decide_eq_true h2⟩
theorem kit_of {C D : Addr} {bs bs' : List Value} (hC : mroB K C bs = true) (hD : mroB K D bs' = true) (hb : bs.contains (Value.ref D) = false) : PySem.W.kitOne K (.ref C) (.ref D) = some (decide (C = D)) := by
  obtain ⟨⟨cd, e1, e2⟩, _⟩ := mroB_ok hC
  obtain ⟨⟨cd2, e3, _⟩, e5⟩ := mroB_ok hD
  unfold PySem.W.kitOne
  by_cases h : C = D
  · subst h
    simp
  · have hne : (Value.ref C == Value.ref D) = false := by simp [h]
    rw [hne]
    rw [if_neg (by decide)]
    show (if ((PySem.W.clsIn K D).isSome && PySem.W.typeIn K (.ref D) == some (.type "type")) = true then PySem.W.mroIn K C (.ref D) else none) = _
    rw [e3, e5, if_pos (by rfl)]
    unfold PySem.W.mroIn
    rw [e1, Option.bind_some, e2, decide_eq_false h]
    show (if (Value.ref C :: bs).isEmpty = true then none else some ((Value.ref C :: bs).contains (.ref D))) = some false
    rw [if_neg (by simp), List.contains_cons, hb]
    have h2 : (Value.ref D == Value.ref C) = false := by
      have z : ¬ D = C := fun z => h z.symm
      simp [z]
    rw [h2]
    rfl
end
end K0
set_option maxHeartbeats 4000000
namespace K0
open PySem PySem.Spec PyProof.Rows L2 LamX NdefX He
section
variable {P : Program} {w : World} {K : PySem.W.Frag} {mg : Str → Option Value} {base : Heap} {nm F G q : Str} {k : Nat} {p1 p2 p3 p4 q1 q2 q3 q4 : Pos}
abbrev adK (K : PySem.W.Frag) : Str → Addr := fun n => ga K n
theorem no_of {c : Cl} {f : Str} (h : atB K c = true) (hf : f ∈ c.fl) : PySem.W.findIn K (.ref (ga K c.nm)) f = some none := eqO_ok (List.all_eq_true.mp h f hf)
theorem cf1 (S : FnScope ["self", F] ["self", F] (defScope (iSt k))) (hB : defBody (iSt k) = [.Assign [.Attribute (.Name "self" p1) F p2] (.Name F p3) p4])
    (hb : ∀ (kV doc pm : Value) (an : Option Addr) (cdv ct : Value) (us : List Value), us.length = (["self", F] : List Str).length → bindArgs (bnd q (iSt k) kV doc pm an cdv ct) ⟨us, []⟩ = pure ((["self", F] : List Str).zip us))
    (hk : ∀ (kV doc pm : Value) (an : Option Addr) (cdv ct a u : Value), bindArgs (bnd q (iSt k) kV doc pm an cdv ct) ⟨[a], [(F, u)]⟩ = pure [(("self" : Str), a), (F, u)]) (hd : (F == ("__debug__" : Str)) = false) (hcd : (F == ("__classdict__" : Str)) = false)
    (g : mg nm = some (.ref (ga K nm))) (ho : oexB K (ga K nm) = true) (hx : xfB K (ga K nm) = true) (hi : inB K (ga K nm) = true) (ha : atB K ⟨nm, [F]⟩ = true)
    (hD : ∃ fd, FunD K "__init__" q (defArgs (iSt k)) (defBody (iSt k)) (defScope (iSt k)) [] [] (fAd K (nm, some "__init__")) fd) : CF P w K mg base (adK K) ⟨nm, [F]⟩ := by
  obtain ⟨fd, D⟩ := hD
  have Fn := toFun D
  have T := oexB_ok ho
  have no := no_of ha List.mem_cons_self
  obtain ⟨h1, h2⟩ := ba hi
  refine ⟨ma K (ga K nm) "__init__", fd, ⟨g, T, xfB_ok hx, no, eqO_ok h1, of_decide_eq_true h2, ok_init1 Fn S hB T no hd hcd, bindsOf Fn hb, fun s a ws hK hl => ?_⟩⟩
  obtain ⟨u, rfl⟩ : ∃ u, ws = [u] := List.length_eq_one_iff.mp hl
  obtain ⟨oc, od, kV, doc, pm, an, cdv, ct, osl, rfl, lk, hcd2⟩ := Fn.ex
  exact .of_eq (hk kV doc pm an cdv ct _ u)
theorem cf2 (S : FnScope ["self", F, G] ["self", F, G] (defScope (iSt k))) (hB : defBody (iSt k) = [.Assign [.Attribute (.Name "self" p1) F p2] (.Name F p3) p4, .Assign [.Attribute (.Name "self" q1) G q2] (.Name G q3) q4])
    (hb : ∀ (kV doc pm : Value) (an : Option Addr) (cdv ct : Value) (us : List Value), us.length = (["self", F, G] : List Str).length → bindArgs (bnd q (iSt k) kV doc pm an cdv ct) ⟨us, []⟩ = pure ((["self", F, G] : List Str).zip us))
    (hk : ∀ (kV doc pm : Value) (an : Option Addr) (cdv ct a u v : Value), bindArgs (bnd q (iSt k) kV doc pm an cdv ct) ⟨[a], [(G, u), (F, v)]⟩ = pure [(("self" : Str), a), (F, v), (G, u)]) (hd : (F == ("__debug__" : Str)) = false) (hcd : (F == ("__classdict__" : Str)) = false)
    (hd2 : (G == ("__debug__" : Str)) = false) (hcd2 : (G == ("__classdict__" : Str)) = false)
    (g : mg nm = some (.ref (ga K nm))) (ho : oexB K (ga K nm) = true) (hx : xfB K (ga K nm) = true) (hi : inB K (ga K nm) = true) (ha : atB K ⟨nm, [F, G]⟩ = true)
    (hD : ∃ fd, FunD K "__init__" q (defArgs (iSt k)) (defBody (iSt k)) (defScope (iSt k)) [] [] (fAd K (nm, some "__init__")) fd) : CF P w K mg base (adK K) ⟨nm, [F, G]⟩ := by
  obtain ⟨fd, D⟩ := hD
  have Fn := toFun D
  have T := oexB_ok ho
  have no := no_of ha List.mem_cons_self
  have no2 := no_of ha (List.mem_cons_of_mem _ List.mem_cons_self)
  obtain ⟨h1, h2⟩ := ba hi
  refine ⟨ma K (ga K nm) "__init__", fd, ⟨g, T, xfB_ok hx, no, no2, eqO_ok h1, of_decide_eq_true h2, ok_init2 Fn S hB T no no2 hd hcd hd2 hcd2, bindsOf Fn hb, fun s a ws hK hl => ?_⟩⟩
  obtain ⟨u, v, rfl⟩ : ∃ u v, ws = [u, v] := by
    match ws, hl with
    | [u, v], _ => exact ⟨u, v, rfl⟩
  obtain ⟨oc, od, kV, doc, pm, an, cdv, ct, osl, rfl, lk, hcd3⟩ := Fn.ex
  exact .of_eq (hk kV doc pm an cdv ct _ u v)
/-- the facts, one by one -/
theorem HF.n1 (h : HF K) {n : Str} (hn : n ∈ NS) : glB K n = true ∧ excB K (ga K n) = true ∧ mroB K (ga K n) (.ref (ga K "NetError") :: veB) = true ∧ kiB K (ga K n) = true := by
  obtain ⟨h1, h2⟩ := ba (List.all_eq_true.mp h.f1 n hn)
  obtain ⟨h3, h4⟩ := ba h2
  obtain ⟨h5, h6⟩ := ba h4
  exact ⟨h1, h3, h5, h6⟩
theorem HF.at_ (h : HF K) {c : Cl} (hc : c ∈ CL) : atB K c = true := List.all_eq_true.mp (ba h.f2).1 c hc
theorem HF.one (h : HF K) {n : Str} (hn : n ∈ NO) : oexB K (ga K n) = true ∧ xfB K (ga K n) = true ∧ inB K (ga K n) = true := by
  obtain ⟨h1, h2⟩ := ba (List.all_eq_true.mp (ba (ba h.f2).2).1 n hn)
  obtain ⟨h3, h4⟩ := ba h2
  exact ⟨h1, h3, h4⟩
theorem HF.zero (h : HF K) {n : Str} (hn : n ∈ NZ) : PySem.W.excIn K (ga K n) veB "ValueError.__new__" = true ∧ PySem.W.keepIn K (.ref (ga K n)) = true := ba (List.all_eq_true.mp (ba (ba h.f2).2).2 n hn)
theorem gl_ok (X : K.In base) (Gm : base.Ns mainGlobals mg) {n : Str} (h : glB K n = true) : mg n = some (.ref (ga K n)) := PySem.W.mg_of X Gm (eqO_ok h)
theorem cf_BadAnswers (X : K.In base) (Gm : base.Ns mainGlobals mg) (h : HF K) : CF P w K mg base (adK K) ⟨"BadAnswers", ["index"]⟩ := by
  have g := gl_ok X Gm (h.n1 (n := "BadAnswers") (List.mem_of_getElem? (i := 0) rfl)).1
  have ha := h.at_ (c := ⟨"BadAnswers", ["index"]⟩) (List.mem_of_getElem? (i := 0) rfl)
  obtain ⟨ho, hx, hi⟩ := h.one (n := "BadAnswers") (List.mem_of_getElem? (i := 0) (by decide +kernel))
  have hD := h.df (dI "BadAnswers" "BadAnswers.__init__" 2) (List.mem_append_right _ (List.mem_of_getElem? (i := 0) rfl))
  exact cf1 (k := 2) (q := "BadAnswers.__init__") ⟨rfl, rfl, rfl, by decide +kernel, rfl, by decide +kernel, by decide +kernel⟩ (by rfl) (fun _ _ _ _ _ _ us hl => match us, hl with | [_, _], _ => rfl) (fun _ _ _ _ _ _ _ _ => rfl) rfl rfl g ho hx hi ha hD
theorem cf_BadBase (X : K.In base) (Gm : base.Ns mainGlobals mg) (h : HF K) : CF P w K mg base (adK K) ⟨"BadBase", ["thing"]⟩ := by
  have g := gl_ok X Gm (h.n1 (n := "BadBase") (List.mem_of_getElem? (i := 1) rfl)).1
  have ha := h.at_ (c := ⟨"BadBase", ["thing"]⟩) (List.mem_of_getElem? (i := 1) rfl)
  obtain ⟨ho, hx, hi⟩ := h.one (n := "BadBase") (List.mem_of_getElem? (i := 1) (by decide +kernel))
  have hD := h.df (dI "BadBase" "BadBase.__init__" 3) (List.mem_append_right _ (List.mem_of_getElem? (i := 1) rfl))
  exact cf1 (k := 3) (q := "BadBase.__init__") ⟨rfl, rfl, rfl, by decide +kernel, rfl, by decide +kernel, by decide +kernel⟩ (by rfl) (fun _ _ _ _ _ _ us hl => match us, hl with | [_, _], _ => rfl) (fun _ _ _ _ _ _ _ _ => rfl) rfl rfl g ho hx hi ha hD
theorem cf_BadBegun (X : K.In base) (Gm : base.Ns mainGlobals mg) (h : HF K) : CF P w K mg base (adK K) ⟨"BadBegun", ["index"]⟩ := by
  have g := gl_ok X Gm (h.n1 (n := "BadBegun") (List.mem_of_getElem? (i := 2) rfl)).1
  have ha := h.at_ (c := ⟨"BadBegun", ["index"]⟩) (List.mem_of_getElem? (i := 2) rfl)
  obtain ⟨ho, hx, hi⟩ := h.one (n := "BadBegun") (List.mem_of_getElem? (i := 2) (by decide +kernel))
  have hD := h.df (dI "BadBegun" "BadBegun.__init__" 4) (List.mem_append_right _ (List.mem_of_getElem? (i := 2) rfl))
  exact cf1 (k := 4) (q := "BadBegun.__init__") ⟨rfl, rfl, rfl, by decide +kernel, rfl, by decide +kernel, by decide +kernel⟩ (by rfl) (fun _ _ _ _ _ _ us hl => match us, hl with | [_, _], _ => rfl) (fun _ _ _ _ _ _ _ _ => rfl) rfl rfl g ho hx hi ha hD
theorem cf_BadChance (X : K.In base) (Gm : base.Ns mainGlobals mg) (h : HF K) : CF P w K mg base (adK K) ⟨"BadChance", ["thing"]⟩ := by
  have g := gl_ok X Gm (h.n1 (n := "BadChance") (List.mem_of_getElem? (i := 3) rfl)).1
  have ha := h.at_ (c := ⟨"BadChance", ["thing"]⟩) (List.mem_of_getElem? (i := 3) rfl)
  obtain ⟨ho, hx, hi⟩ := h.one (n := "BadChance") (List.mem_of_getElem? (i := 3) (by decide +kernel))
  have hD := h.df (dI "BadChance" "BadChance.__init__" 5) (List.mem_append_right _ (List.mem_of_getElem? (i := 3) rfl))
  exact cf1 (k := 5) (q := "BadChance.__init__") ⟨rfl, rfl, rfl, by decide +kernel, rfl, by decide +kernel, by decide +kernel⟩ (by rfl) (fun _ _ _ _ _ _ us hl => match us, hl with | [_, _], _ => rfl) (fun _ _ _ _ _ _ _ _ => rfl) rfl rfl g ho hx hi ha hD
theorem cf_BadChoice (X : K.In base) (Gm : base.Ns mainGlobals mg) (h : HF K) : CF P w K mg base (adK K) ⟨"BadChoice", ["thing"]⟩ := by
  have g := gl_ok X Gm (h.n1 (n := "BadChoice") (List.mem_of_getElem? (i := 4) rfl)).1
  have ha := h.at_ (c := ⟨"BadChoice", ["thing"]⟩) (List.mem_of_getElem? (i := 4) rfl)
  obtain ⟨ho, hx, hi⟩ := h.one (n := "BadChoice") (List.mem_of_getElem? (i := 4) (by decide +kernel))
  have hD := h.df (dI "BadChoice" "BadChoice.__init__" 6) (List.mem_append_right _ (List.mem_of_getElem? (i := 4) rfl))
  exact cf1 (k := 6) (q := "BadChoice.__init__") ⟨rfl, rfl, rfl, by decide +kernel, rfl, by decide +kernel, by decide +kernel⟩ (by rfl) (fun _ _ _ _ _ _ us hl => match us, hl with | [_, _], _ => rfl) (fun _ _ _ _ _ _ _ _ => rfl) rfl rfl g ho hx hi ha hD
theorem cf_BadCopies (X : K.In base) (Gm : base.Ns mainGlobals mg) (h : HF K) : CF P w K mg base (adK K) ⟨"BadCopies", ["index"]⟩ := by
  have g := gl_ok X Gm (h.n1 (n := "BadCopies") (List.mem_of_getElem? (i := 5) rfl)).1
  have ha := h.at_ (c := ⟨"BadCopies", ["index"]⟩) (List.mem_of_getElem? (i := 5) rfl)
  obtain ⟨ho, hx, hi⟩ := h.one (n := "BadCopies") (List.mem_of_getElem? (i := 5) (by decide +kernel))
  have hD := h.df (dI "BadCopies" "BadCopies.__init__" 7) (List.mem_append_right _ (List.mem_of_getElem? (i := 5) rfl))
  exact cf1 (k := 7) (q := "BadCopies.__init__") ⟨rfl, rfl, rfl, by decide +kernel, rfl, by decide +kernel, by decide +kernel⟩ (by rfl) (fun _ _ _ _ _ _ us hl => match us, hl with | [_, _], _ => rfl) (fun _ _ _ _ _ _ _ _ => rfl) rfl rfl g ho hx hi ha hD
theorem cf_BadCounts (X : K.In base) (Gm : base.Ns mainGlobals mg) (h : HF K) : CF P w K mg base (adK K) ⟨"BadCounts", ["index"]⟩ := by
  have g := gl_ok X Gm (h.n1 (n := "BadCounts") (List.mem_of_getElem? (i := 6) rfl)).1
  have ha := h.at_ (c := ⟨"BadCounts", ["index"]⟩) (List.mem_of_getElem? (i := 6) rfl)
  obtain ⟨ho, hx, hi⟩ := h.one (n := "BadCounts") (List.mem_of_getElem? (i := 6) (by decide +kernel))
  have hD := h.df (dI "BadCounts" "BadCounts.__init__" 8) (List.mem_append_right _ (List.mem_of_getElem? (i := 6) rfl))
  exact cf1 (k := 8) (q := "BadCounts.__init__") ⟨rfl, rfl, rfl, by decide +kernel, rfl, by decide +kernel, by decide +kernel⟩ (by rfl) (fun _ _ _ _ _ _ us hl => match us, hl with | [_, _], _ => rfl) (fun _ _ _ _ _ _ _ _ => rfl) rfl rfl g ho hx hi ha hD
theorem cf_BadCourse (X : K.In base) (Gm : base.Ns mainGlobals mg) (h : HF K) : CF P w K mg base (adK K) ⟨"BadCourse", ["index"]⟩ := by
  have g := gl_ok X Gm (h.n1 (n := "BadCourse") (List.mem_of_getElem? (i := 7) rfl)).1
  have ha := h.at_ (c := ⟨"BadCourse", ["index"]⟩) (List.mem_of_getElem? (i := 7) rfl)
  obtain ⟨ho, hx, hi⟩ := h.one (n := "BadCourse") (List.mem_of_getElem? (i := 7) (by decide +kernel))
  have hD := h.df (dI "BadCourse" "BadCourse.__init__" 9) (List.mem_append_right _ (List.mem_of_getElem? (i := 7) rfl))
  exact cf1 (k := 9) (q := "BadCourse.__init__") ⟨rfl, rfl, rfl, by decide +kernel, rfl, by decide +kernel, by decide +kernel⟩ (by rfl) (fun _ _ _ _ _ _ us hl => match us, hl with | [_, _], _ => rfl) (fun _ _ _ _ _ _ _ _ => rfl) rfl rfl g ho hx hi ha hD
theorem cf_BadDeed (X : K.In base) (Gm : base.Ns mainGlobals mg) (h : HF K) : CF P w K mg base (adK K) ⟨"BadDeed", ["thing"]⟩ := by
  have g := gl_ok X Gm (h.n1 (n := "BadDeed") (List.mem_of_getElem? (i := 8) rfl)).1
  have ha := h.at_ (c := ⟨"BadDeed", ["thing"]⟩) (List.mem_of_getElem? (i := 8) rfl)
  obtain ⟨ho, hx, hi⟩ := h.one (n := "BadDeed") (List.mem_of_getElem? (i := 8) (by decide +kernel))
  have hD := h.df (dI "BadDeed" "BadDeed.__init__" 10) (List.mem_append_right _ (List.mem_of_getElem? (i := 8) rfl))
  exact cf1 (k := 10) (q := "BadDeed.__init__") ⟨rfl, rfl, rfl, by decide +kernel, rfl, by decide +kernel, by decide +kernel⟩ (by rfl) (fun _ _ _ _ _ _ us hl => match us, hl with | [_, _], _ => rfl) (fun _ _ _ _ _ _ _ _ => rfl) rfl rfl g ho hx hi ha hD
theorem cf_BadDoor (X : K.In base) (Gm : base.Ns mainGlobals mg) (h : HF K) : CF P w K mg base (adK K) ⟨"BadDoor", ["thing"]⟩ := by
  have g := gl_ok X Gm (h.n1 (n := "BadDoor") (List.mem_of_getElem? (i := 9) rfl)).1
  have ha := h.at_ (c := ⟨"BadDoor", ["thing"]⟩) (List.mem_of_getElem? (i := 9) rfl)
  obtain ⟨ho, hx, hi⟩ := h.one (n := "BadDoor") (List.mem_of_getElem? (i := 9) (by decide +kernel))
  have hD := h.df (dI "BadDoor" "BadDoor.__init__" 11) (List.mem_append_right _ (List.mem_of_getElem? (i := 9) rfl))
  exact cf1 (k := 11) (q := "BadDoor.__init__") ⟨rfl, rfl, rfl, by decide +kernel, rfl, by decide +kernel, by decide +kernel⟩ (by rfl) (fun _ _ _ _ _ _ us hl => match us, hl with | [_, _], _ => rfl) (fun _ _ _ _ _ _ _ _ => rfl) rfl rfl g ho hx hi ha hD
theorem cf_BadDoors (X : K.In base) (Gm : base.Ns mainGlobals mg) (h : HF K) : CF P w K mg base (adK K) ⟨"BadDoors", ["index"]⟩ := by
  have g := gl_ok X Gm (h.n1 (n := "BadDoors") (List.mem_of_getElem? (i := 10) rfl)).1
  have ha := h.at_ (c := ⟨"BadDoors", ["index"]⟩) (List.mem_of_getElem? (i := 10) rfl)
  obtain ⟨ho, hx, hi⟩ := h.one (n := "BadDoors") (List.mem_of_getElem? (i := 10) (by decide +kernel))
  have hD := h.df (dI "BadDoors" "BadDoors.__init__" 12) (List.mem_append_right _ (List.mem_of_getElem? (i := 10) rfl))
  exact cf1 (k := 12) (q := "BadDoors.__init__") ⟨rfl, rfl, rfl, by decide +kernel, rfl, by decide +kernel, by decide +kernel⟩ (by rfl) (fun _ _ _ _ _ _ us hl => match us, hl with | [_, _], _ => rfl) (fun _ _ _ _ _ _ _ _ => rfl) rfl rfl g ho hx hi ha hD
theorem cf_BadDue (X : K.In base) (Gm : base.Ns mainGlobals mg) (h : HF K) : CF P w K mg base (adK K) ⟨"BadDue", ["thing"]⟩ := by
  have g := gl_ok X Gm (h.n1 (n := "BadDue") (List.mem_of_getElem? (i := 11) rfl)).1
  have ha := h.at_ (c := ⟨"BadDue", ["thing"]⟩) (List.mem_of_getElem? (i := 11) rfl)
  obtain ⟨ho, hx, hi⟩ := h.one (n := "BadDue") (List.mem_of_getElem? (i := 11) (by decide +kernel))
  have hD := h.df (dI "BadDue" "BadDue.__init__" 13) (List.mem_append_right _ (List.mem_of_getElem? (i := 11) rfl))
  exact cf1 (k := 13) (q := "BadDue.__init__") ⟨rfl, rfl, rfl, by decide +kernel, rfl, by decide +kernel, by decide +kernel⟩ (by rfl) (fun _ _ _ _ _ _ us hl => match us, hl with | [_, _], _ => rfl) (fun _ _ _ _ _ _ _ _ => rfl) rfl rfl g ho hx hi ha hD
theorem cf_BadForm (X : K.In base) (Gm : base.Ns mainGlobals mg) (h : HF K) : CF P w K mg base (adK K) ⟨"BadForm", ["index"]⟩ := by
  have g := gl_ok X Gm (h.n1 (n := "BadForm") (List.mem_of_getElem? (i := 12) rfl)).1
  have ha := h.at_ (c := ⟨"BadForm", ["index"]⟩) (List.mem_of_getElem? (i := 12) rfl)
  obtain ⟨ho, hx, hi⟩ := h.one (n := "BadForm") (List.mem_of_getElem? (i := 12) (by decide +kernel))
  have hD := h.df (dI "BadForm" "BadForm.__init__" 14) (List.mem_append_right _ (List.mem_of_getElem? (i := 12) rfl))
  exact cf1 (k := 14) (q := "BadForm.__init__") ⟨rfl, rfl, rfl, by decide +kernel, rfl, by decide +kernel, by decide +kernel⟩ (by rfl) (fun _ _ _ _ _ _ us hl => match us, hl with | [_, _], _ => rfl) (fun _ _ _ _ _ _ _ _ => rfl) rfl rfl g ho hx hi ha hD
theorem cf_BadImages (X : K.In base) (Gm : base.Ns mainGlobals mg) (h : HF K) : CF P w K mg base (adK K) ⟨"BadImages", ["index"]⟩ := by
  have g := gl_ok X Gm (h.n1 (n := "BadImages") (List.mem_of_getElem? (i := 13) rfl)).1
  have ha := h.at_ (c := ⟨"BadImages", ["index"]⟩) (List.mem_of_getElem? (i := 13) rfl)
  obtain ⟨ho, hx, hi⟩ := h.one (n := "BadImages") (List.mem_of_getElem? (i := 13) (by decide +kernel))
  have hD := h.df (dI "BadImages" "BadImages.__init__" 15) (List.mem_append_right _ (List.mem_of_getElem? (i := 13) rfl))
  exact cf1 (k := 15) (q := "BadImages.__init__") ⟨rfl, rfl, rfl, by decide +kernel, rfl, by decide +kernel, by decide +kernel⟩ (by rfl) (fun _ _ _ _ _ _ us hl => match us, hl with | [_, _], _ => rfl) (fun _ _ _ _ _ _ _ _ => rfl) rfl rfl g ho hx hi ha hD
theorem cf_BadIns (X : K.In base) (Gm : base.Ns mainGlobals mg) (h : HF K) : CF P w K mg base (adK K) ⟨"BadIns", ["index"]⟩ := by
  have g := gl_ok X Gm (h.n1 (n := "BadIns") (List.mem_of_getElem? (i := 14) rfl)).1
  have ha := h.at_ (c := ⟨"BadIns", ["index"]⟩) (List.mem_of_getElem? (i := 14) rfl)
  obtain ⟨ho, hx, hi⟩ := h.one (n := "BadIns") (List.mem_of_getElem? (i := 14) (by decide +kernel))
  have hD := h.df (dI "BadIns" "BadIns.__init__" 16) (List.mem_append_right _ (List.mem_of_getElem? (i := 14) rfl))
  exact cf1 (k := 16) (q := "BadIns.__init__") ⟨rfl, rfl, rfl, by decide +kernel, rfl, by decide +kernel, by decide +kernel⟩ (by rfl) (fun _ _ _ _ _ _ us hl => match us, hl with | [_, _], _ => rfl) (fun _ _ _ _ _ _ _ _ => rfl) rfl rfl g ho hx hi ha hD
theorem cf_BadLetters (X : K.In base) (Gm : base.Ns mainGlobals mg) (h : HF K) : CF P w K mg base (adK K) ⟨"BadLetters", ["index"]⟩ := by
  have g := gl_ok X Gm (h.n1 (n := "BadLetters") (List.mem_of_getElem? (i := 15) rfl)).1
  have ha := h.at_ (c := ⟨"BadLetters", ["index"]⟩) (List.mem_of_getElem? (i := 15) rfl)
  obtain ⟨ho, hx, hi⟩ := h.one (n := "BadLetters") (List.mem_of_getElem? (i := 15) (by decide +kernel))
  have hD := h.df (dI "BadLetters" "BadLetters.__init__" 17) (List.mem_append_right _ (List.mem_of_getElem? (i := 15) rfl))
  exact cf1 (k := 17) (q := "BadLetters.__init__") ⟨rfl, rfl, rfl, by decide +kernel, rfl, by decide +kernel, by decide +kernel⟩ (by rfl) (fun _ _ _ _ _ _ us hl => match us, hl with | [_, _], _ => rfl) (fun _ _ _ _ _ _ _ _ => rfl) rfl rfl g ho hx hi ha hD
theorem cf_BadLoops (X : K.In base) (Gm : base.Ns mainGlobals mg) (h : HF K) : CF P w K mg base (adK K) ⟨"BadLoops", ["thing"]⟩ := by
  have g := gl_ok X Gm (h.n1 (n := "BadLoops") (List.mem_of_getElem? (i := 16) rfl)).1
  have ha := h.at_ (c := ⟨"BadLoops", ["thing"]⟩) (List.mem_of_getElem? (i := 16) rfl)
  obtain ⟨ho, hx, hi⟩ := h.one (n := "BadLoops") (List.mem_of_getElem? (i := 16) (by decide +kernel))
  have hD := h.df (dI "BadLoops" "BadLoops.__init__" 18) (List.mem_append_right _ (List.mem_of_getElem? (i := 16) rfl))
  exact cf1 (k := 18) (q := "BadLoops.__init__") ⟨rfl, rfl, rfl, by decide +kernel, rfl, by decide +kernel, by decide +kernel⟩ (by rfl) (fun _ _ _ _ _ _ us hl => match us, hl with | [_, _], _ => rfl) (fun _ _ _ _ _ _ _ _ => rfl) rfl rfl g ho hx hi ha hD
theorem cf_BadMany (X : K.In base) (Gm : base.Ns mainGlobals mg) (h : HF K) : CF P w K mg base (adK K) ⟨"BadMany", ["thing"]⟩ := by
  have g := gl_ok X Gm (h.n1 (n := "BadMany") (List.mem_of_getElem? (i := 17) rfl)).1
  have ha := h.at_ (c := ⟨"BadMany", ["thing"]⟩) (List.mem_of_getElem? (i := 17) rfl)
  obtain ⟨ho, hx, hi⟩ := h.one (n := "BadMany") (List.mem_of_getElem? (i := 17) (by decide +kernel))
  have hD := h.df (dI "BadMany" "BadMany.__init__" 19) (List.mem_append_right _ (List.mem_of_getElem? (i := 17) rfl))
  exact cf1 (k := 19) (q := "BadMany.__init__") ⟨rfl, rfl, rfl, by decide +kernel, rfl, by decide +kernel, by decide +kernel⟩ (by rfl) (fun _ _ _ _ _ _ us hl => match us, hl with | [_, _], _ => rfl) (fun _ _ _ _ _ _ _ _ => rfl) rfl rfl g ho hx hi ha hD
theorem cf_BadModuli (X : K.In base) (Gm : base.Ns mainGlobals mg) (h : HF K) : CF P w K mg base (adK K) ⟨"BadModuli", ["index"]⟩ := by
  have g := gl_ok X Gm (h.n1 (n := "BadModuli") (List.mem_of_getElem? (i := 18) rfl)).1
  have ha := h.at_ (c := ⟨"BadModuli", ["index"]⟩) (List.mem_of_getElem? (i := 18) rfl)
  obtain ⟨ho, hx, hi⟩ := h.one (n := "BadModuli") (List.mem_of_getElem? (i := 18) (by decide +kernel))
  have hD := h.df (dI "BadModuli" "BadModuli.__init__" 20) (List.mem_append_right _ (List.mem_of_getElem? (i := 18) rfl))
  exact cf1 (k := 20) (q := "BadModuli.__init__") ⟨rfl, rfl, rfl, by decide +kernel, rfl, by decide +kernel, by decide +kernel⟩ (by rfl) (fun _ _ _ _ _ _ us hl => match us, hl with | [_, _], _ => rfl) (fun _ _ _ _ _ _ _ _ => rfl) rfl rfl g ho hx hi ha hD
theorem cf_BadNetRow (X : K.In base) (Gm : base.Ns mainGlobals mg) (h : HF K) : CF P w K mg base (adK K) ⟨"BadNetRow", ["index"]⟩ := by
  have g := gl_ok X Gm (h.n1 (n := "BadNetRow") (List.mem_of_getElem? (i := 19) rfl)).1
  have ha := h.at_ (c := ⟨"BadNetRow", ["index"]⟩) (List.mem_of_getElem? (i := 19) rfl)
  obtain ⟨ho, hx, hi⟩ := h.one (n := "BadNetRow") (List.mem_of_getElem? (i := 19) (by decide +kernel))
  have hD := h.df (dI "BadNetRow" "BadNetRow.__init__" 21) (List.mem_append_right _ (List.mem_of_getElem? (i := 19) rfl))
  exact cf1 (k := 21) (q := "BadNetRow.__init__") ⟨rfl, rfl, rfl, by decide +kernel, rfl, by decide +kernel, by decide +kernel⟩ (by rfl) (fun _ _ _ _ _ _ us hl => match us, hl with | [_, _], _ => rfl) (fun _ _ _ _ _ _ _ _ => rfl) rfl rfl g ho hx hi ha hD
theorem cf_BadNetRows (X : K.In base) (Gm : base.Ns mainGlobals mg) (h : HF K) : CF P w K mg base (adK K) ⟨"BadNetRows", ["index"]⟩ := by
  have g := gl_ok X Gm (h.n1 (n := "BadNetRows") (List.mem_of_getElem? (i := 20) rfl)).1
  have ha := h.at_ (c := ⟨"BadNetRows", ["index"]⟩) (List.mem_of_getElem? (i := 20) rfl)
  obtain ⟨ho, hx, hi⟩ := h.one (n := "BadNetRows") (List.mem_of_getElem? (i := 20) (by decide +kernel))
  have hD := h.df (dI "BadNetRows" "BadNetRows.__init__" 22) (List.mem_append_right _ (List.mem_of_getElem? (i := 20) rfl))
  exact cf1 (k := 22) (q := "BadNetRows.__init__") ⟨rfl, rfl, rfl, by decide +kernel, rfl, by decide +kernel, by decide +kernel⟩ (by rfl) (fun _ _ _ _ _ _ us hl => match us, hl with | [_, _], _ => rfl) (fun _ _ _ _ _ _ _ _ => rfl) rfl rfl g ho hx hi ha hD
theorem cf_BadNets (X : K.In base) (Gm : base.Ns mainGlobals mg) (h : HF K) : CF P w K mg base (adK K) ⟨"BadNets", ["index"]⟩ := by
  have g := gl_ok X Gm (h.n1 (n := "BadNets") (List.mem_of_getElem? (i := 21) rfl)).1
  have ha := h.at_ (c := ⟨"BadNets", ["index"]⟩) (List.mem_of_getElem? (i := 21) rfl)
  obtain ⟨ho, hx, hi⟩ := h.one (n := "BadNets") (List.mem_of_getElem? (i := 21) (by decide +kernel))
  have hD := h.df (dI "BadNets" "BadNets.__init__" 23) (List.mem_append_right _ (List.mem_of_getElem? (i := 21) rfl))
  exact cf1 (k := 23) (q := "BadNets.__init__") ⟨rfl, rfl, rfl, by decide +kernel, rfl, by decide +kernel, by decide +kernel⟩ (by rfl) (fun _ _ _ _ _ _ us hl => match us, hl with | [_, _], _ => rfl) (fun _ _ _ _ _ _ _ _ => rfl) rfl rfl g ho hx hi ha hD
theorem cf_BadNumber (X : K.In base) (Gm : base.Ns mainGlobals mg) (h : HF K) : CF P w K mg base (adK K) ⟨"BadNumber", ["thing"]⟩ := by
  have g := gl_ok X Gm (h.n1 (n := "BadNumber") (List.mem_of_getElem? (i := 22) rfl)).1
  have ha := h.at_ (c := ⟨"BadNumber", ["thing"]⟩) (List.mem_of_getElem? (i := 22) rfl)
  obtain ⟨ho, hx, hi⟩ := h.one (n := "BadNumber") (List.mem_of_getElem? (i := 22) (by decide +kernel))
  have hD := h.df (dI "BadNumber" "BadNumber.__init__" 24) (List.mem_append_right _ (List.mem_of_getElem? (i := 22) rfl))
  exact cf1 (k := 24) (q := "BadNumber.__init__") ⟨rfl, rfl, rfl, by decide +kernel, rfl, by decide +kernel, by decide +kernel⟩ (by rfl) (fun _ _ _ _ _ _ us hl => match us, hl with | [_, _], _ => rfl) (fun _ _ _ _ _ _ _ _ => rfl) rfl rfl g ho hx hi ha hD
theorem cf_BadOrder (X : K.In base) (Gm : base.Ns mainGlobals mg) (h : HF K) : CF P w K mg base (adK K) ⟨"BadOrder", ["index"]⟩ := by
  have g := gl_ok X Gm (h.n1 (n := "BadOrder") (List.mem_of_getElem? (i := 23) rfl)).1
  have ha := h.at_ (c := ⟨"BadOrder", ["index"]⟩) (List.mem_of_getElem? (i := 23) rfl)
  obtain ⟨ho, hx, hi⟩ := h.one (n := "BadOrder") (List.mem_of_getElem? (i := 23) (by decide +kernel))
  have hD := h.df (dI "BadOrder" "BadOrder.__init__" 25) (List.mem_append_right _ (List.mem_of_getElem? (i := 23) rfl))
  exact cf1 (k := 25) (q := "BadOrder.__init__") ⟨rfl, rfl, rfl, by decide +kernel, rfl, by decide +kernel, by decide +kernel⟩ (by rfl) (fun _ _ _ _ _ _ us hl => match us, hl with | [_, _], _ => rfl) (fun _ _ _ _ _ _ _ _ => rfl) rfl rfl g ho hx hi ha hD
theorem cf_BadOuts (X : K.In base) (Gm : base.Ns mainGlobals mg) (h : HF K) : CF P w K mg base (adK K) ⟨"BadOuts", ["index"]⟩ := by
  have g := gl_ok X Gm (h.n1 (n := "BadOuts") (List.mem_of_getElem? (i := 24) rfl)).1
  have ha := h.at_ (c := ⟨"BadOuts", ["index"]⟩) (List.mem_of_getElem? (i := 24) rfl)
  obtain ⟨ho, hx, hi⟩ := h.one (n := "BadOuts") (List.mem_of_getElem? (i := 24) (by decide +kernel))
  have hD := h.df (dI "BadOuts" "BadOuts.__init__" 26) (List.mem_append_right _ (List.mem_of_getElem? (i := 24) rfl))
  exact cf1 (k := 26) (q := "BadOuts.__init__") ⟨rfl, rfl, rfl, by decide +kernel, rfl, by decide +kernel, by decide +kernel⟩ (by rfl) (fun _ _ _ _ _ _ us hl => match us, hl with | [_, _], _ => rfl) (fun _ _ _ _ _ _ _ _ => rfl) rfl rfl g ho hx hi ha hD
theorem cf_BadParting (X : K.In base) (Gm : base.Ns mainGlobals mg) (h : HF K) : CF P w K mg base (adK K) ⟨"BadParting", ["index"]⟩ := by
  have g := gl_ok X Gm (h.n1 (n := "BadParting") (List.mem_of_getElem? (i := 25) rfl)).1
  have ha := h.at_ (c := ⟨"BadParting", ["index"]⟩) (List.mem_of_getElem? (i := 25) rfl)
  obtain ⟨ho, hx, hi⟩ := h.one (n := "BadParting") (List.mem_of_getElem? (i := 25) (by decide +kernel))
  have hD := h.df (dI "BadParting" "BadParting.__init__" 27) (List.mem_append_right _ (List.mem_of_getElem? (i := 25) rfl))
  exact cf1 (k := 27) (q := "BadParting.__init__") ⟨rfl, rfl, rfl, by decide +kernel, rfl, by decide +kernel, by decide +kernel⟩ (by rfl) (fun _ _ _ _ _ _ us hl => match us, hl with | [_, _], _ => rfl) (fun _ _ _ _ _ _ _ _ => rfl) rfl rfl g ho hx hi ha hD
theorem cf_BadPeriod (X : K.In base) (Gm : base.Ns mainGlobals mg) (h : HF K) : CF P w K mg base (adK K) ⟨"BadPeriod", ["thing"]⟩ := by
  have g := gl_ok X Gm (h.n1 (n := "BadPeriod") (List.mem_of_getElem? (i := 26) rfl)).1
  have ha := h.at_ (c := ⟨"BadPeriod", ["thing"]⟩) (List.mem_of_getElem? (i := 26) rfl)
  obtain ⟨ho, hx, hi⟩ := h.one (n := "BadPeriod") (List.mem_of_getElem? (i := 26) (by decide +kernel))
  have hD := h.df (dI "BadPeriod" "BadPeriod.__init__" 28) (List.mem_append_right _ (List.mem_of_getElem? (i := 26) rfl))
  exact cf1 (k := 28) (q := "BadPeriod.__init__") ⟨rfl, rfl, rfl, by decide +kernel, rfl, by decide +kernel, by decide +kernel⟩ (by rfl) (fun _ _ _ _ _ _ us hl => match us, hl with | [_, _], _ => rfl) (fun _ _ _ _ _ _ _ _ => rfl) rfl rfl g ho hx hi ha hD
theorem cf_BadPicks (X : K.In base) (Gm : base.Ns mainGlobals mg) (h : HF K) : CF P w K mg base (adK K) ⟨"BadPicks", ["index"]⟩ := by
  have g := gl_ok X Gm (h.n1 (n := "BadPicks") (List.mem_of_getElem? (i := 27) rfl)).1
  have ha := h.at_ (c := ⟨"BadPicks", ["index"]⟩) (List.mem_of_getElem? (i := 27) rfl)
  obtain ⟨ho, hx, hi⟩ := h.one (n := "BadPicks") (List.mem_of_getElem? (i := 27) (by decide +kernel))
  have hD := h.df (dI "BadPicks" "BadPicks.__init__" 29) (List.mem_append_right _ (List.mem_of_getElem? (i := 27) rfl))
  exact cf1 (k := 29) (q := "BadPicks.__init__") ⟨rfl, rfl, rfl, by decide +kernel, rfl, by decide +kernel, by decide +kernel⟩ (by rfl) (fun _ _ _ _ _ _ us hl => match us, hl with | [_, _], _ => rfl) (fun _ _ _ _ _ _ _ _ => rfl) rfl rfl g ho hx hi ha hD
theorem cf_BadPiece (X : K.In base) (Gm : base.Ns mainGlobals mg) (h : HF K) : CF P w K mg base (adK K) ⟨"BadPiece", ["thing"]⟩ := by
  have g := gl_ok X Gm (h.n1 (n := "BadPiece") (List.mem_of_getElem? (i := 28) rfl)).1
  have ha := h.at_ (c := ⟨"BadPiece", ["thing"]⟩) (List.mem_of_getElem? (i := 28) rfl)
  obtain ⟨ho, hx, hi⟩ := h.one (n := "BadPiece") (List.mem_of_getElem? (i := 28) (by decide +kernel))
  have hD := h.df (dI "BadPiece" "BadPiece.__init__" 30) (List.mem_append_right _ (List.mem_of_getElem? (i := 28) rfl))
  exact cf1 (k := 30) (q := "BadPiece.__init__") ⟨rfl, rfl, rfl, by decide +kernel, rfl, by decide +kernel, by decide +kernel⟩ (by rfl) (fun _ _ _ _ _ _ us hl => match us, hl with | [_, _], _ => rfl) (fun _ _ _ _ _ _ _ _ => rfl) rfl rfl g ho hx hi ha hD
theorem cf_BadPieces (X : K.In base) (Gm : base.Ns mainGlobals mg) (h : HF K) : CF P w K mg base (adK K) ⟨"BadPieces", ["index"]⟩ := by
  have g := gl_ok X Gm (h.n1 (n := "BadPieces") (List.mem_of_getElem? (i := 29) rfl)).1
  have ha := h.at_ (c := ⟨"BadPieces", ["index"]⟩) (List.mem_of_getElem? (i := 29) rfl)
  obtain ⟨ho, hx, hi⟩ := h.one (n := "BadPieces") (List.mem_of_getElem? (i := 29) (by decide +kernel))
  have hD := h.df (dI "BadPieces" "BadPieces.__init__" 31) (List.mem_append_right _ (List.mem_of_getElem? (i := 29) rfl))
  exact cf1 (k := 31) (q := "BadPieces.__init__") ⟨rfl, rfl, rfl, by decide +kernel, rfl, by decide +kernel, by decide +kernel⟩ (by rfl) (fun _ _ _ _ _ _ us hl => match us, hl with | [_, _], _ => rfl) (fun _ _ _ _ _ _ _ _ => rfl) rfl rfl g ho hx hi ha hD
theorem cf_BadPlaces (X : K.In base) (Gm : base.Ns mainGlobals mg) (h : HF K) : CF P w K mg base (adK K) ⟨"BadPlaces", ["index"]⟩ := by
  have g := gl_ok X Gm (h.n1 (n := "BadPlaces") (List.mem_of_getElem? (i := 30) rfl)).1
  have ha := h.at_ (c := ⟨"BadPlaces", ["index"]⟩) (List.mem_of_getElem? (i := 30) rfl)
  obtain ⟨ho, hx, hi⟩ := h.one (n := "BadPlaces") (List.mem_of_getElem? (i := 30) (by decide +kernel))
  have hD := h.df (dI "BadPlaces" "BadPlaces.__init__" 32) (List.mem_append_right _ (List.mem_of_getElem? (i := 30) rfl))
  exact cf1 (k := 32) (q := "BadPlaces.__init__") ⟨rfl, rfl, rfl, by decide +kernel, rfl, by decide +kernel, by decide +kernel⟩ (by rfl) (fun _ _ _ _ _ _ us hl => match us, hl with | [_, _], _ => rfl) (fun _ _ _ _ _ _ _ _ => rfl) rfl rfl g ho hx hi ha hD
theorem cf_BadPlan (X : K.In base) (Gm : base.Ns mainGlobals mg) (h : HF K) : CF P w K mg base (adK K) ⟨"BadPlan", ["thing"]⟩ := by
  have g := gl_ok X Gm (h.n1 (n := "BadPlan") (List.mem_of_getElem? (i := 31) rfl)).1
  have ha := h.at_ (c := ⟨"BadPlan", ["thing"]⟩) (List.mem_of_getElem? (i := 31) rfl)
  obtain ⟨ho, hx, hi⟩ := h.one (n := "BadPlan") (List.mem_of_getElem? (i := 31) (by decide +kernel))
  have hD := h.df (dI "BadPlan" "BadPlan.__init__" 33) (List.mem_append_right _ (List.mem_of_getElem? (i := 31) rfl))
  exact cf1 (k := 33) (q := "BadPlan.__init__") ⟨rfl, rfl, rfl, by decide +kernel, rfl, by decide +kernel, by decide +kernel⟩ (by rfl) (fun _ _ _ _ _ _ us hl => match us, hl with | [_, _], _ => rfl) (fun _ _ _ _ _ _ _ _ => rfl) rfl rfl g ho hx hi ha hD
theorem cf_BadQuestion (X : K.In base) (Gm : base.Ns mainGlobals mg) (h : HF K) : CF P w K mg base (adK K) ⟨"BadQuestion", ["thing"]⟩ := by
  have g := gl_ok X Gm (h.n1 (n := "BadQuestion") (List.mem_of_getElem? (i := 32) rfl)).1
  have ha := h.at_ (c := ⟨"BadQuestion", ["thing"]⟩) (List.mem_of_getElem? (i := 32) rfl)
  obtain ⟨ho, hx, hi⟩ := h.one (n := "BadQuestion") (List.mem_of_getElem? (i := 32) (by decide +kernel))
  have hD := h.df (dI "BadQuestion" "BadQuestion.__init__" 34) (List.mem_append_right _ (List.mem_of_getElem? (i := 32) rfl))
  exact cf1 (k := 34) (q := "BadQuestion.__init__") ⟨rfl, rfl, rfl, by decide +kernel, rfl, by decide +kernel, by decide +kernel⟩ (by rfl) (fun _ _ _ _ _ _ us hl => match us, hl with | [_, _], _ => rfl) (fun _ _ _ _ _ _ _ _ => rfl) rfl rfl g ho hx hi ha hD
theorem cf_BadRight (X : K.In base) (Gm : base.Ns mainGlobals mg) (h : HF K) : CF P w K mg base (adK K) ⟨"BadRight", ["thing"]⟩ := by
  have g := gl_ok X Gm (h.n1 (n := "BadRight") (List.mem_of_getElem? (i := 33) rfl)).1
  have ha := h.at_ (c := ⟨"BadRight", ["thing"]⟩) (List.mem_of_getElem? (i := 33) rfl)
  obtain ⟨ho, hx, hi⟩ := h.one (n := "BadRight") (List.mem_of_getElem? (i := 33) (by decide +kernel))
  have hD := h.df (dI "BadRight" "BadRight.__init__" 35) (List.mem_append_right _ (List.mem_of_getElem? (i := 33) rfl))
  exact cf1 (k := 35) (q := "BadRight.__init__") ⟨rfl, rfl, rfl, by decide +kernel, rfl, by decide +kernel, by decide +kernel⟩ (by rfl) (fun _ _ _ _ _ _ us hl => match us, hl with | [_, _], _ => rfl) (fun _ _ _ _ _ _ _ _ => rfl) rfl rfl g ho hx hi ha hD
theorem cf_BadRoads (X : K.In base) (Gm : base.Ns mainGlobals mg) (h : HF K) : CF P w K mg base (adK K) ⟨"BadRoads", ["index"]⟩ := by
  have g := gl_ok X Gm (h.n1 (n := "BadRoads") (List.mem_of_getElem? (i := 34) rfl)).1
  have ha := h.at_ (c := ⟨"BadRoads", ["index"]⟩) (List.mem_of_getElem? (i := 34) rfl)
  obtain ⟨ho, hx, hi⟩ := h.one (n := "BadRoads") (List.mem_of_getElem? (i := 34) (by decide +kernel))
  have hD := h.df (dI "BadRoads" "BadRoads.__init__" 36) (List.mem_append_right _ (List.mem_of_getElem? (i := 34) rfl))
  exact cf1 (k := 36) (q := "BadRoads.__init__") ⟨rfl, rfl, rfl, by decide +kernel, rfl, by decide +kernel, by decide +kernel⟩ (by rfl) (fun _ _ _ _ _ _ us hl => match us, hl with | [_, _], _ => rfl) (fun _ _ _ _ _ _ _ _ => rfl) rfl rfl g ho hx hi ha hD
theorem cf_BadSenses (X : K.In base) (Gm : base.Ns mainGlobals mg) (h : HF K) : CF P w K mg base (adK K) ⟨"BadSenses", ["index"]⟩ := by
  have g := gl_ok X Gm (h.n1 (n := "BadSenses") (List.mem_of_getElem? (i := 35) rfl)).1
  have ha := h.at_ (c := ⟨"BadSenses", ["index"]⟩) (List.mem_of_getElem? (i := 35) rfl)
  obtain ⟨ho, hx, hi⟩ := h.one (n := "BadSenses") (List.mem_of_getElem? (i := 35) (by decide +kernel))
  have hD := h.df (dI "BadSenses" "BadSenses.__init__" 37) (List.mem_append_right _ (List.mem_of_getElem? (i := 35) rfl))
  exact cf1 (k := 37) (q := "BadSenses.__init__") ⟨rfl, rfl, rfl, by decide +kernel, rfl, by decide +kernel, by decide +kernel⟩ (by rfl) (fun _ _ _ _ _ _ us hl => match us, hl with | [_, _], _ => rfl) (fun _ _ _ _ _ _ _ _ => rfl) rfl rfl g ho hx hi ha hD
theorem cf_BadSheet (X : K.In base) (Gm : base.Ns mainGlobals mg) (h : HF K) : CF P w K mg base (adK K) ⟨"BadSheet", ["index"]⟩ := by
  have g := gl_ok X Gm (h.n1 (n := "BadSheet") (List.mem_of_getElem? (i := 36) rfl)).1
  have ha := h.at_ (c := ⟨"BadSheet", ["index"]⟩) (List.mem_of_getElem? (i := 36) rfl)
  obtain ⟨ho, hx, hi⟩ := h.one (n := "BadSheet") (List.mem_of_getElem? (i := 36) (by decide +kernel))
  have hD := h.df (dI "BadSheet" "BadSheet.__init__" 38) (List.mem_append_right _ (List.mem_of_getElem? (i := 36) rfl))
  exact cf1 (k := 38) (q := "BadSheet.__init__") ⟨rfl, rfl, rfl, by decide +kernel, rfl, by decide +kernel, by decide +kernel⟩ (by rfl) (fun _ _ _ _ _ _ us hl => match us, hl with | [_, _], _ => rfl) (fun _ _ _ _ _ _ _ _ => rfl) rfl rfl g ho hx hi ha hD
theorem cf_BadSides (X : K.In base) (Gm : base.Ns mainGlobals mg) (h : HF K) : CF P w K mg base (adK K) ⟨"BadSides", ["thing"]⟩ := by
  have g := gl_ok X Gm (h.n1 (n := "BadSides") (List.mem_of_getElem? (i := 37) rfl)).1
  have ha := h.at_ (c := ⟨"BadSides", ["thing"]⟩) (List.mem_of_getElem? (i := 37) rfl)
  obtain ⟨ho, hx, hi⟩ := h.one (n := "BadSides") (List.mem_of_getElem? (i := 37) (by decide +kernel))
  have hD := h.df (dI "BadSides" "BadSides.__init__" 39) (List.mem_append_right _ (List.mem_of_getElem? (i := 37) rfl))
  exact cf1 (k := 39) (q := "BadSides.__init__") ⟨rfl, rfl, rfl, by decide +kernel, rfl, by decide +kernel, by decide +kernel⟩ (by rfl) (fun _ _ _ _ _ _ us hl => match us, hl with | [_, _], _ => rfl) (fun _ _ _ _ _ _ _ _ => rfl) rfl rfl g ho hx hi ha hD
theorem cf_BadSigns (X : K.In base) (Gm : base.Ns mainGlobals mg) (h : HF K) : CF P w K mg base (adK K) ⟨"BadSigns", ["index"]⟩ := by
  have g := gl_ok X Gm (h.n1 (n := "BadSigns") (List.mem_of_getElem? (i := 38) rfl)).1
  have ha := h.at_ (c := ⟨"BadSigns", ["index"]⟩) (List.mem_of_getElem? (i := 38) rfl)
  obtain ⟨ho, hx, hi⟩ := h.one (n := "BadSigns") (List.mem_of_getElem? (i := 38) (by decide +kernel))
  have hD := h.df (dI "BadSigns" "BadSigns.__init__" 40) (List.mem_append_right _ (List.mem_of_getElem? (i := 38) rfl))
  exact cf1 (k := 40) (q := "BadSigns.__init__") ⟨rfl, rfl, rfl, by decide +kernel, rfl, by decide +kernel, by decide +kernel⟩ (by rfl) (fun _ _ _ _ _ _ us hl => match us, hl with | [_, _], _ => rfl) (fun _ _ _ _ _ _ _ _ => rfl) rfl rfl g ho hx hi ha hD
theorem cf_BadSteps (X : K.In base) (Gm : base.Ns mainGlobals mg) (h : HF K) : CF P w K mg base (adK K) ⟨"BadSteps", ["index"]⟩ := by
  have g := gl_ok X Gm (h.n1 (n := "BadSteps") (List.mem_of_getElem? (i := 39) rfl)).1
  have ha := h.at_ (c := ⟨"BadSteps", ["index"]⟩) (List.mem_of_getElem? (i := 39) rfl)
  obtain ⟨ho, hx, hi⟩ := h.one (n := "BadSteps") (List.mem_of_getElem? (i := 39) (by decide +kernel))
  have hD := h.df (dI "BadSteps" "BadSteps.__init__" 41) (List.mem_append_right _ (List.mem_of_getElem? (i := 39) rfl))
  exact cf1 (k := 41) (q := "BadSteps.__init__") ⟨rfl, rfl, rfl, by decide +kernel, rfl, by decide +kernel, by decide +kernel⟩ (by rfl) (fun _ _ _ _ _ _ us hl => match us, hl with | [_, _], _ => rfl) (fun _ _ _ _ _ _ _ _ => rfl) rfl rfl g ho hx hi ha hD
theorem cf_BadText (X : K.In base) (Gm : base.Ns mainGlobals mg) (h : HF K) : CF P w K mg base (adK K) ⟨"BadText", ["line"]⟩ := by
  have g := gl_ok X Gm (h.n1 (n := "BadText") (List.mem_of_getElem? (i := 40) rfl)).1
  have ha := h.at_ (c := ⟨"BadText", ["line"]⟩) (List.mem_of_getElem? (i := 40) rfl)
  obtain ⟨ho, hx, hi⟩ := h.one (n := "BadText") (List.mem_of_getElem? (i := 40) (by decide +kernel))
  have hD := h.df (dI "BadText" "BadText.__init__" 42) (List.mem_append_right _ (List.mem_of_getElem? (i := 40) rfl))
  exact cf1 (k := 42) (q := "BadText.__init__") ⟨rfl, rfl, rfl, by decide +kernel, rfl, by decide +kernel, by decide +kernel⟩ (by rfl) (fun _ _ _ _ _ _ us hl => match us, hl with | [_, _], _ => rfl) (fun _ _ _ _ _ _ _ _ => rfl) rfl rfl g ho hx hi ha hD
theorem cf_BadThrow (X : K.In base) (Gm : base.Ns mainGlobals mg) (h : HF K) : CF P w K mg base (adK K) ⟨"BadThrow", ["index"]⟩ := by
  have g := gl_ok X Gm (h.n1 (n := "BadThrow") (List.mem_of_getElem? (i := 41) rfl)).1
  have ha := h.at_ (c := ⟨"BadThrow", ["index"]⟩) (List.mem_of_getElem? (i := 41) rfl)
  obtain ⟨ho, hx, hi⟩ := h.one (n := "BadThrow") (List.mem_of_getElem? (i := 41) (by decide +kernel))
  have hD := h.df (dI "BadThrow" "BadThrow.__init__" 43) (List.mem_append_right _ (List.mem_of_getElem? (i := 41) rfl))
  exact cf1 (k := 43) (q := "BadThrow.__init__") ⟨rfl, rfl, rfl, by decide +kernel, rfl, by decide +kernel, by decide +kernel⟩ (by rfl) (fun _ _ _ _ _ _ us hl => match us, hl with | [_, _], _ => rfl) (fun _ _ _ _ _ _ _ _ => rfl) rfl rfl g ho hx hi ha hD
theorem cf_BadTimes (X : K.In base) (Gm : base.Ns mainGlobals mg) (h : HF K) : CF P w K mg base (adK K) ⟨"BadTimes", ["thing"]⟩ := by
  have g := gl_ok X Gm (h.n1 (n := "BadTimes") (List.mem_of_getElem? (i := 42) rfl)).1
  have ha := h.at_ (c := ⟨"BadTimes", ["thing"]⟩) (List.mem_of_getElem? (i := 42) rfl)
  obtain ⟨ho, hx, hi⟩ := h.one (n := "BadTimes") (List.mem_of_getElem? (i := 42) (by decide +kernel))
  have hD := h.df (dI "BadTimes" "BadTimes.__init__" 44) (List.mem_append_right _ (List.mem_of_getElem? (i := 42) rfl))
  exact cf1 (k := 44) (q := "BadTimes.__init__") ⟨rfl, rfl, rfl, by decide +kernel, rfl, by decide +kernel, by decide +kernel⟩ (by rfl) (fun _ _ _ _ _ _ us hl => match us, hl with | [_, _], _ => rfl) (fun _ _ _ _ _ _ _ _ => rfl) rfl rfl g ho hx hi ha hD
theorem cf_BadTurn (X : K.In base) (Gm : base.Ns mainGlobals mg) (h : HF K) : CF P w K mg base (adK K) ⟨"BadTurn", ["thing"]⟩ := by
  have g := gl_ok X Gm (h.n1 (n := "BadTurn") (List.mem_of_getElem? (i := 43) rfl)).1
  have ha := h.at_ (c := ⟨"BadTurn", ["thing"]⟩) (List.mem_of_getElem? (i := 43) rfl)
  obtain ⟨ho, hx, hi⟩ := h.one (n := "BadTurn") (List.mem_of_getElem? (i := 43) (by decide +kernel))
  have hD := h.df (dI "BadTurn" "BadTurn.__init__" 45) (List.mem_append_right _ (List.mem_of_getElem? (i := 43) rfl))
  exact cf1 (k := 45) (q := "BadTurn.__init__") ⟨rfl, rfl, rfl, by decide +kernel, rfl, by decide +kernel, by decide +kernel⟩ (by rfl) (fun _ _ _ _ _ _ us hl => match us, hl with | [_, _], _ => rfl) (fun _ _ _ _ _ _ _ _ => rfl) rfl rfl g ho hx hi ha hD
theorem cf_BadTurns (X : K.In base) (Gm : base.Ns mainGlobals mg) (h : HF K) : CF P w K mg base (adK K) ⟨"BadTurns", ["index"]⟩ := by
  have g := gl_ok X Gm (h.n1 (n := "BadTurns") (List.mem_of_getElem? (i := 44) rfl)).1
  have ha := h.at_ (c := ⟨"BadTurns", ["index"]⟩) (List.mem_of_getElem? (i := 44) rfl)
  obtain ⟨ho, hx, hi⟩ := h.one (n := "BadTurns") (List.mem_of_getElem? (i := 44) (by decide +kernel))
  have hD := h.df (dI "BadTurns" "BadTurns.__init__" 46) (List.mem_append_right _ (List.mem_of_getElem? (i := 44) rfl))
  exact cf1 (k := 46) (q := "BadTurns.__init__") ⟨rfl, rfl, rfl, by decide +kernel, rfl, by decide +kernel, by decide +kernel⟩ (by rfl) (fun _ _ _ _ _ _ us hl => match us, hl with | [_, _], _ => rfl) (fun _ _ _ _ _ _ _ _ => rfl) rfl rfl g ho hx hi ha hD
theorem cf_BadView (X : K.In base) (Gm : base.Ns mainGlobals mg) (h : HF K) : CF P w K mg base (adK K) ⟨"BadView", ["thing"]⟩ := by
  have g := gl_ok X Gm (h.n1 (n := "BadView") (List.mem_of_getElem? (i := 45) rfl)).1
  have ha := h.at_ (c := ⟨"BadView", ["thing"]⟩) (List.mem_of_getElem? (i := 45) rfl)
  obtain ⟨ho, hx, hi⟩ := h.one (n := "BadView") (List.mem_of_getElem? (i := 45) (by decide +kernel))
  have hD := h.df (dI "BadView" "BadView.__init__" 47) (List.mem_append_right _ (List.mem_of_getElem? (i := 45) rfl))
  exact cf1 (k := 47) (q := "BadView.__init__") ⟨rfl, rfl, rfl, by decide +kernel, rfl, by decide +kernel, by decide +kernel⟩ (by rfl) (fun _ _ _ _ _ _ us hl => match us, hl with | [_, _], _ => rfl) (fun _ _ _ _ _ _ _ _ => rfl) rfl rfl g ho hx hi ha hD
theorem cf_BadViews (X : K.In base) (Gm : base.Ns mainGlobals mg) (h : HF K) : CF P w K mg base (adK K) ⟨"BadViews", ["index"]⟩ := by
  have g := gl_ok X Gm (h.n1 (n := "BadViews") (List.mem_of_getElem? (i := 46) rfl)).1
  have ha := h.at_ (c := ⟨"BadViews", ["index"]⟩) (List.mem_of_getElem? (i := 46) rfl)
  obtain ⟨ho, hx, hi⟩ := h.one (n := "BadViews") (List.mem_of_getElem? (i := 46) (by decide +kernel))
  have hD := h.df (dI "BadViews" "BadViews.__init__" 48) (List.mem_append_right _ (List.mem_of_getElem? (i := 46) rfl))
  exact cf1 (k := 48) (q := "BadViews.__init__") ⟨rfl, rfl, rfl, by decide +kernel, rfl, by decide +kernel, by decide +kernel⟩ (by rfl) (fun _ _ _ _ _ _ us hl => match us, hl with | [_, _], _ => rfl) (fun _ _ _ _ _ _ _ _ => rfl) rfl rfl g ho hx hi ha hD
theorem cf_BadWalk (X : K.In base) (Gm : base.Ns mainGlobals mg) (h : HF K) : CF P w K mg base (adK K) ⟨"BadWalk", ["index"]⟩ := by
  have g := gl_ok X Gm (h.n1 (n := "BadWalk") (List.mem_of_getElem? (i := 47) rfl)).1
  have ha := h.at_ (c := ⟨"BadWalk", ["index"]⟩) (List.mem_of_getElem? (i := 47) rfl)
  obtain ⟨ho, hx, hi⟩ := h.one (n := "BadWalk") (List.mem_of_getElem? (i := 47) (by decide +kernel))
  have hD := h.df (dI "BadWalk" "BadWalk.__init__" 49) (List.mem_append_right _ (List.mem_of_getElem? (i := 47) rfl))
  exact cf1 (k := 49) (q := "BadWalk.__init__") ⟨rfl, rfl, rfl, by decide +kernel, rfl, by decide +kernel, by decide +kernel⟩ (by rfl) (fun _ _ _ _ _ _ us hl => match us, hl with | [_, _], _ => rfl) (fun _ _ _ _ _ _ _ _ => rfl) rfl rfl g ho hx hi ha hD
theorem cf_BadWalker (X : K.In base) (Gm : base.Ns mainGlobals mg) (h : HF K) : CF P w K mg base (adK K) ⟨"BadWalker", ["thing"]⟩ := by
  have g := gl_ok X Gm (h.n1 (n := "BadWalker") (List.mem_of_getElem? (i := 48) rfl)).1
  have ha := h.at_ (c := ⟨"BadWalker", ["thing"]⟩) (List.mem_of_getElem? (i := 48) rfl)
  obtain ⟨ho, hx, hi⟩ := h.one (n := "BadWalker") (List.mem_of_getElem? (i := 48) (by decide +kernel))
  have hD := h.df (dI "BadWalker" "BadWalker.__init__" 50) (List.mem_append_right _ (List.mem_of_getElem? (i := 48) rfl))
  exact cf1 (k := 50) (q := "BadWalker.__init__") ⟨rfl, rfl, rfl, by decide +kernel, rfl, by decide +kernel, by decide +kernel⟩ (by rfl) (fun _ _ _ _ _ _ us hl => match us, hl with | [_, _], _ => rfl) (fun _ _ _ _ _ _ _ _ => rfl) rfl rfl g ho hx hi ha hD
theorem cf_BadWords (X : K.In base) (Gm : base.Ns mainGlobals mg) (h : HF K) : CF P w K mg base (adK K) ⟨"BadWords", ["index"]⟩ := by
  have g := gl_ok X Gm (h.n1 (n := "BadWords") (List.mem_of_getElem? (i := 49) rfl)).1
  have ha := h.at_ (c := ⟨"BadWords", ["index"]⟩) (List.mem_of_getElem? (i := 49) rfl)
  obtain ⟨ho, hx, hi⟩ := h.one (n := "BadWords") (List.mem_of_getElem? (i := 49) (by decide +kernel))
  have hD := h.df (dI "BadWords" "BadWords.__init__" 51) (List.mem_append_right _ (List.mem_of_getElem? (i := 49) rfl))
  exact cf1 (k := 51) (q := "BadWords.__init__") ⟨rfl, rfl, rfl, by decide +kernel, rfl, by decide +kernel, by decide +kernel⟩ (by rfl) (fun _ _ _ _ _ _ us hl => match us, hl with | [_, _], _ => rfl) (fun _ _ _ _ _ _ _ _ => rfl) rfl rfl g ho hx hi ha hD
theorem cf_BadWritten (X : K.In base) (Gm : base.Ns mainGlobals mg) (h : HF K) : CF P w K mg base (adK K) ⟨"BadWritten", ["thing"]⟩ := by
  have g := gl_ok X Gm (h.n1 (n := "BadWritten") (List.mem_of_getElem? (i := 50) rfl)).1
  have ha := h.at_ (c := ⟨"BadWritten", ["thing"]⟩) (List.mem_of_getElem? (i := 50) rfl)
  obtain ⟨ho, hx, hi⟩ := h.one (n := "BadWritten") (List.mem_of_getElem? (i := 50) (by decide +kernel))
  have hD := h.df (dI "BadWritten" "BadWritten.__init__" 52) (List.mem_append_right _ (List.mem_of_getElem? (i := 50) rfl))
  exact cf1 (k := 52) (q := "BadWritten.__init__") ⟨rfl, rfl, rfl, by decide +kernel, rfl, by decide +kernel, by decide +kernel⟩ (by rfl) (fun _ _ _ _ _ _ us hl => match us, hl with | [_, _], _ => rfl) (fun _ _ _ _ _ _ _ _ => rfl) rfl rfl g ho hx hi ha hD
theorem cf_CanBeDone (X : K.In base) (Gm : base.Ns mainGlobals mg) (h : HF K) : CF P w K mg base (adK K) ⟨"CanBeDone", []⟩ := by
  have g := gl_ok X Gm (h.n1 (n := "CanBeDone") (List.mem_of_getElem? (i := 51) rfl)).1
  obtain ⟨z1, z2⟩ := h.zero (n := "CanBeDone") (List.mem_of_getElem? (i := 0) rfl)
  exact ⟨g, z1, z2⟩
theorem cf_InUse (X : K.In base) (Gm : base.Ns mainGlobals mg) (h : HF K) : CF P w K mg base (adK K) ⟨"InUse", ["question"]⟩ := by
  have g := gl_ok X Gm (h.n1 (n := "InUse") (List.mem_of_getElem? (i := 52) rfl)).1
  have ha := h.at_ (c := ⟨"InUse", ["question"]⟩) (List.mem_of_getElem? (i := 52) rfl)
  obtain ⟨ho, hx, hi⟩ := h.one (n := "InUse") (List.mem_of_getElem? (i := 51) (by decide +kernel))
  have hD := h.df (dI "InUse" "InUse.__init__" 54) (List.mem_append_right _ (List.mem_of_getElem? (i := 51) rfl))
  exact cf1 (k := 54) (q := "InUse.__init__") ⟨rfl, rfl, rfl, by decide +kernel, rfl, by decide +kernel, by decide +kernel⟩ (by rfl) (fun _ _ _ _ _ _ us hl => match us, hl with | [_, _], _ => rfl) (fun _ _ _ _ _ _ _ _ => rfl) rfl rfl g ho hx hi ha hD
theorem cf_IsSure (X : K.In base) (Gm : base.Ns mainGlobals mg) (h : HF K) : CF P w K mg base (adK K) ⟨"IsSure", []⟩ := by
  have g := gl_ok X Gm (h.n1 (n := "IsSure") (List.mem_of_getElem? (i := 53) rfl)).1
  obtain ⟨z1, z2⟩ := h.zero (n := "IsSure") (List.mem_of_getElem? (i := 1) rfl)
  exact ⟨g, z1, z2⟩
theorem cf_IsWatched (X : K.In base) (Gm : base.Ns mainGlobals mg) (h : HF K) : CF P w K mg base (adK K) ⟨"IsWatched", ["thing"]⟩ := by
  have g := gl_ok X Gm (h.n1 (n := "IsWatched") (List.mem_of_getElem? (i := 54) rfl)).1
  have ha := h.at_ (c := ⟨"IsWatched", ["thing"]⟩) (List.mem_of_getElem? (i := 54) rfl)
  obtain ⟨ho, hx, hi⟩ := h.one (n := "IsWatched") (List.mem_of_getElem? (i := 52) (by decide +kernel))
  have hD := h.df (dI "IsWatched" "IsWatched.__init__" 56) (List.mem_append_right _ (List.mem_of_getElem? (i := 52) rfl))
  exact cf1 (k := 56) (q := "IsWatched.__init__") ⟨rfl, rfl, rfl, by decide +kernel, rfl, by decide +kernel, by decide +kernel⟩ (by rfl) (fun _ _ _ _ _ _ us hl => match us, hl with | [_, _], _ => rfl) (fun _ _ _ _ _ _ _ _ => rfl) rfl rfl g ho hx hi ha hD
theorem cf_LastPlace (X : K.In base) (Gm : base.Ns mainGlobals mg) (h : HF K) : CF P w K mg base (adK K) ⟨"LastPlace", []⟩ := by
  have g := gl_ok X Gm (h.n1 (n := "LastPlace") (List.mem_of_getElem? (i := 55) rfl)).1
  obtain ⟨z1, z2⟩ := h.zero (n := "LastPlace") (List.mem_of_getElem? (i := 2) rfl)
  exact ⟨g, z1, z2⟩
theorem cf_NoCount (X : K.In base) (Gm : base.Ns mainGlobals mg) (h : HF K) : CF P w K mg base (adK K) ⟨"NoCount", ["thing"]⟩ := by
  have g := gl_ok X Gm (h.n1 (n := "NoCount") (List.mem_of_getElem? (i := 56) rfl)).1
  have ha := h.at_ (c := ⟨"NoCount", ["thing"]⟩) (List.mem_of_getElem? (i := 56) rfl)
  obtain ⟨ho, hx, hi⟩ := h.one (n := "NoCount") (List.mem_of_getElem? (i := 53) (by decide +kernel))
  have hD := h.df (dI "NoCount" "NoCount.__init__" 58) (List.mem_append_right _ (List.mem_of_getElem? (i := 53) rfl))
  exact cf1 (k := 58) (q := "NoCount.__init__") ⟨rfl, rfl, rfl, by decide +kernel, rfl, by decide +kernel, by decide +kernel⟩ (by rfl) (fun _ _ _ _ _ _ us hl => match us, hl with | [_, _], _ => rfl) (fun _ _ _ _ _ _ _ _ => rfl) rfl rfl g ho hx hi ha hD
theorem cf_NoFit (X : K.In base) (Gm : base.Ns mainGlobals mg) (h : HF K) : CF P w K mg base (adK K) ⟨"NoFit", ["many"]⟩ := by
  have g := gl_ok X Gm (h.n1 (n := "NoFit") (List.mem_of_getElem? (i := 57) rfl)).1
  have ha := h.at_ (c := ⟨"NoFit", ["many"]⟩) (List.mem_of_getElem? (i := 57) rfl)
  obtain ⟨ho, hx, hi⟩ := h.one (n := "NoFit") (List.mem_of_getElem? (i := 54) (by decide +kernel))
  have hD := h.df (dI "NoFit" "NoFit.__init__" 59) (List.mem_append_right _ (List.mem_of_getElem? (i := 54) rfl))
  exact cf1 (k := 59) (q := "NoFit.__init__") ⟨rfl, rfl, rfl, by decide +kernel, rfl, by decide +kernel, by decide +kernel⟩ (by rfl) (fun _ _ _ _ _ _ us hl => match us, hl with | [_, _], _ => rfl) (fun _ _ _ _ _ _ _ _ => rfl) rfl rfl g ho hx hi ha hD
theorem cf_NoGate (X : K.In base) (Gm : base.Ns mainGlobals mg) (h : HF K) : CF P w K mg base (adK K) ⟨"NoGate", ["thing"]⟩ := by
  have g := gl_ok X Gm (h.n1 (n := "NoGate") (List.mem_of_getElem? (i := 58) rfl)).1
  have ha := h.at_ (c := ⟨"NoGate", ["thing"]⟩) (List.mem_of_getElem? (i := 58) rfl)
  obtain ⟨ho, hx, hi⟩ := h.one (n := "NoGate") (List.mem_of_getElem? (i := 55) (by decide +kernel))
  have hD := h.df (dI "NoGate" "NoGate.__init__" 60) (List.mem_append_right _ (List.mem_of_getElem? (i := 55) rfl))
  exact cf1 (k := 60) (q := "NoGate.__init__") ⟨rfl, rfl, rfl, by decide +kernel, rfl, by decide +kernel, by decide +kernel⟩ (by rfl) (fun _ _ _ _ _ _ us hl => match us, hl with | [_, _], _ => rfl) (fun _ _ _ _ _ _ _ _ => rfl) rfl rfl g ho hx hi ha hD
theorem cf_NoGroup (X : K.In base) (Gm : base.Ns mainGlobals mg) (h : HF K) : CF P w K mg base (adK K) ⟨"NoGroup", ["thing"]⟩ := by
  have g := gl_ok X Gm (h.n1 (n := "NoGroup") (List.mem_of_getElem? (i := 59) rfl)).1
  have ha := h.at_ (c := ⟨"NoGroup", ["thing"]⟩) (List.mem_of_getElem? (i := 59) rfl)
  obtain ⟨ho, hx, hi⟩ := h.one (n := "NoGroup") (List.mem_of_getElem? (i := 56) (by decide +kernel))
  have hD := h.df (dI "NoGroup" "NoGroup.__init__" 61) (List.mem_append_right _ (List.mem_of_getElem? (i := 56) rfl))
  exact cf1 (k := 61) (q := "NoGroup.__init__") ⟨rfl, rfl, rfl, by decide +kernel, rfl, by decide +kernel, by decide +kernel⟩ (by rfl) (fun _ _ _ _ _ _ us hl => match us, hl with | [_, _], _ => rfl) (fun _ _ _ _ _ _ _ _ => rfl) rfl rfl g ho hx hi ha hD
theorem cf_NoMove (X : K.In base) (Gm : base.Ns mainGlobals mg) (h : HF K) : CF P w K mg base (adK K) ⟨"NoMove", ["thing"]⟩ := by
  have g := gl_ok X Gm (h.n1 (n := "NoMove") (List.mem_of_getElem? (i := 60) rfl)).1
  have ha := h.at_ (c := ⟨"NoMove", ["thing"]⟩) (List.mem_of_getElem? (i := 60) rfl)
  obtain ⟨ho, hx, hi⟩ := h.one (n := "NoMove") (List.mem_of_getElem? (i := 57) (by decide +kernel))
  have hD := h.df (dI "NoMove" "NoMove.__init__" 62) (List.mem_append_right _ (List.mem_of_getElem? (i := 57) rfl))
  exact cf1 (k := 62) (q := "NoMove.__init__") ⟨rfl, rfl, rfl, by decide +kernel, rfl, by decide +kernel, by decide +kernel⟩ (by rfl) (fun _ _ _ _ _ _ us hl => match us, hl with | [_, _], _ => rfl) (fun _ _ _ _ _ _ _ _ => rfl) rfl rfl g ho hx hi ha hD
theorem cf_NoNet (X : K.In base) (Gm : base.Ns mainGlobals mg) (h : HF K) : CF P w K mg base (adK K) ⟨"NoNet", ["name"]⟩ := by
  have g := gl_ok X Gm (h.n1 (n := "NoNet") (List.mem_of_getElem? (i := 61) rfl)).1
  have ha := h.at_ (c := ⟨"NoNet", ["name"]⟩) (List.mem_of_getElem? (i := 61) rfl)
  obtain ⟨ho, hx, hi⟩ := h.one (n := "NoNet") (List.mem_of_getElem? (i := 58) (by decide +kernel))
  have hD := h.df (dI "NoNet" "NoNet.__init__" 63) (List.mem_append_right _ (List.mem_of_getElem? (i := 58) rfl))
  exact cf1 (k := 63) (q := "NoNet.__init__") ⟨rfl, rfl, rfl, by decide +kernel, rfl, by decide +kernel, by decide +kernel⟩ (by rfl) (fun _ _ _ _ _ _ us hl => match us, hl with | [_, _], _ => rfl) (fun _ _ _ _ _ _ _ _ => rfl) rfl rfl g ho hx hi ha hD
theorem cf_NoPlace (X : K.In base) (Gm : base.Ns mainGlobals mg) (h : HF K) : CF P w K mg base (adK K) ⟨"NoPlace", ["thing"]⟩ := by
  have g := gl_ok X Gm (h.n1 (n := "NoPlace") (List.mem_of_getElem? (i := 62) rfl)).1
  have ha := h.at_ (c := ⟨"NoPlace", ["thing"]⟩) (List.mem_of_getElem? (i := 62) rfl)
  obtain ⟨ho, hx, hi⟩ := h.one (n := "NoPlace") (List.mem_of_getElem? (i := 59) (by decide +kernel))
  have hD := h.df (dI "NoPlace" "NoPlace.__init__" 64) (List.mem_append_right _ (List.mem_of_getElem? (i := 59) rfl))
  exact cf1 (k := 64) (q := "NoPlace.__init__") ⟨rfl, rfl, rfl, by decide +kernel, rfl, by decide +kernel, by decide +kernel⟩ (by rfl) (fun _ _ _ _ _ _ us hl => match us, hl with | [_, _], _ => rfl) (fun _ _ _ _ _ _ _ _ => rfl) rfl rfl g ho hx hi ha hD
theorem cf_NoRoad (X : K.In base) (Gm : base.Ns mainGlobals mg) (h : HF K) : CF P w K mg base (adK K) ⟨"NoRoad", ["road"]⟩ := by
  have g := gl_ok X Gm (h.n1 (n := "NoRoad") (List.mem_of_getElem? (i := 63) rfl)).1
  have ha := h.at_ (c := ⟨"NoRoad", ["road"]⟩) (List.mem_of_getElem? (i := 63) rfl)
  obtain ⟨ho, hx, hi⟩ := h.one (n := "NoRoad") (List.mem_of_getElem? (i := 60) (by decide +kernel))
  have hD := h.df (dI "NoRoad" "NoRoad.__init__" 65) (List.mem_append_right _ (List.mem_of_getElem? (i := 60) rfl))
  exact cf1 (k := 65) (q := "NoRoad.__init__") ⟨rfl, rfl, rfl, by decide +kernel, rfl, by decide +kernel, by decide +kernel⟩ (by rfl) (fun _ _ _ _ _ _ us hl => match us, hl with | [_, _], _ => rfl) (fun _ _ _ _ _ _ _ _ => rfl) rfl rfl g ho hx hi ha hD
theorem cf_NoState (X : K.In base) (Gm : base.Ns mainGlobals mg) (h : HF K) : CF P w K mg base (adK K) ⟨"NoState", ["thing"]⟩ := by
  have g := gl_ok X Gm (h.n1 (n := "NoState") (List.mem_of_getElem? (i := 64) rfl)).1
  have ha := h.at_ (c := ⟨"NoState", ["thing"]⟩) (List.mem_of_getElem? (i := 64) rfl)
  obtain ⟨ho, hx, hi⟩ := h.one (n := "NoState") (List.mem_of_getElem? (i := 61) (by decide +kernel))
  have hD := h.df (dI "NoState" "NoState.__init__" 66) (List.mem_append_right _ (List.mem_of_getElem? (i := 61) rfl))
  exact cf1 (k := 66) (q := "NoState.__init__") ⟨rfl, rfl, rfl, by decide +kernel, rfl, by decide +kernel, by decide +kernel⟩ (by rfl) (fun _ _ _ _ _ _ us hl => match us, hl with | [_, _], _ => rfl) (fun _ _ _ _ _ _ _ _ => rfl) rfl rfl g ho hx hi ha hD
theorem cf_NoWord (X : K.In base) (Gm : base.Ns mainGlobals mg) (h : HF K) : CF P w K mg base (adK K) ⟨"NoWord", ["thing"]⟩ := by
  have g := gl_ok X Gm (h.n1 (n := "NoWord") (List.mem_of_getElem? (i := 65) rfl)).1
  have ha := h.at_ (c := ⟨"NoWord", ["thing"]⟩) (List.mem_of_getElem? (i := 65) rfl)
  obtain ⟨ho, hx, hi⟩ := h.one (n := "NoWord") (List.mem_of_getElem? (i := 62) (by decide +kernel))
  have hD := h.df (dI "NoWord" "NoWord.__init__" 67) (List.mem_append_right _ (List.mem_of_getElem? (i := 62) rfl))
  exact cf1 (k := 67) (q := "NoWord.__init__") ⟨rfl, rfl, rfl, by decide +kernel, rfl, by decide +kernel, by decide +kernel⟩ (by rfl) (fun _ _ _ _ _ _ us hl => match us, hl with | [_, _], _ => rfl) (fun _ _ _ _ _ _ _ _ => rfl) rfl rfl g ho hx hi ha hD
theorem cf_NotEven (X : K.In base) (Gm : base.Ns mainGlobals mg) (h : HF K) : CF P w K mg base (adK K) ⟨"NotEven", ["one", "other"]⟩ := by
  have g := gl_ok X Gm (h.n1 (n := "NotEven") (List.mem_of_getElem? (i := 66) rfl)).1
  have ha := h.at_ (c := ⟨"NotEven", ["one", "other"]⟩) (List.mem_of_getElem? (i := 66) rfl)
  obtain ⟨ho, hx, hi⟩ := h.one (n := "NotEven") (List.mem_of_getElem? (i := 63) (by decide +kernel))
  have hD := h.df (dI "NotEven" "NotEven.__init__" 68) (List.mem_append_right _ (List.mem_of_getElem? (i := 63) rfl))
  exact cf2 (k := 68) (q := "NotEven.__init__") ⟨rfl, rfl, rfl, by decide +kernel, rfl, by decide +kernel, by decide +kernel⟩ (by rfl) (fun _ _ _ _ _ _ us hl => match us, hl with | [_, _, _], _ => rfl) (fun _ _ _ _ _ _ _ _ _ => rfl) rfl rfl rfl rfl g ho hx hi ha hD
theorem cf_NotJoined (X : K.In base) (Gm : base.Ns mainGlobals mg) (h : HF K) : CF P w K mg base (adK K) ⟨"NotJoined", ["thing"]⟩ := by
  have g := gl_ok X Gm (h.n1 (n := "NotJoined") (List.mem_of_getElem? (i := 67) rfl)).1
  have ha := h.at_ (c := ⟨"NotJoined", ["thing"]⟩) (List.mem_of_getElem? (i := 67) rfl)
  obtain ⟨ho, hx, hi⟩ := h.one (n := "NotJoined") (List.mem_of_getElem? (i := 64) (by decide +kernel))
  have hD := h.df (dI "NotJoined" "NotJoined.__init__" 69) (List.mem_append_right _ (List.mem_of_getElem? (i := 64) rfl))
  exact cf1 (k := 69) (q := "NotJoined.__init__") ⟨rfl, rfl, rfl, by decide +kernel, rfl, by decide +kernel, by decide +kernel⟩ (by rfl) (fun _ _ _ _ _ _ us hl => match us, hl with | [_, _], _ => rfl) (fun _ _ _ _ _ _ _ _ => rfl) rfl rfl g ho hx hi ha hD
theorem cf_NotOver (X : K.In base) (Gm : base.Ns mainGlobals mg) (h : HF K) : CF P w K mg base (adK K) ⟨"NotOver", []⟩ := by
  have g := gl_ok X Gm (h.n1 (n := "NotOver") (List.mem_of_getElem? (i := 68) rfl)).1
  obtain ⟨z1, z2⟩ := h.zero (n := "NotOver") (List.mem_of_getElem? (i := 3) rfl)
  exact ⟨g, z1, z2⟩
theorem cf_NotStrong (X : K.In base) (Gm : base.Ns mainGlobals mg) (h : HF K) : CF P w K mg base (adK K) ⟨"NotStrong", ["thing"]⟩ := by
  have g := gl_ok X Gm (h.n1 (n := "NotStrong") (List.mem_of_getElem? (i := 69) rfl)).1
  have ha := h.at_ (c := ⟨"NotStrong", ["thing"]⟩) (List.mem_of_getElem? (i := 69) rfl)
  obtain ⟨ho, hx, hi⟩ := h.one (n := "NotStrong") (List.mem_of_getElem? (i := 65) (by decide +kernel))
  have hD := h.df (dI "NotStrong" "NotStrong.__init__" 71) (List.mem_append_right _ (List.mem_of_getElem? (i := 65) rfl))
  exact cf1 (k := 71) (q := "NotStrong.__init__") ⟨rfl, rfl, rfl, by decide +kernel, rfl, by decide +kernel, by decide +kernel⟩ (by rfl) (fun _ _ _ _ _ _ us hl => match us, hl with | [_, _], _ => rfl) (fun _ _ _ _ _ _ _ _ => rfl) rfl rfl g ho hx hi ha hD
theorem cf_NotTwoWay (X : K.In base) (Gm : base.Ns mainGlobals mg) (h : HF K) : CF P w K mg base (adK K) ⟨"NotTwoWay", ["thing"]⟩ := by
  have g := gl_ok X Gm (h.n1 (n := "NotTwoWay") (List.mem_of_getElem? (i := 70) rfl)).1
  have ha := h.at_ (c := ⟨"NotTwoWay", ["thing"]⟩) (List.mem_of_getElem? (i := 70) rfl)
  obtain ⟨ho, hx, hi⟩ := h.one (n := "NotTwoWay") (List.mem_of_getElem? (i := 66) (by decide +kernel))
  have hD := h.df (dI "NotTwoWay" "NotTwoWay.__init__" 72) (List.mem_append_right _ (List.mem_of_getElem? (i := 66) rfl))
  exact cf1 (k := 72) (q := "NotTwoWay.__init__") ⟨rfl, rfl, rfl, by decide +kernel, rfl, by decide +kernel, by decide +kernel⟩ (by rfl) (fun _ _ _ _ _ _ us hl => match us, hl with | [_, _], _ => rfl) (fun _ _ _ _ _ _ _ _ => rfl) rfl rfl g ho hx hi ha hD
theorem cf_NotWatched (X : K.In base) (Gm : base.Ns mainGlobals mg) (h : HF K) : CF P w K mg base (adK K) ⟨"NotWatched", ["thing"]⟩ := by
  have g := gl_ok X Gm (h.n1 (n := "NotWatched") (List.mem_of_getElem? (i := 71) rfl)).1
  have ha := h.at_ (c := ⟨"NotWatched", ["thing"]⟩) (List.mem_of_getElem? (i := 71) rfl)
  obtain ⟨ho, hx, hi⟩ := h.one (n := "NotWatched") (List.mem_of_getElem? (i := 67) (by decide +kernel))
  have hD := h.df (dI "NotWatched" "NotWatched.__init__" 73) (List.mem_append_right _ (List.mem_of_getElem? (i := 67) rfl))
  exact cf1 (k := 73) (q := "NotWatched.__init__") ⟨rfl, rfl, rfl, by decide +kernel, rfl, by decide +kernel, by decide +kernel⟩ (by rfl) (fun _ _ _ _ _ _ us hl => match us, hl with | [_, _], _ => rfl) (fun _ _ _ _ _ _ _ _ => rfl) rfl rfl g ho hx hi ha hD
theorem cf_NotWhole (X : K.In base) (Gm : base.Ns mainGlobals mg) (h : HF K) : CF P w K mg base (adK K) ⟨"NotWhole", []⟩ := by
  have g := gl_ok X Gm (h.n1 (n := "NotWhole") (List.mem_of_getElem? (i := 72) rfl)).1
  obtain ⟨z1, z2⟩ := h.zero (n := "NotWhole") (List.mem_of_getElem? (i := 4) rfl)
  exact ⟨g, z1, z2⟩
theorem cf_OpenView (X : K.In base) (Gm : base.Ns mainGlobals mg) (h : HF K) : CF P w K mg base (adK K) ⟨"OpenView", ["thing"]⟩ := by
  have g := gl_ok X Gm (h.n1 (n := "OpenView") (List.mem_of_getElem? (i := 73) rfl)).1
  have ha := h.at_ (c := ⟨"OpenView", ["thing"]⟩) (List.mem_of_getElem? (i := 73) rfl)
  obtain ⟨ho, hx, hi⟩ := h.one (n := "OpenView") (List.mem_of_getElem? (i := 68) (by decide +kernel))
  have hD := h.df (dI "OpenView" "OpenView.__init__" 75) (List.mem_append_right _ (List.mem_of_getElem? (i := 68) rfl))
  exact cf1 (k := 75) (q := "OpenView.__init__") ⟨rfl, rfl, rfl, by decide +kernel, rfl, by decide +kernel, by decide +kernel⟩ (by rfl) (fun _ _ _ _ _ _ us hl => match us, hl with | [_, _], _ => rfl) (fun _ _ _ _ _ _ _ _ => rfl) rfl rfl g ho hx hi ha hD
theorem cf_SameDue (X : K.In base) (Gm : base.Ns mainGlobals mg) (h : HF K) : CF P w K mg base (adK K) ⟨"SameDue", ["thing"]⟩ := by
  have g := gl_ok X Gm (h.n1 (n := "SameDue") (List.mem_of_getElem? (i := 74) rfl)).1
  have ha := h.at_ (c := ⟨"SameDue", ["thing"]⟩) (List.mem_of_getElem? (i := 74) rfl)
  obtain ⟨ho, hx, hi⟩ := h.one (n := "SameDue") (List.mem_of_getElem? (i := 69) (by decide +kernel))
  have hD := h.df (dI "SameDue" "SameDue.__init__" 76) (List.mem_append_right _ (List.mem_of_getElem? (i := 69) rfl))
  exact cf1 (k := 76) (q := "SameDue.__init__") ⟨rfl, rfl, rfl, by decide +kernel, rfl, by decide +kernel, by decide +kernel⟩ (by rfl) (fun _ _ _ _ _ _ us hl => match us, hl with | [_, _], _ => rfl) (fun _ _ _ _ _ _ _ _ => rfl) rfl rfl g ho hx hi ha hD
theorem cf_TakenName (X : K.In base) (Gm : base.Ns mainGlobals mg) (h : HF K) : CF P w K mg base (adK K) ⟨"TakenName", ["name"]⟩ := by
  have g := gl_ok X Gm (h.n1 (n := "TakenName") (List.mem_of_getElem? (i := 75) rfl)).1
  have ha := h.at_ (c := ⟨"TakenName", ["name"]⟩) (List.mem_of_getElem? (i := 75) rfl)
  obtain ⟨ho, hx, hi⟩ := h.one (n := "TakenName") (List.mem_of_getElem? (i := 70) (by decide +kernel))
  have hD := h.df (dI "TakenName" "TakenName.__init__" 77) (List.mem_append_right _ (List.mem_of_getElem? (i := 70) rfl))
  exact cf1 (k := 77) (q := "TakenName.__init__") ⟨rfl, rfl, rfl, by decide +kernel, rfl, by decide +kernel, by decide +kernel⟩ (by rfl) (fun _ _ _ _ _ _ us hl => match us, hl with | [_, _], _ => rfl) (fun _ _ _ _ _ _ _ _ => rfl) rfl rfl g ho hx hi ha hD
theorem cf_ToldApart (X : K.In base) (Gm : base.Ns mainGlobals mg) (h : HF K) : CF P w K mg base (adK K) ⟨"ToldApart", []⟩ := by
  have g := gl_ok X Gm (h.n1 (n := "ToldApart") (List.mem_of_getElem? (i := 76) rfl)).1
  obtain ⟨z1, z2⟩ := h.zero (n := "ToldApart") (List.mem_of_getElem? (i := 5) rfl)
  exact ⟨g, z1, z2⟩
theorem cf_UnlikeGates (X : K.In base) (Gm : base.Ns mainGlobals mg) (h : HF K) : CF P w K mg base (adK K) ⟨"UnlikeGates", []⟩ := by
  have g := gl_ok X Gm (h.n1 (n := "UnlikeGates") (List.mem_of_getElem? (i := 77) rfl)).1
  obtain ⟨z1, z2⟩ := h.zero (n := "UnlikeGates") (List.mem_of_getElem? (i := 6) rfl)
  exact ⟨g, z1, z2⟩
theorem cf_WouldChange (X : K.In base) (Gm : base.Ns mainGlobals mg) (h : HF K) : CF P w K mg base (adK K) ⟨"WouldChange", ["question"]⟩ := by
  have g := gl_ok X Gm (h.n1 (n := "WouldChange") (List.mem_of_getElem? (i := 78) rfl)).1
  have ha := h.at_ (c := ⟨"WouldChange", ["question"]⟩) (List.mem_of_getElem? (i := 78) rfl)
  obtain ⟨ho, hx, hi⟩ := h.one (n := "WouldChange") (List.mem_of_getElem? (i := 71) (by decide +kernel))
  have hD := h.df (dI "WouldChange" "WouldChange.__init__" 80) (List.mem_append_right _ (List.mem_of_getElem? (i := 71) rfl))
  exact cf1 (k := 80) (q := "WouldChange.__init__") ⟨rfl, rfl, rfl, by decide +kernel, rfl, by decide +kernel, by decide +kernel⟩ (by rfl) (fun _ _ _ _ _ _ us hl => match us, hl with | [_, _], _ => rfl) (fun _ _ _ _ _ _ _ _ => rfl) rfl rfl g ho hx hi ha hD
theorem cfs_A (X : K.In base) (Gm : base.Ns mainGlobals mg) (h : HF K) : ∀ c ∈ clA, CF P w K mg base (adK K) c :=
  List.forall_mem_cons.mpr ⟨cf_BadAnswers X Gm h, List.forall_mem_cons.mpr ⟨cf_BadBase X Gm h, List.forall_mem_cons.mpr ⟨cf_BadBegun X Gm h, List.forall_mem_cons.mpr ⟨cf_BadChance X Gm h, List.forall_mem_cons.mpr ⟨cf_BadChoice X Gm h, List.forall_mem_cons.mpr ⟨cf_BadCopies X Gm h, List.forall_mem_cons.mpr ⟨cf_BadCounts X Gm h, List.forall_mem_cons.mpr ⟨cf_BadCourse X Gm h, List.forall_mem_cons.mpr ⟨cf_BadDeed X Gm h, List.forall_mem_cons.mpr ⟨cf_BadDoor X Gm h, List.forall_mem_cons.mpr ⟨cf_BadDoors X Gm h, List.forall_mem_cons.mpr ⟨cf_BadDue X Gm h, List.forall_mem_cons.mpr ⟨cf_BadForm X Gm h, List.forall_mem_cons.mpr ⟨cf_BadImages X Gm h, List.forall_mem_cons.mpr ⟨cf_BadIns X Gm h, List.forall_mem_cons.mpr ⟨cf_BadLetters X Gm h, List.forall_mem_cons.mpr ⟨cf_BadLoops X Gm h, List.forall_mem_cons.mpr ⟨cf_BadMany X Gm h, fun _ z => absurd z List.not_mem_nil⟩⟩⟩⟩⟩⟩⟩⟩⟩⟩⟩⟩⟩⟩⟩⟩⟩⟩
theorem cfs_B (X : K.In base) (Gm : base.Ns mainGlobals mg) (h : HF K) : ∀ c ∈ clB, CF P w K mg base (adK K) c :=
  List.forall_mem_cons.mpr ⟨cf_BadModuli X Gm h, List.forall_mem_cons.mpr ⟨cf_BadNetRow X Gm h, List.forall_mem_cons.mpr ⟨cf_BadNetRows X Gm h, List.forall_mem_cons.mpr ⟨cf_BadNets X Gm h, List.forall_mem_cons.mpr ⟨cf_BadNumber X Gm h, List.forall_mem_cons.mpr ⟨cf_BadOrder X Gm h, List.forall_mem_cons.mpr ⟨cf_BadOuts X Gm h, List.forall_mem_cons.mpr ⟨cf_BadParting X Gm h, List.forall_mem_cons.mpr ⟨cf_BadPeriod X Gm h, List.forall_mem_cons.mpr ⟨cf_BadPicks X Gm h, List.forall_mem_cons.mpr ⟨cf_BadPiece X Gm h, List.forall_mem_cons.mpr ⟨cf_BadPieces X Gm h, List.forall_mem_cons.mpr ⟨cf_BadPlaces X Gm h, List.forall_mem_cons.mpr ⟨cf_BadPlan X Gm h, List.forall_mem_cons.mpr ⟨cf_BadQuestion X Gm h, List.forall_mem_cons.mpr ⟨cf_BadRight X Gm h, List.forall_mem_cons.mpr ⟨cf_BadRoads X Gm h, List.forall_mem_cons.mpr ⟨cf_BadSenses X Gm h, fun _ z => absurd z List.not_mem_nil⟩⟩⟩⟩⟩⟩⟩⟩⟩⟩⟩⟩⟩⟩⟩⟩⟩⟩
theorem cfs_C (X : K.In base) (Gm : base.Ns mainGlobals mg) (h : HF K) : ∀ c ∈ clC, CF P w K mg base (adK K) c :=
  List.forall_mem_cons.mpr ⟨cf_BadSheet X Gm h, List.forall_mem_cons.mpr ⟨cf_BadSides X Gm h, List.forall_mem_cons.mpr ⟨cf_BadSigns X Gm h, List.forall_mem_cons.mpr ⟨cf_BadSteps X Gm h, List.forall_mem_cons.mpr ⟨cf_BadText X Gm h, List.forall_mem_cons.mpr ⟨cf_BadThrow X Gm h, List.forall_mem_cons.mpr ⟨cf_BadTimes X Gm h, List.forall_mem_cons.mpr ⟨cf_BadTurn X Gm h, List.forall_mem_cons.mpr ⟨cf_BadTurns X Gm h, List.forall_mem_cons.mpr ⟨cf_BadView X Gm h, List.forall_mem_cons.mpr ⟨cf_BadViews X Gm h, List.forall_mem_cons.mpr ⟨cf_BadWalk X Gm h, List.forall_mem_cons.mpr ⟨cf_BadWalker X Gm h, List.forall_mem_cons.mpr ⟨cf_BadWords X Gm h, List.forall_mem_cons.mpr ⟨cf_BadWritten X Gm h, List.forall_mem_cons.mpr ⟨cf_CanBeDone X Gm h, List.forall_mem_cons.mpr ⟨cf_InUse X Gm h, List.forall_mem_cons.mpr ⟨cf_IsSure X Gm h, fun _ z => absurd z List.not_mem_nil⟩⟩⟩⟩⟩⟩⟩⟩⟩⟩⟩⟩⟩⟩⟩⟩⟩⟩
theorem cfs_D (X : K.In base) (Gm : base.Ns mainGlobals mg) (h : HF K) : ∀ c ∈ clD, CF P w K mg base (adK K) c :=
  List.forall_mem_cons.mpr ⟨cf_IsWatched X Gm h, List.forall_mem_cons.mpr ⟨cf_LastPlace X Gm h, List.forall_mem_cons.mpr ⟨cf_NoCount X Gm h, List.forall_mem_cons.mpr ⟨cf_NoFit X Gm h, List.forall_mem_cons.mpr ⟨cf_NoGate X Gm h, List.forall_mem_cons.mpr ⟨cf_NoGroup X Gm h, List.forall_mem_cons.mpr ⟨cf_NoMove X Gm h, List.forall_mem_cons.mpr ⟨cf_NoNet X Gm h, List.forall_mem_cons.mpr ⟨cf_NoPlace X Gm h, List.forall_mem_cons.mpr ⟨cf_NoRoad X Gm h, List.forall_mem_cons.mpr ⟨cf_NoState X Gm h, List.forall_mem_cons.mpr ⟨cf_NoWord X Gm h, List.forall_mem_cons.mpr ⟨cf_NotEven X Gm h, List.forall_mem_cons.mpr ⟨cf_NotJoined X Gm h, List.forall_mem_cons.mpr ⟨cf_NotOver X Gm h, List.forall_mem_cons.mpr ⟨cf_NotStrong X Gm h, List.forall_mem_cons.mpr ⟨cf_NotTwoWay X Gm h, List.forall_mem_cons.mpr ⟨cf_NotWatched X Gm h, fun _ z => absurd z List.not_mem_nil⟩⟩⟩⟩⟩⟩⟩⟩⟩⟩⟩⟩⟩⟩⟩⟩⟩⟩
theorem cfs_E (X : K.In base) (Gm : base.Ns mainGlobals mg) (h : HF K) : ∀ c ∈ clE, CF P w K mg base (adK K) c :=
  List.forall_mem_cons.mpr ⟨cf_NotWhole X Gm h, List.forall_mem_cons.mpr ⟨cf_OpenView X Gm h, List.forall_mem_cons.mpr ⟨cf_SameDue X Gm h, List.forall_mem_cons.mpr ⟨cf_TakenName X Gm h, List.forall_mem_cons.mpr ⟨cf_ToldApart X Gm h, List.forall_mem_cons.mpr ⟨cf_UnlikeGates X Gm h, List.forall_mem_cons.mpr ⟨cf_WouldChange X Gm h, fun _ z => absurd z List.not_mem_nil⟩⟩⟩⟩⟩⟩⟩
theorem cfs (X : K.In base) (Gm : base.Ns mainGlobals mg) (h : HF K) : ∀ c ∈ CL, CF P w K mg base (adK K) c := by
  intro c hc
  rcases List.mem_append.mp hc with hc | hc
  · rcases List.mem_append.mp hc with hc | hc
    · rcases List.mem_append.mp hc with hc | hc
      · rcases List.mem_append.mp hc with hc | hc
        · exact cfs_A X Gm h c hc
        · exact cfs_B X Gm h c hc
      · exact cfs_C X Gm h c hc
    · exact cfs_D X Gm h c hc
  · exact cfs_E X Gm h c hc
end
end K0
set_option maxHeartbeats 4000000
namespace K0
open PySem PySem.Spec PyProof.Rows L2 LamX NdefX He
section
variable {P : Program} {w : World} {K : PySem.W.Frag} {mg : Str → Option Value} {base : Heap}
structure F3 (K : PySem.W.Frag) : Prop where
  gN : glB K "NetError" = true
  eN : excB K (ga K "NetError") = true
  mN : mroB K (ga K "NetError") veB = true
  kN : kiB K (ga K "NetError") = true
  zN : ezB K (ga K "NetError") = true
  gl : ∀ d ∈ DF, glB K d.name = true
  fr : ∀ x ∈ FRE, frB K x = true
  ad : (("NetError" : Str) :: NS).map (fun n => ga K n) = 24 :: ADC
  sy : (K.lookup sysModules).isSome = true
  sp : PySem.W.specialIn K (.builtin "object.__class__") "__get__" = some (some (.builtin "getset_descriptor.__get__"))
  tk : PySem.W.takesIn K (.builtin "object.__class__") = some true
theorem HF.f3' (h : HF K) : F3 K := by
  obtain ⟨h1, h⟩ := ba h.f3
  obtain ⟨h2, h⟩ := ba h
  obtain ⟨h3, h⟩ := ba h
  obtain ⟨h4, h⟩ := ba h
  obtain ⟨h5, h⟩ := ba h
  obtain ⟨h6, h⟩ := ba h
  obtain ⟨h7, h⟩ := ba h
  obtain ⟨h8, h⟩ := ba h
  obtain ⟨h9, h⟩ := ba h
  obtain ⟨h10, h11⟩ := ba h
  exact ⟨h1, h2, h3, h4, h5, List.all_eq_true.mp h6, List.all_eq_true.mp h7, of_decide_eq_true h8, h9, of_decide_eq_true h10, of_decide_eq_true h11⟩
theorem adc_nodup : (24 :: ADC).Nodup := by decide +kernel
theorem ad_at (h : HF K) {i : Nat} {n : Str} (hn : NS[i]? = some n) : ADC[i]? = some (ga K n) := by
  have e := h.f3'.ad
  rw [List.map_cons] at e
  injection e with e1 e2
  rw [← e2, List.getElem?_map, hn]
  rfl
theorem ad_inj (h : HF K) {n j : Str} (hn : n ∈ NS) (hj : j ∈ NS) : ga K n = ga K j ↔ n = j := by
  obtain ⟨i, hi⟩ := List.mem_iff_getElem?.mp hn
  obtain ⟨k, hk⟩ := List.mem_iff_getElem?.mp hj
  constructor
  · intro z
    have a1 := ad_at h hi
    have a2 := ad_at h hk
    obtain ⟨l1, g1⟩ := List.getElem?_eq_some_iff.mp a1
    obtain ⟨l2, g2⟩ := List.getElem?_eq_some_iff.mp a2
    have e : i = k := (List.getElem_inj (List.nodup_cons.mp adc_nodup).2).mp (by rw [g1, g2, z])
    subst e
    rw [hi] at hk
    exact Option.some.inj hk
  · intro z
    rw [z]
theorem ad_net (h : HF K) {n : Str} (hn : n ∈ NS) : ga K "NetError" ≠ ga K n := by
  obtain ⟨i, hi⟩ := List.mem_iff_getElem?.mp hn
  have e := h.f3'.ad
  rw [List.map_cons] at e
  injection e with e1 e2
  intro z
  have a1 := ad_at h hi
  rw [← z, e1] at a1
  exact (List.nodup_cons.mp adc_nodup).1 (List.mem_of_getElem? a1)
theorem veB_no (a : Addr) : veB.contains (Value.ref a) = false := by rfl
theorem own_of (h : HF K) {n : Str} (hn : n ∈ NS) : Own K (adK K) n := by
  obtain ⟨_, _, m, k⟩ := h.n1 hn
  obtain ⟨k1, k2⟩ := ba k
  refine ⟨fun j hj => ?_, ?_, of_decide_eq_true k1, of_decide_eq_true k2⟩
  · obtain ⟨_, _, m2, _⟩ := h.n1 hj
    have z := kit_of m m2 (by
      rw [List.contains_cons, veB_no]
      have e : ¬ ga K j = ga K "NetError" := fun z => ad_net h hj z.symm
      simp [e])
    show PySem.W.kitOne K (.ref (ga K n)) (.ref (ga K j)) = some (decide (n = j))
    rw [z, decide_eq_decide.mpr (ad_inj h hn hj)]
  · obtain ⟨⟨cd, e1, e2⟩, _⟩ := mroB_ok m
    obtain ⟨⟨cd2, e3, _⟩, e5⟩ := mroB_ok h.f3'.mN
    unfold PySem.W.kitOne
    have hne : (Value.ref (ga K n) == Value.ref (ga K "NetError")) = false := by
      have e : ¬ ga K n = ga K "NetError" := fun z => ad_net h hn z.symm
      simp [e]
    show (if (Value.ref (ga K n) == Value.ref (ga K "NetError")) = true then some true else PySem.W.kitCls K (.ref (ga K n)) (.ref (ga K "NetError"))) = some true
    rw [hne, if_neg (by decide)]
    show (if ((PySem.W.clsIn K (ga K "NetError")).isSome && PySem.W.typeIn K (.ref (ga K "NetError")) == some (.type "type")) = true then PySem.W.mroIn K (ga K n) (.ref (ga K "NetError")) else none) = _
    rw [e3, e5, if_pos (by rfl)]
    unfold PySem.W.mroIn
    rw [e1, Option.bind_some, e2]
    simp
theorem exc_of (h : HF K) {n : Str} (hn : n ∈ NS) : ExcC K (ga K n) := excB_ok (h.n1 hn).2.1 h.f3'.sp h.f3'.tk
theorem nf_of (X : K.In base) (Gm : base.Ns mainGlobals mg) (h : HF K) : NF K mg (adK K) := by
  have f := h.f3'
  obtain ⟨z1, z2⟩ := ba f.zN
  refine ⟨⟨gl_ok X Gm f.gN, z1, z2⟩, excB_ok f.eN f.sp f.tk, fun j hj => ?_, of_decide_eq_true (ba f.kN).1⟩
  obtain ⟨_, _, m2, _⟩ := h.n1 hj
  have z := kit_of f.mN m2 (veB_no _)
  have ne : ("NetError" : Str) ≠ j := fun z => by
    rw [← z] at hj
    revert hj
    decide +kernel
  show PySem.W.kitOne K (.ref (ga K "NetError")) (.ref (ga K j)) = some (decide (("NetError" : Str) = j))
  rw [z, decide_eq_false (ad_net h hj), decide_eq_false ne]
theorem bl_of (X : K.In base) (Gm : base.Ns mainGlobals mg) (h : HF K) : Bl mg := by
  have f := fun (x : Str) (hx : x ∈ FRE) => PySem.W.mg_none_of X Gm (eqO_ok (h.f3'.fr x hx))
  exact ⟨f _ (List.mem_of_getElem? (i := 0) rfl), f _ (List.mem_of_getElem? (i := 1) rfl), f _ (List.mem_of_getElem? (i := 2) rfl), f _ (List.mem_of_getElem? (i := 3) rfl), f _ (List.mem_of_getElem? (i := 4) rfl), f _ (List.mem_of_getElem? (i := 5) rfl), f _ (List.mem_of_getElem? (i := 6) rfl), f _ (List.mem_of_getElem? (i := 7) rfl), f _ (List.mem_of_getElem? (i := 8) rfl)⟩
def tabT (K : PySem.W.Frag) : List (Addr × Str) := TF.map fun p => ((cT K p).2, p.1 ++ ".<locals>." ++ "<lambda>")
theorem tab_at (h : HF K) : (cT K ("_law_made_a", none)).2 = 1500 ∧ (cT K ("_law_made_b", none)).2 = 1507 ∧ (cT K ("_law_made_c", none)).2 = 1514 ∧ (cT K ("_law_made_d", none)).2 = 1521 ∧ (cT K ("_law_made_e", none)).2 = 1528 := by
  have z := of_decide_eq_true h.f4
  simp only [TF, TABS, List.map_cons, List.map_nil, List.cons.injEq, and_true] at z
  exact z
theorem fn_at (h : HF K) {nm : Str} {i j : Nat} (hj : DF[j]? = some (dD nm i)) : ∃ fd, Fun K nm nm (top i) (ga K nm) fd := by
  obtain ⟨fd, D⟩ := h.df (dD nm i) (List.mem_append_left _ (List.mem_of_getElem? hj))
  exact ⟨fd, toFun (x := nm) (q := nm) (st := top i) D⟩
theorem g_at (X : K.In base) (Gm : base.Ns mainGlobals mg) (h : HF K) {nm : Str} {i j : Nat} (hj : DF[j]? = some (dD nm i)) : mg nm = some (.ref (ga K nm)) := gl_ok X Gm (h.f3'.gl (dD nm i) (List.mem_of_getElem? hj))
theorem imA {n : Str} (h : n ∈ nsA) : n ∈ NS := List.mem_append_left _ (List.mem_append_left _ (List.mem_append_left _ (List.mem_append_left _ h)))
theorem imB {n : Str} (h : n ∈ nsB) : n ∈ NS := List.mem_append_left _ (List.mem_append_left _ (List.mem_append_left _ (List.mem_append_right _ h)))
theorem imC {n : Str} (h : n ∈ nsC) : n ∈ NS := List.mem_append_left _ (List.mem_append_left _ (List.mem_append_right _ h))
theorem imD {n : Str} (h : n ∈ nsD) : n ∈ NS := List.mem_append_left _ (List.mem_append_right _ h)
theorem imE {n : Str} (h : n ∈ nsE) : n ∈ NS := List.mem_append_right _ h
theorem made_a (X : K.In base) (Gm : base.Ns mainGlobals mg) (h : HF K) (TB : TabB base mg (cT K ("_law_made_a", none)).1 (cT K ("_law_made_a", none)).2) : CallF P w K mg base 3 "_law_made_a" ["x", "y", "z"] (spMade P w K mg base (adK K) (tabT K) clA) := by
  obtain ⟨fd, Fn⟩ := fn_at h (nm := "_law_made_a") (i := 85) (j := 3) rfl
  have bd := bindsOf (ps := ["x", "y", "z"]) Fn (fun _ _ _ _ _ _ us hl => match us, hl with | [_, _, _], _ => rfl)
  have kp := Fn.kp
  obtain ⟨oc, od, kV, doc, pm, an, cdv, ct, osl, rfl, lk, hcd⟩ := Fn.ex
  obtain ⟨c, rfl⟩ := codeIn_ref hcd
  have hc : codeOf K ("_law_made_a", none) = c := codeOf_eq lk rfl
  have e1 : (cT K ("_law_made_a", none)).1 = c := hc
  rw [e1] at TB
  obtain ⟨t1, t2, t3, t4, t5⟩ := tab_at h
  refine ⟨_, _, ok_made lk hcd ⟨rfl, rfl, rfl, by decide +kernel, rfl, by decide +kernel, by decide +kernel⟩ (Or.inl rfl) (Or.inl rfl) (Or.inl rfl) (Or.inl rfl) (sts := stsA) (cs := clA) (by rfl) (by decide +kernel) TB ?_ ?_ (fun A outer s H E M => does_a M (cfs_A X Gm h)), g_at X Gm h (nm := "_law_made_a") (i := 85) (j := 3) rfl, kp, bd⟩
  · exact List.mem_map.mpr ⟨("_law_made_a", none), List.mem_of_getElem? (i := 0) rfl, rfl⟩
  · intro p hp hz
    obtain ⟨d, hd, rfl⟩ := List.mem_map.mp hp
    have hz : (cT K d).2 = (cT K ("_law_made_a", none)).2 := hz
    simp only [TF, List.mem_cons, List.not_mem_nil, or_false] at hd
    rcases hd with rfl | rfl | rfl | rfl | rfl
    · rfl
    · rw [t2, t1] at hz
      cases hz
    · rw [t3, t1] at hz
      cases hz
    · rw [t4, t1] at hz
      cases hz
    · rw [t5, t1] at hz
      cases hz
theorem kind_a (X : K.In base) (Gm : base.Ns mainGlobals mg) (h : HF K) : ∃ (f : Addr) (fd : FuncData), KPart P w K mg base (adK K) "_law_kinds_a" f fd nsA := by
  obtain ⟨fd, Fn⟩ := fn_at h (nm := "_law_kinds_a") (i := 90) (j := 8) rfl
  have bd := bindsOf (ps := ["e"]) Fn (fun _ _ _ _ _ _ us hl => match us, hl with | [_], _ => rfl)
  have ok := ok_kinds (P := P) (w := w) (mg := mg) (base := base) (ad := adK K) (sts := stkA) (jss := jsA) Fn ⟨rfl, rfl, rfl, by decide +kernel, rfl, by decide +kernel, by decide +kernel⟩ (Or.inl rfl) (Or.inl rfl) (Or.inl rfl) rfl (bl_of X Gm h) (by rfl) (by decide +kernel) (fun cdv A outer s H E M => doesk_a M fun n hn => gl_ok X Gm (h.n1 (imA hn)).1)
  rw [jsA_eq] at ok
  exact ⟨_, fd, ok, g_at X Gm h (nm := "_law_kinds_a") (i := 90) (j := 8) rfl, Fn.kp, bd⟩
theorem made_b (X : K.In base) (Gm : base.Ns mainGlobals mg) (h : HF K) (TB : TabB base mg (cT K ("_law_made_b", none)).1 (cT K ("_law_made_b", none)).2) : CallF P w K mg base 3 "_law_made_b" ["x", "y", "z"] (spMade P w K mg base (adK K) (tabT K) clB) := by
  obtain ⟨fd, Fn⟩ := fn_at h (nm := "_law_made_b") (i := 86) (j := 4) rfl
  have bd := bindsOf (ps := ["x", "y", "z"]) Fn (fun _ _ _ _ _ _ us hl => match us, hl with | [_, _, _], _ => rfl)
  have kp := Fn.kp
  obtain ⟨oc, od, kV, doc, pm, an, cdv, ct, osl, rfl, lk, hcd⟩ := Fn.ex
  obtain ⟨c, rfl⟩ := codeIn_ref hcd
  have hc : codeOf K ("_law_made_b", none) = c := codeOf_eq lk rfl
  have e1 : (cT K ("_law_made_b", none)).1 = c := hc
  rw [e1] at TB
  obtain ⟨t1, t2, t3, t4, t5⟩ := tab_at h
  refine ⟨_, _, ok_made lk hcd ⟨rfl, rfl, rfl, by decide +kernel, rfl, by decide +kernel, by decide +kernel⟩ (Or.inl rfl) (Or.inl rfl) (Or.inl rfl) (Or.inl rfl) (sts := stsB) (cs := clB) (by rfl) (by decide +kernel) TB ?_ ?_ (fun A outer s H E M => does_b M (cfs_B X Gm h)), g_at X Gm h (nm := "_law_made_b") (i := 86) (j := 4) rfl, kp, bd⟩
  · exact List.mem_map.mpr ⟨("_law_made_b", none), List.mem_of_getElem? (i := 1) rfl, rfl⟩
  · intro p hp hz
    obtain ⟨d, hd, rfl⟩ := List.mem_map.mp hp
    have hz : (cT K d).2 = (cT K ("_law_made_b", none)).2 := hz
    simp only [TF, List.mem_cons, List.not_mem_nil, or_false] at hd
    rcases hd with rfl | rfl | rfl | rfl | rfl
    · rw [t1, t2] at hz
      cases hz
    · rfl
    · rw [t3, t2] at hz
      cases hz
    · rw [t4, t2] at hz
      cases hz
    · rw [t5, t2] at hz
      cases hz
theorem kind_b (X : K.In base) (Gm : base.Ns mainGlobals mg) (h : HF K) : ∃ (f : Addr) (fd : FuncData), KPart P w K mg base (adK K) "_law_kinds_b" f fd nsB := by
  obtain ⟨fd, Fn⟩ := fn_at h (nm := "_law_kinds_b") (i := 91) (j := 9) rfl
  have bd := bindsOf (ps := ["e"]) Fn (fun _ _ _ _ _ _ us hl => match us, hl with | [_], _ => rfl)
  have ok := ok_kinds (P := P) (w := w) (mg := mg) (base := base) (ad := adK K) (sts := stkB) (jss := jsB) Fn ⟨rfl, rfl, rfl, by decide +kernel, rfl, by decide +kernel, by decide +kernel⟩ (Or.inl rfl) (Or.inl rfl) (Or.inl rfl) rfl (bl_of X Gm h) (by rfl) (by decide +kernel) (fun cdv A outer s H E M => doesk_b M fun n hn => gl_ok X Gm (h.n1 (imB hn)).1)
  rw [jsB_eq] at ok
  exact ⟨_, fd, ok, g_at X Gm h (nm := "_law_kinds_b") (i := 91) (j := 9) rfl, Fn.kp, bd⟩
theorem made_c (X : K.In base) (Gm : base.Ns mainGlobals mg) (h : HF K) (TB : TabB base mg (cT K ("_law_made_c", none)).1 (cT K ("_law_made_c", none)).2) : CallF P w K mg base 3 "_law_made_c" ["x", "y", "z"] (spMade P w K mg base (adK K) (tabT K) clC) := by
  obtain ⟨fd, Fn⟩ := fn_at h (nm := "_law_made_c") (i := 87) (j := 5) rfl
  have bd := bindsOf (ps := ["x", "y", "z"]) Fn (fun _ _ _ _ _ _ us hl => match us, hl with | [_, _, _], _ => rfl)
  have kp := Fn.kp
  obtain ⟨oc, od, kV, doc, pm, an, cdv, ct, osl, rfl, lk, hcd⟩ := Fn.ex
  obtain ⟨c, rfl⟩ := codeIn_ref hcd
  have hc : codeOf K ("_law_made_c", none) = c := codeOf_eq lk rfl
  have e1 : (cT K ("_law_made_c", none)).1 = c := hc
  rw [e1] at TB
  obtain ⟨t1, t2, t3, t4, t5⟩ := tab_at h
  refine ⟨_, _, ok_made lk hcd ⟨rfl, rfl, rfl, by decide +kernel, rfl, by decide +kernel, by decide +kernel⟩ (Or.inl rfl) (Or.inl rfl) (Or.inl rfl) (Or.inl rfl) (sts := stsC) (cs := clC) (by rfl) (by decide +kernel) TB ?_ ?_ (fun A outer s H E M => does_c M (cfs_C X Gm h)), g_at X Gm h (nm := "_law_made_c") (i := 87) (j := 5) rfl, kp, bd⟩
  · exact List.mem_map.mpr ⟨("_law_made_c", none), List.mem_of_getElem? (i := 2) rfl, rfl⟩
  · intro p hp hz
    obtain ⟨d, hd, rfl⟩ := List.mem_map.mp hp
    have hz : (cT K d).2 = (cT K ("_law_made_c", none)).2 := hz
    simp only [TF, List.mem_cons, List.not_mem_nil, or_false] at hd
    rcases hd with rfl | rfl | rfl | rfl | rfl
    · rw [t1, t3] at hz
      cases hz
    · rw [t2, t3] at hz
      cases hz
    · rfl
    · rw [t4, t3] at hz
      cases hz
    · rw [t5, t3] at hz
      cases hz
theorem kind_c (X : K.In base) (Gm : base.Ns mainGlobals mg) (h : HF K) : ∃ (f : Addr) (fd : FuncData), KPart P w K mg base (adK K) "_law_kinds_c" f fd nsC := by
  obtain ⟨fd, Fn⟩ := fn_at h (nm := "_law_kinds_c") (i := 92) (j := 10) rfl
  have bd := bindsOf (ps := ["e"]) Fn (fun _ _ _ _ _ _ us hl => match us, hl with | [_], _ => rfl)
  have ok := ok_kinds (P := P) (w := w) (mg := mg) (base := base) (ad := adK K) (sts := stkC) (jss := jsC) Fn ⟨rfl, rfl, rfl, by decide +kernel, rfl, by decide +kernel, by decide +kernel⟩ (Or.inl rfl) (Or.inl rfl) (Or.inl rfl) rfl (bl_of X Gm h) (by rfl) (by decide +kernel) (fun cdv A outer s H E M => doesk_c M fun n hn => gl_ok X Gm (h.n1 (imC hn)).1)
  rw [jsC_eq] at ok
  exact ⟨_, fd, ok, g_at X Gm h (nm := "_law_kinds_c") (i := 92) (j := 10) rfl, Fn.kp, bd⟩
theorem made_d (X : K.In base) (Gm : base.Ns mainGlobals mg) (h : HF K) (TB : TabB base mg (cT K ("_law_made_d", none)).1 (cT K ("_law_made_d", none)).2) : CallF P w K mg base 3 "_law_made_d" ["x", "y", "z"] (spMade P w K mg base (adK K) (tabT K) clD) := by
  obtain ⟨fd, Fn⟩ := fn_at h (nm := "_law_made_d") (i := 88) (j := 6) rfl
  have bd := bindsOf (ps := ["x", "y", "z"]) Fn (fun _ _ _ _ _ _ us hl => match us, hl with | [_, _, _], _ => rfl)
  have kp := Fn.kp
  obtain ⟨oc, od, kV, doc, pm, an, cdv, ct, osl, rfl, lk, hcd⟩ := Fn.ex
  obtain ⟨c, rfl⟩ := codeIn_ref hcd
  have hc : codeOf K ("_law_made_d", none) = c := codeOf_eq lk rfl
  have e1 : (cT K ("_law_made_d", none)).1 = c := hc
  rw [e1] at TB
  obtain ⟨t1, t2, t3, t4, t5⟩ := tab_at h
  refine ⟨_, _, ok_made lk hcd ⟨rfl, rfl, rfl, by decide +kernel, rfl, by decide +kernel, by decide +kernel⟩ (Or.inl rfl) (Or.inl rfl) (Or.inl rfl) (Or.inl rfl) (sts := stsD) (cs := clD) (by rfl) (by decide +kernel) TB ?_ ?_ (fun A outer s H E M => does_d M (cfs_D X Gm h)), g_at X Gm h (nm := "_law_made_d") (i := 88) (j := 6) rfl, kp, bd⟩
  · exact List.mem_map.mpr ⟨("_law_made_d", none), List.mem_of_getElem? (i := 3) rfl, rfl⟩
  · intro p hp hz
    obtain ⟨d, hd, rfl⟩ := List.mem_map.mp hp
    have hz : (cT K d).2 = (cT K ("_law_made_d", none)).2 := hz
    simp only [TF, List.mem_cons, List.not_mem_nil, or_false] at hd
    rcases hd with rfl | rfl | rfl | rfl | rfl
    · rw [t1, t4] at hz
      cases hz
    · rw [t2, t4] at hz
      cases hz
    · rw [t3, t4] at hz
      cases hz
    · rfl
    · rw [t5, t4] at hz
      cases hz
theorem kind_d (X : K.In base) (Gm : base.Ns mainGlobals mg) (h : HF K) : ∃ (f : Addr) (fd : FuncData), KPart P w K mg base (adK K) "_law_kinds_d" f fd nsD := by
  obtain ⟨fd, Fn⟩ := fn_at h (nm := "_law_kinds_d") (i := 93) (j := 11) rfl
  have bd := bindsOf (ps := ["e"]) Fn (fun _ _ _ _ _ _ us hl => match us, hl with | [_], _ => rfl)
  have ok := ok_kinds (P := P) (w := w) (mg := mg) (base := base) (ad := adK K) (sts := stkD) (jss := jsD) Fn ⟨rfl, rfl, rfl, by decide +kernel, rfl, by decide +kernel, by decide +kernel⟩ (Or.inl rfl) (Or.inl rfl) (Or.inl rfl) rfl (bl_of X Gm h) (by rfl) (by decide +kernel) (fun cdv A outer s H E M => doesk_d M fun n hn => gl_ok X Gm (h.n1 (imD hn)).1)
  rw [jsD_eq] at ok
  exact ⟨_, fd, ok, g_at X Gm h (nm := "_law_kinds_d") (i := 93) (j := 11) rfl, Fn.kp, bd⟩
theorem made_e (X : K.In base) (Gm : base.Ns mainGlobals mg) (h : HF K) (TB : TabB base mg (cT K ("_law_made_e", none)).1 (cT K ("_law_made_e", none)).2) : CallF P w K mg base 3 "_law_made_e" ["x", "y", "z"] (spMade P w K mg base (adK K) (tabT K) clE) := by
  obtain ⟨fd, Fn⟩ := fn_at h (nm := "_law_made_e") (i := 89) (j := 7) rfl
  have bd := bindsOf (ps := ["x", "y", "z"]) Fn (fun _ _ _ _ _ _ us hl => match us, hl with | [_, _, _], _ => rfl)
  have kp := Fn.kp
  obtain ⟨oc, od, kV, doc, pm, an, cdv, ct, osl, rfl, lk, hcd⟩ := Fn.ex
  obtain ⟨c, rfl⟩ := codeIn_ref hcd
  have hc : codeOf K ("_law_made_e", none) = c := codeOf_eq lk rfl
  have e1 : (cT K ("_law_made_e", none)).1 = c := hc
  rw [e1] at TB
  obtain ⟨t1, t2, t3, t4, t5⟩ := tab_at h
  refine ⟨_, _, ok_made lk hcd ⟨rfl, rfl, rfl, by decide +kernel, rfl, by decide +kernel, by decide +kernel⟩ (Or.inl rfl) (Or.inl rfl) (Or.inl rfl) (Or.inl rfl) (sts := stsE) (cs := clE) (by rfl) (by decide +kernel) TB ?_ ?_ (fun A outer s H E M => does_e M (cfs_E X Gm h)), g_at X Gm h (nm := "_law_made_e") (i := 89) (j := 7) rfl, kp, bd⟩
  · exact List.mem_map.mpr ⟨("_law_made_e", none), List.mem_of_getElem? (i := 4) rfl, rfl⟩
  · intro p hp hz
    obtain ⟨d, hd, rfl⟩ := List.mem_map.mp hp
    have hz : (cT K d).2 = (cT K ("_law_made_e", none)).2 := hz
    simp only [TF, List.mem_cons, List.not_mem_nil, or_false] at hd
    rcases hd with rfl | rfl | rfl | rfl | rfl
    · rw [t1, t5] at hz
      cases hz
    · rw [t2, t5] at hz
      cases hz
    · rw [t3, t5] at hz
      cases hz
    · rw [t4, t5] at hz
      cases hz
    · rfl
theorem kind_e (X : K.In base) (Gm : base.Ns mainGlobals mg) (h : HF K) : ∃ (f : Addr) (fd : FuncData), KPart P w K mg base (adK K) "_law_kinds_e" f fd nsE := by
  obtain ⟨fd, Fn⟩ := fn_at h (nm := "_law_kinds_e") (i := 94) (j := 12) rfl
  have bd := bindsOf (ps := ["e"]) Fn (fun _ _ _ _ _ _ us hl => match us, hl with | [_], _ => rfl)
  have ok := ok_kinds (P := P) (w := w) (mg := mg) (base := base) (ad := adK K) (sts := stkE) (jss := jsE) Fn ⟨rfl, rfl, rfl, by decide +kernel, rfl, by decide +kernel, by decide +kernel⟩ (Or.inl rfl) (Or.inl rfl) (Or.inl rfl) rfl (bl_of X Gm h) (by rfl) (by decide +kernel) (fun cdv A outer s H E M => doesk_e M fun n hn => gl_ok X Gm (h.n1 (imE hn)).1)
  rw [jsE_eq] at ok
  exact ⟨_, fd, ok, g_at X Gm h (nm := "_law_kinds_e") (i := 94) (j := 12) rfl, Fn.kp, bd⟩
theorem lf_of (X : K.In base) (Gm : base.Ns mainGlobals mg) (h : HF K) (TB : ∀ p ∈ TF, TabB base mg (cT K p).1 (cT K p).2) : LF P w K mg base (adK K) (tabT K) := by
  have B := bl_of X Gm h
  have ex : ∃ o, base.get? sysModules = some o := by
    have z := h.f3'.sy
    cases e : K.lookup sysModules with
    | none => rw [e] at z; cases z
    | some o => exact ⟨o, X _ _ e⟩
  obtain ⟨dS, fS⟩ := fn_at h (nm := "_law_start") (i := 82) (j := 0) rfl
  obtain ⟨dW, fW⟩ := fn_at h (nm := "_law_draw") (i := 83) (j := 1) rfl
  obtain ⟨dM, fM⟩ := fn_at h (nm := "_law_mixed") (i := 84) (j := 2) rfl
  obtain ⟨dK, fK⟩ := fn_at h (nm := "_law_kinds") (i := 95) (j := 13) rfl
  obtain ⟨dO, fO⟩ := fn_at h (nm := "_law_is_own") (i := 96) (j := 14) rfl
  obtain ⟨dT, fT⟩ := fn_at h (nm := "_law_are_these") (i := 97) (j := 15) rfl
  have bW := bindsOf (ps := ["stream", "many"]) fW (fun _ _ _ _ _ _ us hl => match us, hl with | [_, _], _ => rfl)
  have bK := bindsOf (ps := ["e"]) fK (fun _ _ _ _ _ _ us hl => match us, hl with | [_], _ => rfl)
  have gK := g_at X Gm h (nm := "_law_kinds") (i := 95) (j := 13) rfl
  obtain ⟨_, _, kA⟩ := kind_a (P := P) (w := w) X Gm h
  obtain ⟨_, _, kB⟩ := kind_b (P := P) (w := w) X Gm h
  obtain ⟨_, _, kC⟩ := kind_c (P := P) (w := w) X Gm h
  obtain ⟨_, _, kD⟩ := kind_d (P := P) (w := w) X Gm h
  obtain ⟨_, _, kE⟩ := kind_e (P := P) (w := w) X Gm h
  have okK := ok_kindsAll fK kA kB kC kD kE (by decide +kernel)
  exact
    { B := B
      start := ⟨_, dS, ok_start fS B, g_at X Gm h (nm := "_law_start") (i := 82) (j := 0) rfl, fS.kp, bindsOf (ps := ["script"]) fS (fun _ _ _ _ _ _ us hl => match us, hl with | [_], _ => rfl)⟩
      mixed := ⟨_, dM, ok_mixed fM fW (g_at X Gm h (nm := "_law_draw") (i := 83) (j := 1) rfl) bW B, g_at X Gm h (nm := "_law_mixed") (i := 84) (j := 2) rfl, fM.kp, bindsOf (ps := ["stream", "some"]) fM (fun _ _ _ _ _ _ us hl => match us, hl with | [_, _], _ => rfl)⟩
      mA := made_a X Gm h (TB _ (List.mem_of_getElem? (i := 0) rfl))
      mB := made_b X Gm h (TB _ (List.mem_of_getElem? (i := 1) rfl))
      mC := made_c X Gm h (TB _ (List.mem_of_getElem? (i := 2) rfl))
      mD := made_d X Gm h (TB _ (List.mem_of_getElem? (i := 3) rfl))
      mE := made_e X Gm h (TB _ (List.mem_of_getElem? (i := 4) rfl))
      own := ⟨_, dO, ok_own fO okK gK fK.kp bK (gl_ok X Gm h.f3'.gN) B, g_at X Gm h (nm := "_law_is_own") (i := 96) (j := 14) rfl, fO.kp, bindsOf (ps := ["e", "at"]) fO (fun _ _ _ _ _ _ us hl => match us, hl with | [_, _], _ => rfl)⟩
      kinds := ⟨_, dK, okK, gK, fK.kp, bK⟩
      these := ⟨_, dT, ok_these fT B ex, g_at X Gm h (nm := "_law_are_these") (i := 97) (j := 15) rfl, fT.kp, bindsOf (ps := ["found", "due"]) fT (fun _ _ _ _ _ _ us hl => match us, hl with | [_, _], _ => rfl)⟩
      cl := fun c hc => by
        have hn : c.nm ∈ NS := by
          rw [← cl_names]
          exact List.mem_map.mpr ⟨c, hc, rfl⟩
        exact ⟨cfs X Gm h c hc, own_of h hn, exc_of h hn⟩ }
end
end K0
set_option maxHeartbeats 4000000
noncomputable section
namespace HdK
open PySem PySem.W PySem.Calls PyProof.Rows HandSHeadRun
abbrev R : OpenRow := OpenLaw.row PySem.Challenge.rw_samefromhere_k00_errors_made
/-! ### a part of the top, on the tree -/
section
variable (st : SharedT → Thread → Option (SharedT × Thread)) (n0 : Nat) (ann : Option Value)
def segF : Nat → SharedT → Thread → Option (SharedT × Code × Pos)
  | 0, _, _ => none
  | m + 1, s, t => match endAt 1 t with
    | some f => (match f with
      | .next => some (s, t.code, t.pos)
      | _ => none)
    | none => match stepOk n0 ann t with
      | false => none
      | true => match st s t with
        | some (s', t') => frS s' fun s' => segF m s' t'
        | none => none
/-- so many steps -/
def goK : Nat → SharedT → Thread → Option (SharedT × Thread)
  | 0, s, t => some (s, t)
  | m + 1, s, t => match through t with
    | true => none
    | false => match stepOk n0 ann t with
      | false => none
      | true => match st s t with
        | some (s', t') => frS s' fun s' => goK m s' t'
        | none => none
end
theorem segF_ok {tb : String → Option Builtin} {p : Program} {w : World} {n0 : Nat} {ann : Option Value} : ∀ {m : Nat} {s s' : SharedT} {t : Thread} {c : Code} {q : Pos}, segF (stepT (denote tb) p w) n0 ann m s t = some (s', c, q) → segRun tb p w n0 ann 1 m s.abs t = some (.next, s'.abs, c, q)
  | 0, _, _, _, _, _, h => by cases h
  | m + 1, s, s', t, c, q, h => by
    unfold segF at h
    unfold segRun
    cases he : endAt 1 t with
    | some f =>
      rw [he] at h
      cases f with
      | next => cases h; rfl
      | _ => cases h
    | none =>
      rw [he] at h
      cases hk : stepOk n0 ann t with
      | false => rw [hk] at h; cases h
      | true =>
        rw [hk] at h
        cases hs : stepT (denote tb) p w s t with
        | none => rw [hs] at h; cases h
        | some r =>
          obtain ⟨s2, t2⟩ := r
          rw [hs] at h
          have h3 : (frS s2 fun s' => segF (stepT (denote tb) p w) n0 ann m s' t2) = some (s', c, q) := h
          rw [frS_eq] at h3
          have r := segF_ok h3
          show (match step (denote tb) p w s.abs t with
            | .go s' t' => segRun tb p w n0 ann 1 m s' t'
            | .halt _ _ => none) = some (.next, s'.abs, c, q)
          rw [stepT_spec hs]
          exact r
theorem goK_ok {tb : String → Option Builtin} {p : Program} {w : World} {n0 : Nat} {ann : Option Value} : ∀ {m : Nat} {s s' : SharedT} {t t' : Thread}, goK (stepT (denote tb) p w) n0 ann m s t = some (s', t') → topGo tb p w n0 ann m s.abs t = some (s'.abs, t')
  | 0, _, _, _, _, h => by cases h; rfl
  | m + 1, s, s', t, t', h => by
    unfold goK at h
    unfold topGo
    cases he : through t with
    | true => rw [he] at h; cases h
    | false =>
      rw [he] at h
      cases hk : stepOk n0 ann t with
      | false => rw [hk] at h; cases h
      | true =>
        rw [hk] at h
        cases hs : stepT (denote tb) p w s t with
        | none => rw [hs] at h; cases h
        | some r =>
          obtain ⟨s2, t2⟩ := r
          rw [hs] at h
          have h3 : (frS s2 fun s' => goK (stepT (denote tb) p w) n0 ann m s' t2) = some (s', t') := h
          rw [frS_eq] at h3
          have r := goK_ok h3
          show (match step (denote tb) p w s.abs t with
            | .go s' t' => topGo tb p w n0 ann m s' t'
            | .halt _ _ => none) = some (s'.abs, t')
          rw [stepT_spec hs]
          exact r
/-! ### lists forced -/
def frL {α β : Type} : List α → (List α → β) → β
  | [], k => k []
  | x :: r, k => frL r fun r => k (x :: r)
theorem frL_eq {α β : Type} : ∀ (l : List α) (k : List α → β), frL l k = k l
  | [], _ => rfl
  | x :: r, k => by
    show frL r (fun r => k (x :: r)) = _
    rw [frL_eq r]
end HdK
end
set_option maxHeartbeats 4000000
noncomputable section
namespace HdK
open PySem PySem.W PySem.Calls PyProof.Rows HandSHeadRun
def bodyE : List Stmt := behindTheImports R.prog
def envE : Env := { scope := R.prog.main.scope, locals := mainNs, globals := mainNs, cells := [], code := .ref 13, frame := some 14 }
def codeE : Code := .body bodyE envE
def thr (l : List Stmt) (pos : Pos) : Thread := ⟨(PySem.W.Fast.tw12563942051412417395 l envE).wrap doneF deadEnd id id, codeE, pos, [topFrame default]⟩
/-! ### the heap behind so many classes -/
def hs (w : World) (s : Str) : Int := if s.cps.isEmpty then 0 else reduceHash (w.params.strHash s.cps)
def ent (w : World) (s : Str) (t : Nat) (v : Value) : DictEntry := ⟨hs w s, .str s t, v⟩
def modN : Value := .str "samefromhere.errors" 187
def cutN (t : Nat) : Value := .str "/claim/cut.py" t
def i0 (n : Nat) : Value := .int (Int.ofNat n) 0
def tupO (l : List Value) : Obj := { cls := .type "tuple", data := .seq l.toArray 0 }
def tabO (l : List Value) : Obj := { cls := .none, data := .fields l.toArray }
def bfO (l : List Value) : Obj := { cls := .type "builtin_function_or_method", data := .fields l.toArray }
def codO (l : List Value) : Obj := { cls := .type "code", data := .fields l.toArray }
def dicO (l : List DictEntry) (n : Nat) : Obj := { cls := .type "dict", data := .dict l.toArray n }
def frmO (c ns : Addr) (nm : Value) : Obj := { cls := .type "frame", slots := [some (.ref c), some (.ref 3), some (.ref ns), none, some nm, none, some (.ref 0)].toArray }
def clsO (b0 : Addr) (nm : Str) (t : Nat) (bs : List Value) (mro : List Value) (ns : Addr) (subs : List Value) : Obj :=
  { cls := .type "type", data := .cls ⟨nm, bs, mro, ns, nm, true, [], subs, false, none, false⟩, slots := [some (.ref b0), none, some (.str nm t), some (.str nm (t + 8)), some (.builtin "ValueError.__new__"), some (.bool true)].toArray }
def veM : List Value := [.type "ValueError", .type "Exception", .type "BaseException", .type "object"]
/-- the def of a class's statement, its end -/
def inner (k : Nat) : Stmt := match bodyE[k]? with
  | some (.ClassDef _ _ _ (d :: _) _ _ _ _ _ _ _) => d
  | _ => .Pass default
def posE (k : Nat) : Pos := match bodyE[k]? with
  | some s => s.pos
  | _ => default
def inA (k : Nat) : Arguments := match inner k with
  | .FunctionDef _ a _ _ _ _ _ _ _ _ => a
  | _ => default
def inB (k : Nat) : List Stmt := match inner k with
  | .FunctionDef _ _ b _ _ _ _ _ _ _ => b
  | _ => []
def inS (k : Nat) : Scope := match inner k with
  | .FunctionDef _ _ _ _ _ _ sc _ _ _ => sc
  | _ => default
/-- a class of one field: its statement k, its address a, its first token t, its line -/
def blk (w : World) (k a t l : Nat) (nm f q : Str) : List Obj := [
  tupO [.ref 24],
  bfO [.builtin "type.__prepare__", .type "type"],
  dicO [ent w "__module__" (t + 7) modN, ent w "__qualname__" (t + 9) (.str nm (t + 8)), ent w "__firstlineno__" (t + 11) (.int (Int.ofNat l) (t + 10)), ent w "__init__" (t + 19) (.ref (a + 13)), ent w "__static_attributes__" (t + 21) (.ref (a + 14))] 5,
  tupO [],
  tabO [i0 (l + 2), i0 4, .ref (a + 12)],
  codO [.str nm (t + 2), .str nm (t + 3), cutN (t + 4), i0 l, i0 0, i0 0, i0 0, i0 0, .ref (a + 3), .bool false, i0 181, .ref (a + 4), .none, .none, .none, .none, i0 (t + 5), i0 l, cutN (t + 6)],
  frmO (a + 5) (a + 2) modN,
  tupO [],
  tabO [],
  tupO [.str "self" (t + 15), .str f (t + 16)],
  tupO [],
  { cls := .none, data := .func { name := "__init__", qualname := q, params := inA k, body := .stmts (inB k), scope := inS k, globals := 0, closure := [], defaults := .none, kwdefaults := .none } },
  codO [.str "__init__" (t + 12), .str q (t + 13), cutN (t + 14), i0 (l + 2), i0 2, i0 0, i0 0, i0 3, .ref (a + 7), .bool true, i0 181, .ref (a + 8), .none, .ref (a + 9), .ref (a + 10), .ref (a + 11), i0 (t + 17), i0 (l + 2), cutN (t + 18)],
  { cls := .type "function", data := .func { name := "__init__", qualname := q, params := inA k, body := .stmts (inB k), scope := inS k, globals := 3, closure := [], defaults := .none, kwdefaults := .none, pyModule := modN, code := .ref (a + 12) } },
  tupO [.str f (t + 20)],
  dicO [ent w "__module__" (t + 7) modN, ent w "__firstlineno__" (t + 11) (.int (Int.ofNat l) (t + 10)), ent w "__init__" (t + 19) (.ref (a + 13)), ent w "__static_attributes__" (t + 21) (.ref (a + 14)), ent w "__doc__" (t + 22) .none] 2,
  clsO a nm t [.ref 24] (.ref (a + 16) :: .ref 24 :: veM) (a + 15) [],
  { cls := .type "super", data := .fields [.ref (a + 16), .ref (a + 16), .ref (a + 16)].toArray },
  bfO [.builtin "object.__init_subclass__", .ref (a + 16)]]
/-- NetError's own -/
def blk0 (w : World) (subs : List Value) : List Obj := [
  tupO [.type "ValueError"],
  bfO [.builtin "type.__prepare__", .type "type"],
  dicO [ent w "__module__" 196 modN, ent w "__qualname__" 198 (.str "NetError" 197), ent w "__firstlineno__" 200 (.int 2 199), ent w "__static_attributes__" 201 (.ref 22)] 4,
  tupO [],
  tabO [],
  codO [.str "NetError" 191, .str "NetError" 192, cutN 193, i0 2, i0 0, i0 0, i0 0, i0 0, .ref 18, .bool false, i0 181, .ref 19, .none, .none, .none, .none, i0 194, i0 2, cutN 195],
  frmO 20 17 modN,
  tupO [],
  dicO [ent w "__module__" 196 modN, ent w "__firstlineno__" 200 (.int 2 199), ent w "__static_attributes__" 201 (.ref 22), ent w "__weakref__" 203 (.ref 25), ent w "__doc__" 204 .none] 3,
  clsO 15 "NetError" 189 [.type "ValueError"] (.ref 24 :: veM) 23 subs,
  { cls := .type "getset_descriptor", data := .fields [.str "__weakref__" 202, .ref 24, .builtin "ExceptionGroup.__weakref__", .none].toArray },
  { cls := .type "super", data := .fields [.ref 24, .ref 24, .ref 24].toArray },
  bfO [.builtin "object.__init_subclass__", .ref 24]]
def f3 (a b c : Str) : Str × Str × Str := (a, b, c)
def F1a : List (Str × Str × Str) := [f3 "BadAnswers" "index" "BadAnswers.__init__", f3 "BadBase" "thing" "BadBase.__init__", f3 "BadBegun" "index" "BadBegun.__init__", f3 "BadChance" "thing" "BadChance.__init__", f3 "BadChoice" "thing" "BadChoice.__init__", f3 "BadCopies" "index" "BadCopies.__init__", f3 "BadCounts" "index" "BadCounts.__init__", f3 "BadCourse" "index" "BadCourse.__init__", f3 "BadDeed" "thing" "BadDeed.__init__", f3 "BadDoor" "thing" "BadDoor.__init__", f3 "BadDoors" "index" "BadDoors.__init__", f3 "BadDue" "thing" "BadDue.__init__", f3 "BadForm" "index" "BadForm.__init__", f3 "BadImages" "index" "BadImages.__init__", f3 "BadIns" "index" "BadIns.__init__", f3 "BadLetters" "index" "BadLetters.__init__", f3 "BadLoops" "thing" "BadLoops.__init__"]
def F1b : List (Str × Str × Str) := [f3 "BadMany" "thing" "BadMany.__init__", f3 "BadModuli" "index" "BadModuli.__init__", f3 "BadNetRow" "index" "BadNetRow.__init__", f3 "BadNetRows" "index" "BadNetRows.__init__", f3 "BadNets" "index" "BadNets.__init__", f3 "BadNumber" "thing" "BadNumber.__init__", f3 "BadOrder" "index" "BadOrder.__init__", f3 "BadOuts" "index" "BadOuts.__init__", f3 "BadParting" "index" "BadParting.__init__", f3 "BadPeriod" "thing" "BadPeriod.__init__", f3 "BadPicks" "index" "BadPicks.__init__", f3 "BadPiece" "thing" "BadPiece.__init__", f3 "BadPieces" "index" "BadPieces.__init__", f3 "BadPlaces" "index" "BadPlaces.__init__", f3 "BadPlan" "thing" "BadPlan.__init__", f3 "BadQuestion" "thing" "BadQuestion.__init__", f3 "BadRight" "thing" "BadRight.__init__"]
def F1c : List (Str × Str × Str) := [f3 "BadRoads" "index" "BadRoads.__init__", f3 "BadSenses" "index" "BadSenses.__init__", f3 "BadSheet" "index" "BadSheet.__init__", f3 "BadSides" "thing" "BadSides.__init__", f3 "BadSigns" "index" "BadSigns.__init__", f3 "BadSteps" "index" "BadSteps.__init__", f3 "BadText" "line" "BadText.__init__", f3 "BadThrow" "index" "BadThrow.__init__", f3 "BadTimes" "thing" "BadTimes.__init__", f3 "BadTurn" "thing" "BadTurn.__init__", f3 "BadTurns" "index" "BadTurns.__init__", f3 "BadView" "thing" "BadView.__init__", f3 "BadViews" "index" "BadViews.__init__", f3 "BadWalk" "index" "BadWalk.__init__", f3 "BadWalker" "thing" "BadWalker.__init__", f3 "BadWords" "index" "BadWords.__init__", f3 "BadWritten" "thing" "BadWritten.__init__"]
def F1 : List (Str × Str × Str) := F1a ++ F1b ++ F1c
def aK (j : Nat) : Nat := 28 + 19 * j
def tK (j : Nat) : Nat := 207 + 25 * j
def lK (j : Nat) : Nat := 4 + 4 * j
/-- over the first classes, by their numbers -/
def ovr {α : Type} (g : Nat → Str × Str × Str → List α) : List (Str × Str × Str) → Nat → List α
  | [], _ => []
  | x :: r, j => g j x ++ ovr g r (j + 1)
def namesE (w : World) (l : List (Str × Str × Str)) : List DictEntry := [ent w "__name__" 165 modN, ent w "__doc__" 166 .none, ent w "__package__" 167 .none, ent w "__loader__" 168 (.builtin "__main__.__loader__#opaque"), ent w "__spec__" 169 .none, ent w "__annotations__" 170 (.ref 6), ent w "__builtins__" 171 (.ref 4),
  ent w "__file__" 173 (cutN 172), ent w "__cached__" 174 .none, ent w "NetError" 206 (.ref 24)] ++ ovr (fun j x => [ent w x.1 (tK j + 24) (.ref (aK j + 16))]) l 0
/-- all objects behind NetError and these classes -/
def heapE (w : World) (l : List (Str × Str × Str)) : List Obj := ((boot_heap w.params).objs.toList.set 3 (dicO (namesE w l) (10 + l.length))) ++ [tupO [], tabO ([i0 2, i0 0, .ref 20] ++ ovr (fun j _ => [i0 (lK j), i0 0, .ref (aK j + 5)]) l 0),
  codO [.str "<module>" 182, .str "<module>" 183, cutN 184, i0 1, i0 0, i0 0, i0 0, i0 0, .ref 11, .bool false, i0 181, .ref 12, .none, .none, .none, .none, i0 185, i0 1, cutN 186], frmO 13 3 (.str "__main__" 164)] ++
  blk0 w (ovr (fun j _ => [.ref (aK j + 16)]) l 0) ++ ovr (fun j x => blk w (j + 2) (aK j) (tK j) (lK j) x.1 x.2.1 x.2.2) l 0
abbrev Out : Type := List Obj × Nat × Life × Array GenState × Drawn × Nat × OsState × Code × Pos
def outL : Option (SharedT × Code × Pos) → Option Out
  | some (s, c, q) => frL (s.tree.list s.n) fun l => some (l, s.n, s.life, s.gens, s.drawn, s.toks, s.os, c, q)
  | none => none
def startE (w : World) (os : OsState) (l : List (Str × Str × Str)) : Option SharedT := match putAll (heapE w l) .nil 0 with
  | some (t, n) => frNat n fun n => some ⟨t, n, (boot_heap w.params).life, #[], boot_drawn, 207 + 25 * l.length, os⟩
  | none => none
/-- from so many to so many -/
def partE (w : World) (os : OsState) (M i j : Nat) : Prop := outL ((startE w os (F1.take i)).bind fun s => segF (stepQ (denQ tabQ) R.prog w) 11 (bootAnn w) M s (thr ((bodyE.drop (i + 2)).take (j - i)) (posE (i + 1)))) =
  some (heapE w (F1.take j), 28 + 19 * j, (boot_heap w.params).life, #[], boot_drawn, 207 + 25 * j, os, codeE, posE (j + 1))
end HdK
end
set_option maxHeartbeats 8000000
noncomputable section
namespace HdK
open PySem PySem.W PySem.Calls PyProof.Rows HandSHeadRun
theorem part_1 (w : World) (os : OsState) : partE w os 8000 0 17 := by
  unfold partE
  kernel_rfl
theorem part_2 (w : World) (os : OsState) : partE w os 8000 17 34 := by
  unfold partE
  kernel_rfl
theorem part_3 (w : World) (os : OsState) : partE w os 8000 34 51 := by
  unfold partE
  kernel_rfl
end HdK
end
set_option maxHeartbeats 4000000
noncomputable section
namespace HdK
open PySem PySem.W PySem.Calls PyProof.Rows HandSHeadRun
def head12 (w : World) : List Obj := (boot_heap w.params).objs.toList ++ [tupO [], tabO [],
  codO [.str "<module>" 182, .str "<module>" 183, cutN 184, i0 1, i0 0, i0 0, i0 0, i0 0, .ref 11, .bool false, i0 181, .ref 12, .none, .none, .none, .none, i0 185, i0 1, cutN 186], frmO 13 3 (.str "__main__" 164)]
/-- the boot on a tree, its first steps -/
def boot12 (w : World) (os : OsState) : Option (SharedT × Thread) := match putAll (boot_heap w.params).objs.toList .nil 0 with
  | some (t, n) => frNat n fun n0 => goK (stepQ (denQ tabQ) R.prog w) 11 (bootAnn w) 12 (bootT w os (t, n0)) (topStub R.prog)
  | none => none
theorem go_12 (w : World) (os : OsState) : ((boot12 w os).bind fun r => frL (r.1.tree.list r.1.n) fun l => some ((l, r.1.n, r.1.life, r.1.gens), (r.1.drawn, r.1.toks, r.1.os), r.2)) =
    some ((head12 w, 15, (boot_heap w.params).life, #[]), (boot_drawn, 187, os), ⟨denQ tabQ (.body bodyE envE), codeE, default, [topFrame default]⟩) := by
  kernel_rfl
def start12 (w : World) (os : OsState) : Option SharedT := match putAll (head12 w) .nil 0 with
  | some (t, n) => frNat n fun n => some ⟨t, n, (boot_heap w.params).life, #[], boot_drawn, 187, os⟩
  | none => none
def thrB : Thread := ⟨(blockStart bodyE envE).wrap (fun _ => doneF .next) deadEnd id id, codeE, default, [topFrame default]⟩
theorem part_b (w : World) (os : OsState) : outL ((start12 w os).bind fun s => segF (stepQ (denQ tabQ) R.prog w) 11 (bootAnn w) 40 s thrB) = some (head12 w, 15, (boot_heap w.params).life, #[], boot_drawn, 187, os, codeE, default) := by
  kernel_rfl
theorem part_0 (w : World) (os : OsState) : outL ((start12 w os).bind fun s => segF (stepQ (denQ tabQ) R.prog w) 11 (bootAnn w) 400 s (thr (bodyE.take 2) default)) = some (heapE w (F1.take 0), 28 + 19 * 0, (boot_heap w.params).life, #[], boot_drawn, 207 + 25 * 0, os, codeE, posE (0 + 1)) := by
  kernel_rfl
theorem boot_n (w : World) : (boot_heap w.params).objs.size = 11 := by kernel_rfl
end HdK
end
set_option maxHeartbeats 4000000
noncomputable section
namespace HdK
open PySem PySem.W PySem.Calls PyProof.Rows HandSHeadRun
/-! ### the parts put together -/
def shOf (w : World) (os : OsState) (l : List Obj) (k : Nat) : Shared := ⟨⟨l.toArray, (boot_heap w.params).life⟩, #[], boot_drawn, k, os⟩
def shE (w : World) (os : OsState) (l : List (Str × Str × Str)) : Shared := shOf w os (heapE w l) (207 + 25 * l.length)
theorem tree_abs {l : List Obj} {T : PySem.W.BT} {n : Nat} {lf : Life} (e : putAll l .nil 0 = some (T, n)) : absHeap T n lf = ⟨l.toArray, lf⟩ := by
  rw [putAll_ok (life := lf) e, abs_nil, push_all]
  simp
theorem start_abs {w : World} {os : OsState} {l : List (Str × Str × Str)} {s : SharedT} (h : startE w os l = some s) : s.abs = shE w os l := by
  unfold startE at h
  cases e : putAll (heapE w l) .nil 0 with
  | none => rw [e] at h; cases h
  | some r =>
    obtain ⟨T, n⟩ := r
    rw [e] at h
    have h2 : (frNat n fun n => some (⟨T, n, (boot_heap w.params).life, #[], boot_drawn, 207 + 25 * l.length, os⟩ : SharedT)) = some s := h
    rw [frNat_eq] at h2
    cases h2
    show (⟨absHeap T n (boot_heap w.params).life, #[], boot_drawn, 207 + 25 * l.length, os⟩ : Shared) = _
    rw [tree_abs e]
    rfl
theorem start12_abs {w : World} {os : OsState} {s : SharedT} (h : start12 w os = some s) : s.abs = shOf w os (head12 w) 187 := by
  unfold start12 at h
  cases e : putAll (head12 w) .nil 0 with
  | none => rw [e] at h; cases h
  | some r =>
    obtain ⟨T, n⟩ := r
    rw [e] at h
    have h2 : (frNat n fun n => some (⟨T, n, (boot_heap w.params).life, #[], boot_drawn, 187, os⟩ : SharedT)) = some s := h
    rw [frNat_eq] at h2
    cases h2
    show (⟨absHeap T n (boot_heap w.params).life, #[], boot_drawn, 187, os⟩ : Shared) = _
    rw [tree_abs e]
    rfl
theorem out_abs {r : Option (SharedT × Code × Pos)} {w : World} {os : OsState} {l : List Obj} {n k : Nat} {c : Code} {q : Pos} (h : outL r = some (l, n, (boot_heap w.params).life, #[], boot_drawn, k, os, c, q)) : ∃ s, r = some (s, c, q) ∧ s.abs = shOf w os l k := by
  cases r with
  | none => cases h
  | some z =>
    obtain ⟨⟨T, m, lf, g, d, tk, o⟩, c2, q2⟩ := z
    have h2 : (frL (T.list m) fun l => some (l, m, lf, g, d, tk, o, c2, q2)) = some (l, n, (boot_heap w.params).life, #[], boot_drawn, k, os, c, q) := h
    rw [frL_eq] at h2
    simp only [Option.some.injEq, Prod.mk.injEq] at h2
    obtain ⟨h3, h4, h5, h6, h7, h8, h9, h10, h11⟩ := h2
    subst h3 h4 h5 h6 h7 h8 h9 h10 h11
    exact ⟨_, rfl, rfl⟩
theorem thr_eq (l : List Stmt) (q : Pos) : thr l q = piecesOf l envE codeE q [topFrame default] := by
  unfold thr
  rw [← PySem.W.Fast.te12563942051412417395]
/-- a part, on the heap itself -/
theorem seg_of {w : World} {os : OsState} {M n k : Nat} {o : Option SharedT} {A : Shared} {t : Thread} {l : List Obj} {c : Code} {q : Pos} (ho : ∀ s, o = some s → s.abs = A)
    (h : outL (o.bind fun s => segF (stepQ (denQ tabQ) R.prog w) 11 (bootAnn w) M s t) = some (l, n, (boot_heap w.params).life, #[], boot_drawn, k, os, c, q)) :
    segRun treeTable R.prog w 11 (bootAnn w) 1 M A t = some (.next, shOf w os l k, c, q) := by
  obtain ⟨s', e, ea⟩ := out_abs h
  obtain ⟨s, e1, e2⟩ := Option.bind_eq_some_iff.mp e
  rw [← stepQ_eq, ← denQ_eq, ← tabQ_eq] at e2
  have z := segF_ok e2
  rw [ho s e1, ea] at z
  exact z
theorem part_ok {w : World} {os : OsState} {M i j : Nat} (hj : j ≤ 51) (h : partE w os M i j) : segRun treeTable R.prog w 11 (bootAnn w) 1 M (shE w os (F1.take i)) (piecesOf ((bodyE.drop (i + 2)).take (j - i)) envE codeE (posE (i + 1)) [topFrame default]) = some (.next, shE w os (F1.take j), codeE, posE (j + 1)) := by
  have z := seg_of (fun s e => start_abs e) h
  rw [thr_eq] at z
  have hl : (F1.take j).length = j := by
    rw [List.length_take, show F1.length = 51 from by rfl]
    omega
  unfold shE
  rw [hl]
  exact z
theorem go_ok (w : World) (os : OsState) : topGo treeTable R.prog w 11 (bootAnn w) 12 ⟨boot_heap w.params, #[], boot_drawn, boot_toks, os⟩ (topStub R.prog) = some (shOf w os (head12 w) 187, ⟨denote treeTable (.body bodyE envE), codeE, default, [topFrame default]⟩) := by
  have h := go_12 w os
  obtain ⟨⟨s, t⟩, e1, e2⟩ := Option.bind_eq_some_iff.mp h
  obtain ⟨T, m, lf, g, d, tk, o⟩ := s
  rw [frL_eq] at e2
  simp only [Option.some.injEq, Prod.mk.injEq] at e2
  obtain ⟨⟨h3, h4, h5, h6⟩, ⟨h7, h8, h9⟩, h10⟩ := e2
  unfold boot12 at e1
  cases e : putAll (boot_heap w.params).objs.toList .nil 0 with
  | none => rw [e] at e1; cases e1
  | some r =>
    obtain ⟨T0, n0⟩ := r
    rw [e] at e1
    have e3 : (frNat n0 fun n0 => goK (stepQ (denQ tabQ) R.prog w) 11 (bootAnn w) 12 (bootT w os (T0, n0)) (topStub R.prog)) = some (⟨T, m, lf, g, d, tk, o⟩, t) := e1
    rw [frNat_eq, ← stepQ_eq, ← denQ_eq, ← tabQ_eq] at e3
    have z := goK_ok e3
    have eb : (bootT w os (T0, n0)).abs = ⟨boot_heap w.params, #[], boot_drawn, boot_toks, os⟩ := by
      show (⟨absHeap T0 n0 (boot_heap w.params).life, #[], boot_drawn, boot_toks, os⟩ : Shared) = _
      rw [putAll_heap e]
    rw [eb] at z
    rw [z, h10, ← denQ_eq, ← tabQ_eq]
    have ea : (⟨T, m, lf, g, d, tk, o⟩ : SharedT).abs = shOf w os (head12 w) 187 := by
      show (⟨⟨(T.list m).toArray, lf⟩, g, d, tk, o⟩ : Shared) = _
      rw [h3, h5, h6, h7, h8, h9]
      rfl
    rw [ea]
section
variable {w : World} {os : OsState}
theorem drop_cut (a b : Nat) : bodyE.drop a = (bodyE.drop a).take b ++ bodyE.drop (a + b) := by
  rw [← List.drop_drop, List.take_append_drop]
/-- the top's run, by the run of its end -/
theorem run_by {N : Nat} {r : Shared} (z : topRun treeTable R.prog w 11 (bootAnn w) N (shE w os F1) (restOf (bodyE.drop 53) envE codeE (posE 52) [topFrame default]) = some r) :
    topRun treeTable R.prog w (boot_heap w.params).objs.size (bootAnn w) (12 + (40 + (400 + (8000 + (8000 + (8000 + N)))))) ⟨boot_heap w.params, #[], boot_drawn, boot_toks, os⟩ (topStub R.prog) = some r := by
  have p3 := part_ok (by decide) (part_3 w os)
  have p2 := part_ok (by decide) (part_2 w os)
  have p1 := part_ok (by decide) (part_1 w os)
  have p0 := seg_of (fun s e => start12_abs e) (part_0 w os)
  have pb := seg_of (fun s e => start12_abs e) (part_b w os)
  rw [thr_eq] at p0
  have z3 := piece_app p3 z
  rw [← drop_cut 36 17] at z3
  have z2 := piece_app p2 z3
  rw [← drop_cut 19 17] at z2
  have z1 := piece_app p1 z2
  rw [← drop_cut 2 17] at z1
  have z0 := piece_app p0 z1
  rw [List.take_append_drop] at z0
  have zb := piece_block pb z0
  rw [boot_n]
  exact go_top (go_ok w os) zb
end
end HdK
end
set_option maxHeartbeats 4000000
noncomputable section
namespace HdK
open PySem PySem.W PySem.Calls PyProof.Rows HandSHeadRun
abbrev qv : Program := view R.prog [98]
def nm0 : List PySem.Str := ["NetError", "BadAnswers", "BadBase", "BadBegun", "BadChance", "BadChoice", "BadCopies", "BadCounts", "BadCourse", "BadDeed", "BadDoor", "BadDoors", "BadDue", "BadForm", "BadImages", "BadIns", "BadLetters", "BadLoops", "BadMany", "BadModuli", "BadNetRow", "BadNetRows", "BadNets", "BadNumber"]
def nm1 : List PySem.Str := ["BadOrder", "BadOuts", "BadParting", "BadPeriod", "BadPicks", "BadPiece", "BadPieces", "BadPlaces", "BadPlan", "BadQuestion", "BadRight", "BadRoads", "BadSenses", "BadSheet", "BadSides", "BadSigns", "BadSteps", "BadText", "BadThrow", "BadTimes", "BadTurn", "BadTurns", "BadView", "BadViews"]
def nm2 : List PySem.Str := ["BadWalk", "BadWalker", "BadWords", "BadWritten", "CanBeDone", "InUse", "IsSure", "IsWatched", "LastPlace", "NoCount", "NoFit", "NoGate", "NoGroup", "NoMove", "NoNet", "NoPlace", "NoRoad", "NoState", "NoWord", "NotEven", "NotJoined", "NotOver", "NotStrong", "NotTwoWay"]
def nm3 : List PySem.Str := ["NotWatched", "NotWhole", "OpenView", "SameDue", "TakenName", "ToldApart", "UnlikeGates", "WouldChange", "_law_start", "_law_draw", "_law_mixed", "_law_made_a", "_law_made_b", "_law_made_c", "_law_made_d", "_law_made_e", "_law_kinds_a", "_law_kinds_b", "_law_kinds_c", "_law_kinds_d", "_law_kinds_e", "_law_kinds", "_law_is_own", "_law_are_these"]
def names : List PySem.Str := nm0 ++ nm1 ++ nm2 ++ nm3
def thrZ : Thread := ⟨(PySem.W.Fast.tw12563942051412417395 (bodyE.drop 53) envE).wrap doneF (leaveH envE) id id, codeE, posE 52, [topFrame default]⟩
/-- the run's end -/
def endZ (w : World) (os : OsState) : Option SharedT := (startE w os F1).bind fun s => goF (stepQ (denQ tabQ) R.prog w) 11 (bootAnn w) 12000 s thrZ
def looksZ (w : World) (s : SharedT) := (looksF R.prog (boot_heap w.params) s.abs, seenQ qv names (importedModules R.prog.main.body) (fun s => xlAt qv [] s && recOk R.toRowW.records s) s.abs)
end HdK
end
set_option maxHeartbeats 4000000
noncomputable section
namespace HdK
open PySem PySem.W PySem.Calls PyProof.Rows HandSHeadRun
/-- the run, if its end is told on the tree -/
theorem end_by {w : World} {os : OsState} {M : Nat} {t : Thread} {s : SharedT} (h : ((startE w os F1).bind fun s => goF (stepQ (denQ tabQ) R.prog w) 11 (bootAnn w) M s t) = some s)
    (ht : t = restOf (bodyE.drop 53) envE codeE (posE 52) [topFrame default]) :
    topRun treeTable R.prog w (boot_heap w.params).objs.size (bootAnn w) (12 + (40 + (400 + (8000 + (8000 + (8000 + M)))))) ⟨boot_heap w.params, #[], boot_drawn, boot_toks, os⟩ (topStub R.prog) = some s.abs := by
  obtain ⟨s1, e1, e2⟩ := Option.bind_eq_some_iff.mp h
  rw [← stepQ_eq, ← denQ_eq, ← tabQ_eq] at e2
  have z := goF_ok e2
  rw [start_abs e1, ht] at z
  exact run_by z
/-- what the top has left, told of a run from the boot -/
theorem left_from {q : Program} {loose : List Str} {Xt : Shared → Bool} {α : Type} {Yf : Shared → α} {Ya : World → α} {M N : Nat} (he : opening R.prog = plainProg R.prog.main.scope.names) (hN : Nat.ble 600 N = true)
    (hf : ∀ s, fenceModules? R.prog s = some s) (hle : M ≤ N)
    (run : ∀ (w : World) (os : OsState), ∃ r : Shared, topRun treeTable R.prog w (boot_heap w.params).objs.size (bootAnn w) M ⟨boot_heap w.params, #[], boot_drawn, boot_toks, os⟩ (topStub R.prog) = some r ∧
      looksF R.prog (boot_heap w.params) r = true ∧ openSeen q loose (importedModules R.prog.main.body) Xt true r = openGood q loose ∧ Yf r = Ya w) : LeftO R.prog q loose Xt Yf Ya N true := by
  intro w
  have hb := boot_open he hN hf w
  rw [Option.map_eq_some_iff] at hb
  obtain ⟨⟨hp, gs, dr, tk, os⟩, hs, ht⟩ := hb
  have ht : (hp, gs, dr, tk) = (boot_heap w.params, (#[] : Array GenState), boot_drawn, boot_toks) := ht
  simp only [Prod.mk.injEq] at ht
  obtain ⟨t1, t2, t3, t4⟩ := ht
  subst t1 t2 t3 t4
  obtain ⟨r, z, g1, g2, g3⟩ := run w os
  have z := topRun_mono (N - M) _ _ _ _ z
  rw [Nat.add_sub_cancel' hle] at z
  unfold openEnds
  rw [hs]
  have top : topFrom treeTable R.prog w N ⟨boot_heap w.params, #[], boot_drawn, boot_toks, os⟩ = some r := by
    unfold topFrom
    dsimp only
    rw [boot_ns]
    have g1' : (staticsOk (importedModules R.prog.main.body) (boot_heap w.params) r.heap && namesBound R.prog r.heap && gensDone r && laidKept (boot_heap w.params) r.heap) = true := g1
    have z' : topRun treeTable R.prog w (boot_heap w.params).objs.size ((boot_heap w.params).nsMap mainGlobals "__annotations__") N ⟨boot_heap w.params, #[], boot_drawn, boot_toks, os⟩ (topStub R.prog) = some r := z
    simp only [Bool.true_and]
    rw [z', Option.bind_some, g1'] <;> rfl
  show (topFrom treeTable R.prog w N ⟨boot_heap w.params, #[], boot_drawn, boot_toks, os⟩).map _ = _
  rw [top, Option.map_some, g2, g3]
end HdK
end
set_option maxHeartbeats 4000000
noncomputable section
namespace HdK
open PySem PySem.W PySem.Calls PyProof.Rows HandSHeadRun
/-! ### what the end of the run is asked -/
abbrev kS (s : SharedT) : PySem.W.Frag := He.frT (getT s) K0.ADS
theorem z_looks (w : World) (os : OsState) : (endZ w os).map (looksZ w) = some (true, openGood qv names) := by
  kernel_rfl
theorem z_1 (w : World) (os : OsState) : (endZ w os).map (fun s => K0.f1B (kS s)) = some true := by
  kernel_rfl
theorem z_2 (w : World) (os : OsState) : (endZ w os).map (fun s => K0.f2B (kS s)) = some true := by
  kernel_rfl
theorem z_3 (w : World) (os : OsState) : (endZ w os).map (fun s => (K0.f3B (kS s) && K0.f4B (kS s), (K0.DF ++ K0.DI).all (fun d => d.ok (kS s)), He.tabsB (getT s) K0.TF (kS s))) = some (true, true, true) := by
  kernel_rfl
theorem z_4 (w : World) (os : OsState) : (endZ w os).map (fun s => (K0.DF ++ K0.DI).map fun d => He.fnW (kS s) d.at_) = some ((K0.DF ++ K0.DI).map He.DefD.val) := by
  kernel_rfl
end HdK
end
set_option maxHeartbeats 4000000
noncomputable section
namespace HdK
open PySem PySem.W PySem.Calls PyProof.Rows HandSHeadRun
/-- what stands behind the top, as the law's proof wants it -/
structure SaysM (h : Heap) (K : PySem.W.Frag) : Prop where
  hf : K0.HF K
  hd : ∀ p ∈ K0.TF, PySem.W.codeHdIn K (He.cT K p).1 (He.cT K p).2 = true
  out : ∀ p ∈ K0.TF, K.lookup (He.cT K p).2 = none
  em : ∀ p ∈ K0.TF, h.get? (He.cT K p).2 = some { cls := .none, data := .fields #[] }
abbrev AlM : Type := (Bool × Bool × Bool × Bool × Bool) × List He.FnW
def obsM (g : Addr → Option Obj) : AlM := ((K0.f1B (He.frT g K0.ADS), K0.f2B (He.frT g K0.ADS), K0.f3B (He.frT g K0.ADS) && K0.f4B (He.frT g K0.ADS), (K0.DF ++ K0.DI).all (fun d => d.ok (He.frT g K0.ADS)), He.tabsB g K0.TF (He.frT g K0.ADS)), (K0.DF ++ K0.DI).map fun d => He.fnW (He.frT g K0.ADS) d.at_)
def valM : AlM := ((true, true, true, true, true), (K0.DF ++ K0.DI).map He.DefD.val)
theorem saysM_of {h : Heap} (e : obsM h.get? = valM) : SaysM h (He.frT h.get? K0.ADS) := by
  have e : ((K0.f1B (He.frT h.get? K0.ADS), K0.f2B (He.frT h.get? K0.ADS), K0.f3B (He.frT h.get? K0.ADS) && K0.f4B (He.frT h.get? K0.ADS), (K0.DF ++ K0.DI).all (fun d => d.ok (He.frT h.get? K0.ADS)), He.tabsB h.get? K0.TF (He.frT h.get? K0.ADS)), (K0.DF ++ K0.DI).map fun d => He.fnW (He.frT h.get? K0.ADS) d.at_) = (((true, true, true, true, true), (K0.DF ++ K0.DI).map He.DefD.val) : AlM) := e
  simp only [Prod.mk.injEq] at e
  obtain ⟨⟨e1, e2, e3, e4, e5⟩, e6⟩ := e
  obtain ⟨e3, e7⟩ := He.ba e3
  have key : ∀ p ∈ K0.TF, PySem.W.codeHdIn (He.frT h.get? K0.ADS) (He.cT (He.frT h.get? K0.ADS) p).1 (He.cT (He.frT h.get? K0.ADS) p).2 = true ∧ ∃ o, h.get? (He.cT (He.frT h.get? K0.ADS) p).2 = some o ∧ He.emptyTab o = true := by
    intro p hp
    obtain ⟨g1, g2⟩ := He.ba (List.all_eq_true.mp e5 p hp)
    refine ⟨g1, ?_⟩
    cases q : h.get? (He.cT (He.frT h.get? K0.ADS) p).2 with
    | none => rw [q] at g2; cases g2
    | some o => rw [q] at g2; exact ⟨o, rfl, g2⟩
  refine ⟨⟨e1, e2, e3, e7, fun d hd => ?_⟩, fun p hp => (key p hp).1, fun p hp => ?_, fun p hp => ?_⟩
  · obtain ⟨i, hi⟩ := List.mem_iff_getElem?.mp hd
    have z : ((K0.DF ++ K0.DI).map fun d => He.fnW (He.frT h.get? K0.ADS) d.at_)[i]? = ((K0.DF ++ K0.DI).map He.DefD.val)[i]? := by rw [e6]
    rw [List.getElem?_map, List.getElem?_map, hi] at z
    exact He.DefD.funD (Option.some.inj z) (List.all_eq_true.mp e4 d hd)
  · obtain ⟨_, o, q, t⟩ := key p hp
    exact He.frT_none q t
  · obtain ⟨_, o, q, t⟩ := key p hp
    rw [q, He.emptyTab_eq t]
def hookM : PySem.W.Hook where
  α := AlM
  obs := fun s => obsM s.heap.get?
  val := fun _ => valM
  says := fun _ h => ∃ K : PySem.W.Frag, K.In h ∧ SaysM h K
  of := fun _ _ e => ⟨_, He.frT_in, saysM_of e⟩
  keeps := fun _ _ _ ⟨K, hK, c⟩ k => ⟨K, PySem.W.Frag.In.keeps hK k, ⟨c.hf, c.hd, c.out, fun p hp => k _ _ (c.em p hp)⟩⟩
theorem map_same {α β : Type} {x : Option α} {s : α} {f : α → β} {b : β} (h : x = some s) (e : x.map f = some b) : f s = b := by
  rw [h] at e
  exact Option.some.inj e
theorem run_end (w : World) (os : OsState) : ∃ r : Shared, topRun treeTable R.prog w (boot_heap w.params).objs.size (bootAnn w) (12 + (40 + (400 + (8000 + (8000 + (8000 + 12000)))))) ⟨boot_heap w.params, #[], boot_drawn, boot_toks, os⟩ (topStub R.prog) = some r ∧
    looksF R.prog (boot_heap w.params) r = true ∧ openSeen qv names (importedModules R.prog.main.body) (fun s => xlAt qv [] s && recOk R.toRowW.records s) true r = openGood qv names ∧ hookM.obs r = hookM.val w := by
  obtain ⟨s, e, l⟩ := Option.map_eq_some_iff.mp (z_looks w os)
  have l : (looksF R.prog (boot_heap w.params) s.abs, seenQ qv names (importedModules R.prog.main.body) (fun s => xlAt qv [] s && recOk R.toRowW.records s) s.abs) = (true, openGood qv names) := l
  obtain ⟨l1, l2⟩ := Prod.mk.inj l
  have tq : thrZ = restOf (bodyE.drop 53) envE codeE (posE 52) [topFrame default] := by
    unfold thrZ
    rw [← PySem.W.Fast.te12563942051412417395]
    rfl
  refine ⟨s.abs, end_by e tq, l1, by rw [seenQ_eq]; exact l2, ?_⟩
  have hg : s.abs.heap.get? = getT s := funext fun a => (getT_eq s a).symm
  show obsM s.abs.heap.get? = valM
  rw [hg]
  have a1 := map_same e (z_1 w os)
  have a2 := map_same e (z_2 w os)
  have a3 := map_same e (z_3 w os)
  have a4 := map_same e (z_4 w os)
  obtain ⟨a5, a6⟩ := Prod.mk.inj a3
  obtain ⟨a6, a7⟩ := Prod.mk.inj a6
  unfold obsM valM
  rw [a1, a2, a5, a6, a7, a4]
abbrev dLaw : DefRec := topDef R.prog 98
theorem left_law : LeftO R.prog qv names (fun s => xlAt qv [] s && recOk R.toRowW.records s) hookM.obs hookM.val 40000 true :=
  left_from (by kernel_rfl) (by decide) (fun s => by kernel_rfl) (by decide) run_end
open L2 in
theorem room_law : L2.Room 4 callerA := ⟨rfl, by decide, by decide⟩
theorem walk_law : WalkO qv names (XL qv []) hookM.says R.toRowW dLaw [] fun f vs => PySem.call f vs := by
  refine Att.attach_callB (l := PySem.Challenge.rw_samefromhere_k00_errors_made) (n := 63) rfl (by kernel_rfl) fun w s0 s1 mg mb fa o pm cd doc a vs ns G Y ho hd hcd hmg hobj hints hlen hbits hg => ?_
  obtain ⟨K, KX, c⟩ := Y
  have hn : dLaw.name = ("law" : Str) := by kernel_rfl
  rw [hn] at hmg
  have g0 := K0.g_at KX G.T.g c.hf (nm := "law") (i := 98) (j := 16) rfl
  obtain rfl : fa = He.ga K "law" := by
    rw [hmg] at g0
    injection g0 with g1
    injection g1
  obtain ⟨fd, Fn⟩ := K0.fn_at c.hf (nm := "law") (i := 98) (j := 16) rfl
  have bd : ∀ (s : Shared) (u : Value), BindsTo s fd ⟨[u], []⟩ [(("script" : Str), u)] := by
    obtain ⟨oc, od, kV, doc, pm, an, cdv, ct, osl, rfl, lk, hcd2⟩ := Fn.ex
    exact fun s u => .of_eq rfl
  refine K0.call_lawG (P := R.prog) (w := w) (cs := K0.TF.map fun p => He.cT K p) (fd := fd) (x := "script") (sp := K0.spLaw (K0.tabT K) K) KX G.T.g G.T.b G.T.builtins G.T.nolimit hg ?_ ?_ ?_ G.T.bmain hobj hints (Nat.le_trans hlen (by decide)) room_law rfl ?_ bd ?_
  · intro p hp
    obtain ⟨d, hd2, rfl⟩ := List.mem_map.mp hp
    exact c.em d hd2
  · intro p hp
    obtain ⟨d, hd2, rfl⟩ := List.mem_map.mp hp
    exact c.out d hd2
  · intro p hp
    obtain ⟨d, hd2, rfl⟩ := List.mem_map.mp hp
    exact PySem.W.codeHd_of_K KX (c.hd d hd2)
  · intro base hK hG TB
    exact K0.ok_law Fn (K0.lf_of hK hG c.hf fun p hp => TB _ (List.mem_map.mpr ⟨p, hp, rfl⟩)) (K0.nf_of hK hG c.hf)
  · intro H hH hS
    refine ⟨a, ns, rfl, hS, hlen, fun q hq => ?_, fun _ => rfl⟩
    obtain ⟨d, hd2, rfl⟩ := List.mem_map.mp hq
    exact ⟨#[], hH (He.cT K d) (List.mem_map.mpr ⟨d, hd2, rfl⟩), True.intro, fun pos cv z => by cases z⟩
end HdK
end
open PySem PySem.W PyProof.Rows
theorem PySem.Challenge.cw_samefromhere_k00_errors_made_holds : PySem.Challenge.rw_samefromhere_k00_errors_made.Holds := by
  w_on; o_law
  refine holds_open (r := HdK.R) (q := HdK.qv) (loose := HdK.names) (XP := XL HdK.qv []) (YP := HdK.hookM.says) (d := HdK.dLaw) (kwd := []) HdK.left_law HdK.hookM.of HdK.hookM.keeps (fun s z => xl_of s (Bool.and_eq_true_iff.mp z).1) XL.keeps
    (by kernel_rfl) (by kernel_rfl) (by kernel_rfl) (fun s z => recFacts_of (Bool.and_eq_true_iff.mp z).2) (by rfl) (by first | assumption | decide +kernel) (by decide +kernel) ⟨rfl, rfl, rfl, rfl, rfl, by decide +kernel⟩ ?hw HdK.walk_law
  case hw => w_witness2
