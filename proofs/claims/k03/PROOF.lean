import PyProof.Rows.All
import Wide.All
import OpenK.AllK
import Wide.FinOn
import HandS.Base
import HandS.Call
import HandS.List
import HandS.Comp
import HandS.Ends
import HandS.Evl
import KE.SortKeyHeap
import KE.DataEq
import HandS.Iter
import HandS.Zip
import HandS.Deep
import HandS.TupAny
import HandS.IsInst
import HandS.Words
import HandS.WordsList
import HandS.ForMost
import HandS.Wide
import HandS.Style
import PyProof.AutoSeq1
import PyProof.ListOps
import PyProof.TupleOps
import HandS.SortKw
import HandS.Exc
import HandS.ExcValue
import PyProof.EqAt
import PyProof.EqKinds
import PyProof.TupleCall
import KE.KExcIs
import HandS.ForExc
import HandS.ExcInit
import HandS.ExcField
import HandS.ExcIs
import HandS.MakeKwOnly
import HandS.Lambda
import HandS.Nested
import KE.KeyNested
import HandS.Dict
import KE.KDictCopyH
import KE.DataMinMax
import KE.GoesEnum
import KE.KDictZip
import PyProof.ListNew
import OpenK.KOps
import HandS.ClsMeth
import HandS.Codes
import HandS.NoneIn
import HandS.DictComp
import HandS.ListItems
import KE.KDictList
import HandS.SetKeys
import HandS.WordsDict
import HandS.Conv
import HandS.HeadHook4
import HandS.EndTab
import HandS.Head0
import HandS.Head1
import HandS.Head2
import HandS.HeadEnd
import HandS.EndBits
import PySem.Challenge.RW_samefromhere_k03_two_way_joined_strong
set_option Elab.async false
set_option linter.all false
set_option maxRecDepth 100000
set_option maxHeartbeats 4000000
namespace Dl
open PySem PySem.Spec PyProof.Rows L2 Evl
/-! ### data in a heap, kept where the heap grows -/
mutual
/-- what stands at a value, as data: all of it tracked -/
inductive Tp (H : Hp) : V → PyData → Prop
  | non : Tp H .non .none
  | bl (b : Bool) : Tp H (.bl b) (.bool b)
  | int (i : Int) : Tp H (.int i) (.int i)
  | str (x : Str) : Tp H (.str x) (.str x)
  | lst {a : Addr} {vs : List V} {ds : List PyData} : H a = some (.lst vs) → TpAll H vs ds → Tp H (.ref a) (.list ds)
  | tup {a : Addr} {vs : List V} {ds : List PyData} : H a = some (.tup vs) → TpAll H vs ds → Tp H (.ref a) (.tuple ds)
  | dict0 {a : Addr} : H a = some (.dK []) → Tp H (.ref a) (.dict [])
inductive TpAll (H : Hp) : List V → List PyData → Prop
  | nil : TpAll H [] []
  | cons {v : V} {vs : List V} {d : PyData} {ds : List PyData} : Tp H v d → TpAll H vs ds → TpAll H (v :: vs) (d :: ds)
end
/-- no dict within -/
def nd : PyData → Bool
  | .dict _ => false
  | .list ds => ndAll ds
  | .tuple ds => ndAll ds
  | _ => true
where ndAll : List PyData → Bool
  | [] => true
  | d :: ds => nd d && ndAll ds
mutual
theorem nd_lay : ∀ d : PyData, PyData.canLay0 d = true → nd d = true
  | .none, _ => rfl
  | .bool _, _ => rfl
  | .int _, _ => rfl
  | .str _, _ => rfl
  | .list ds, h => by
    show nd.ndAll ds = true
    exact nd_layAll ds (by simpa [PyData.canLay0] using h)
  | .tuple ds, h => by
    show nd.ndAll ds = true
    exact nd_layAll ds (by simpa [PyData.canLay0] using h)
  | .dict _, h => by simp [PyData.canLay0] at h
theorem nd_layAll : ∀ ds : List PyData, PyData.canLayAll0 ds = true → nd.ndAll ds = true
  | [], _ => rfl
  | d :: ds, h => by
    have z : PyData.canLay0 d = true ∧ PyData.canLayAll0 ds = true := by simpa [PyData.canLayAll0] using h
    show (nd d && nd.ndAll ds) = true
    rw [nd_lay d z.1, nd_layAll ds z.2]
    rfl
end
theorem nd_sh {d : PyData} (h : SeqAt.shaped d = true) : nd d = true := nd_lay d (SeqAt.canLay_of_shaped h)
mutual
theorem Tp.dp {K : PySem.W.Frag} {H : Hp} : ∀ (d : PyData) (v : V), nd d = true → Tp H v d → Dp K H v d
  | .none, _, _, h => by cases h; exact .non
  | .bool _, _, _, h => by cases h; exact .bl _
  | .int _, _, _, h => by cases h; exact .int _
  | .str _, _, _, h => by cases h; exact .str _
  | .list ds, _, n, h => by
    cases h with
    | lst e hs => exact .lst (sq_of e) (TpAll.dp ds _ n hs)
  | .tuple ds, _, n, h => by
    cases h with
    | tup e hs => exact .tup (st_of e) (TpAll.dp ds _ n hs)
  | .dict _, _, n, _ => by cases n
theorem TpAll.dp {K : PySem.W.Frag} {H : Hp} : ∀ (ds : List PyData) (vs : List V), nd.ndAll ds = true → TpAll H vs ds → DpAll K H vs ds
  | [], _, _, h => by cases h; exact .nil
  | d :: ds, _, n, h => by
    have z : nd d = true ∧ nd.ndAll ds = true := by
      have n2 : (nd d && nd.ndAll ds) = true := n
      simpa using n2
    cases h with
    | cons h1 h2 => exact .cons (Tp.dp d _ z.1 h1) (TpAll.dp ds _ z.2 h2)
end
mutual
theorem Tp.ex {H H' : Hp} (k : Ex H H') : ∀ (d : PyData) (v : V), Tp H v d → Tp H' v d
  | .none, _, h => by cases h; exact .non
  | .bool _, _, h => by cases h; exact .bl _
  | .int _, _, h => by cases h; exact .int _
  | .str _, _, h => by cases h; exact .str _
  | .list ds, _, h => by
    cases h with
    | lst e hs => exact .lst (k _ _ e) (TpAll.ex k ds _ hs)
  | .tuple ds, _, h => by
    cases h with
    | tup e hs => exact .tup (k _ _ e) (TpAll.ex k ds _ hs)
  | .dict _, _, h => by
    cases h with
    | dict0 e => exact .dict0 (k _ _ e)
theorem TpAll.ex {H H' : Hp} (k : Ex H H') : ∀ (ds : List PyData) (vs : List V), TpAll H vs ds → TpAll H' vs ds
  | [], _, h => by cases h; exact .nil
  | d :: ds, _, h => by
    cases h with
    | cons h1 h2 => exact .cons (Tp.ex k d _ h1) (TpAll.ex k ds _ h2)
end
theorem dp_append {H : Hp} : ∀ {vs ws : List V} {ds es : List PyData}, TpAll H vs ds → TpAll H ws es → TpAll H (vs ++ ws) (ds ++ es)
  | _, _, _, _, .nil, h => h
  | _, _, _, _, .cons a t, h => .cons a (dp_append t h)
theorem dp_len {H : Hp} : ∀ {vs : List V} {ds : List PyData}, TpAll H vs ds → vs.length = ds.length
  | _, _, .nil => rfl
  | _, _, .cons _ t => congrArg (· + 1) (dp_len t)
theorem dp_get {H : Hp} : ∀ {vs : List V} {ds : List PyData} {i : Nat} {d : PyData}, TpAll H vs ds → ds[i]? = some d → ∃ v, vs[i]? = some v ∧ Tp H v d
  | _, _, _, _, .nil, e => by simp at e
  | _, _, 0, _, .cons a _, e => by
    simp at e
    subst e
    exact ⟨_, rfl, a⟩
  | _, _, i + 1, _, .cons _ t, e => by
    obtain ⟨v, h1, h2⟩ := dp_get (i := i) t (by simpa using e)
    exact ⟨v, by simpa using h1, h2⟩
theorem dp_getV {H : Hp} : ∀ {vs : List V} {ds : List PyData} {i : Nat} {v : V}, TpAll H vs ds → vs[i]? = some v → ∃ d, ds[i]? = some d ∧ Tp H v d
  | _, _, _, _, .nil, e => by simp at e
  | _, _, 0, _, .cons a _, e => by
    simp at e
    subst e
    exact ⟨_, rfl, a⟩
  | _, _, i + 1, _, .cons _ t, e => by
    obtain ⟨v, h1, h2⟩ := dp_getV (i := i) t (by simpa using e)
    exact ⟨v, by simpa using h1, h2⟩
theorem dp_take {H : Hp} : ∀ {vs : List V} {ds : List PyData} (n : Nat), TpAll H vs ds → TpAll H (vs.take n) (ds.take n)
  | _, _, 0, _ => .nil
  | _, _, _ + 1, .nil => .nil
  | _, _, n + 1, .cons a t => .cons a (dp_take n t)
theorem dp_drop {H : Hp} : ∀ {vs : List V} {ds : List PyData} (n : Nat), TpAll H vs ds → TpAll H (vs.drop n) (ds.drop n)
  | _, _, 0, h => h
  | _, _, _ + 1, .nil => .nil
  | _, _, n + 1, .cons _ t => dp_drop n t
theorem dp_repl {H : Hp} {vs : List V} {ds : List PyData} (h : TpAll H vs ds) : ∀ n : Nat, TpAll H (List.replicate n vs).flatten (List.replicate n ds).flatten
  | 0 => .nil
  | n + 1 => by
    rw [List.replicate_succ, List.replicate_succ, List.flatten_cons, List.flatten_cons]
    exact dp_append h (dp_repl h n)
/-! ### what is known, and what was made since: H with the objects that are new from H1 to H2 -/
def gr (H H1 H2 : Hp) : Hp := fun b => match H1 b with
  | none => H2 b
  | some _ => H b
theorem gr_ex {H H1 H2 : Hp} (e : Ex H H1) : Ex H (gr H H1 H2) := fun b o h => by
  unfold gr
  rw [e b o h]
  exact h
theorem gr_new {H H1 H2 : Hp} {b : Addr} {o : HO} (h1 : H1 b = none) (h : H2 b = some o) : gr H H1 H2 b = some o := by
  unfold gr
  rw [h1]
  exact h
theorem gr_sub {H H1 H2 : Hp} (e : Ex H H1) (e2 : Ex H1 H2) : Ex (gr H H1 H2) H2 := fun b o h => by
  unfold gr at h
  cases q : H1 b with
  | none => rw [q] at h; exact h
  | some u =>
    rw [q] at h
    have z := e b o h
    exact e2 b o z
theorem gr_l {H H1 H2 H3 : Hp} (e3 : Ex H2 H3) : Ex (gr H H1 H2) (gr H H1 H3) := fun b o h => by
  unfold gr at h ⊢
  cases q : H1 b with
  | none => rw [q] at h; exact e3 b o h
  | some u => rw [q] at h; exact h
theorem gr_r {H H1 H2 H3 : Hp} (e : Ex H H1) (e2 : Ex H1 H2) : Ex (gr H H2 H3) (gr H H1 H3) := fun b o h => by
  unfold gr at h ⊢
  cases q : H1 b with
  | none =>
    cases q2 : H2 b with
    | none => rw [q2] at h; exact h
    | some u =>
      rw [q2] at h
      have z := e b o h
      rw [q] at z
      cases z
  | some u =>
    rw [e2 b u q] at h
    exact h
theorem gr_gr {H H1 H3 H4 : Hp} (e : Ex H1 H3) (e4 : Ex H3 H4) : Ex (gr (gr H H1 H3) H3 H4) (gr H H1 H4) := fun b o h => by
  unfold gr at h ⊢
  cases p : H1 b with
  | none =>
    cases p3 : H3 b with
    | none => rw [p3] at h; exact h
    | some s =>
      rw [p3, p] at h
      exact e4 b o (p3.trans h)
  | some s =>
    rw [e b s p, p] at h
    exact h
/-- H without the objects at some addresses -/
def but (H : Hp) (ls : List Addr) : Hp := fun b => if b ∈ ls then none else H b
theorem but_ex {H : Hp} {ls : List Addr} : Ex (but H ls) H := fun b o h => by
  unfold but at h
  split at h
  · cases h
  · exact h
theorem but_at {H : Hp} {ls : List Addr} {b : Addr} (h : b ∉ ls) : but H ls b = H b := if_neg h
theorem but_in {H : Hp} {ls : List Addr} {b : Addr} (h : b ∈ ls) : but H ls b = none := if_pos h
/-- what is new is not at an address that was there -/
theorem gr_but {H H' : Hp} {ls : List Addr} (h : ∀ b ∈ ls, H b ≠ none) (e : ∀ b o, b ∉ ls → H b = some o → H' b = some o) : Ex (gr (but H ls) H H') (but H' ls) := fun b o q => by
  unfold gr at q
  cases z : H b with
  | none =>
    rw [z] at q
    rw [but_at fun m => h b m z]
    exact q
  | some u =>
    rw [z] at q
    by_cases n : b ∈ ls
    · have q2 : but H ls b = some o := q
      rw [but_in n] at q2
      cases q2
    · have q2 : but H ls b = some o := q
      rw [but_at n] at q2
      rw [but_at n]
      exact e b o n q2
/-! ### an expression whose value is some data -/
def EvD (te : TE) (σ : L2.St) (H : Hp) (d : PyData) : Prop := ∀ H1, Ex H H1 → ∀ Q : VK, (∀ v H2, Ex H1 H2 → Tp (gr H H1 H2) v d → Q v H2) → te σ H1 Q
def EvDs (ta : TA) (σ : L2.St) (H : Hp) (ds : List PyData) : Prop := ∀ H1, Ex H H1 → ∀ Q : List V → Hp → Prop, (∀ vs H2, Ex H1 H2 → TpAll (gr H H1 H2) vs ds → Q vs H2) → ta σ H1 Q
/-- an operation on data -/
def RD (r : R2) (x y z : PyData) : Prop := ∀ (H H1 : Hp) (v w : V), Ex H H1 → Tp H v x → Tp H w y → ∀ Q : VK, (∀ u H2, Ex H1 H2 → Tp (gr H H1 H2) u z → Q u H2) → r v w H1 Q
def RCD (r : List V → Hp → VK → Prop) (ds : List PyData) (z : PyData) : Prop := ∀ (H H1 : Hp) (vs : List V), Ex H H1 → TpAll H vs ds → ∀ Q : VK, (∀ u H2, Ex H1 H2 → Tp (gr H H1 H2) u z → Q u H2) → r vs H1 Q
section
variable {K : PySem.W.Frag} {σ : L2.St} {H H' : Hp} {ta tb te tx : TE} {t u : TT} {x y z d : PyData} {ds : List PyData} {r : R2}
theorem EvD.ex (e : Ex H H') (h : EvD te σ H d) : EvD te σ H' d := fun H1 a Q q => h H1 (e.trans a) Q fun v H2 e2 g => q v H2 e2 (Tp.ex (fun b o z => by
  unfold gr at z ⊢
  cases p : H1 b with
  | none => rw [p] at z; exact z
  | some u => rw [p] at z; exact e b o z) d v g)
theorem ed_is {d' : PyData} (h : EvD te σ H d) (e : d = d') : EvD te σ H d' := e ▸ h
/-- a value that is known -/
theorem ed_v {v : V} (hv : Ev te σ H v) (hd : Tp H v d) : EvD te σ H d := fun H1 e Q q => hv H1 e Q fun H2 e2 => q v H2 e2 (Tp.ex (gr_ex e) d v hd)
theorem ed_var {i : Nat} {v : V} (h : σ[i]? = some (some v)) (hd : Tp H v d) : EvD (tVar i) σ H d := ed_v (ev_var h) hd
theorem ed_int {i : Int} : EvD (tC (.int i)) σ H (.int i) := ed_v ev_c (.int i)
theorem ed_bl {b : Bool} : EvD (tC (.bl b)) σ H (.bool b) := ed_v ev_c (.bl b)
theorem ed_str {b : Str} : EvD (tC (.str b)) σ H (.str b) := ed_v ev_c (.str b)
theorem ed_non : EvD (tC .non) σ H .none := ed_v ev_c .non
theorem ed_op (ha : EvD ta σ H x) (hb : EvD tb σ H y) (hr : RD r x y z) : EvD (tOp r ta tb) σ H z := fun H1 e Q q =>
  ha H1 e _ fun v H2 e2 dv => hb H2 (e.trans e2) _ fun w H3 e3 dw =>
    hr (gr H H1 H3) H3 v w (gr_sub e (e2.trans e3)) (Tp.ex (gr_l e3) x v dv) (Tp.ex (gr_r e e2) y w dw) Q fun u H4 e4 du => q u H4 ((e2.trans e3).trans e4) (Tp.ex (gr_gr (e2.trans e3) e4) z u du)
/-- of an end that wants the value alone -/
theorem ed_ret (h : EvD te σ H d) {Q : VK} (k : ∀ v H2, Ex H H2 → Tp H2 v d → Q v H2) : te σ H Q := h H (Ex.refl H) Q fun v H2 e g => k v H2 e (Tp.ex (gr_sub (Ex.refl H) e) d v g)
theorem es_nil : EvDs tNil σ H [] := fun H1 _ _ q => q [] H1 (Ex.refl H1) .nil
theorem es_cons {tr : TA} (h : EvD te σ H d) (hr : EvDs tr σ H ds) : EvDs (tCons te tr) σ H (d :: ds) := fun H1 e _ q =>
  h H1 e _ fun v H2 e2 dv => hr H2 (e.trans e2) _ fun vs H3 e3 dvs => q (v :: vs) H3 (e2.trans e3) (.cons (Tp.ex (gr_l e3) d v dv) (TpAll.ex (gr_r e e2) ds vs dvs))
theorem ed_tup {ta : TA} (h : EvDs ta σ H ds) (hl : ds.length ≤ 100000) : EvD (tTup ta) σ H (.tuple ds) := fun H1 e _ q =>
  h H1 e _ fun vs H2 e2 dvs => ⟨sz_of (by rw [dp_len dvs]; exact hl), fun p hp => q _ _ (e2.trans (Ex.new hp)) (.tup (gr_new (fresh_back e2 hp) upd_same) (TpAll.ex (gr_l (Ex.new hp)) ds vs dvs))⟩
theorem ed_lst {ta : TA} (h : EvDs ta σ H ds) (hl : ds.length ≤ 100000) : EvD (tLst ta) σ H (.list ds) := fun H1 e _ q =>
  h H1 e _ fun vs H2 e2 dvs => ⟨sz_of (by rw [dp_len dvs]; exact hl), fun p hp => q _ _ (e2.trans (Ex.new hp)) (.lst (gr_new (fresh_back e2 hp) upd_same) (TpAll.ex (gr_l (Ex.new hp)) ds vs dvs))⟩
theorem ed_cb {rr : List V → Hp → VK → Prop} {ta : TA} (h : EvDs ta σ H ds) (hr : RCD rr ds z) : EvD (tCB rr ta) σ H z := fun H1 e Q q =>
  h H1 e _ fun vs H2 e2 dvs => hr (gr H H1 H2) H2 vs (gr_sub e e2) dvs Q fun u H3 e3 du => q u H3 (e2.trans e3) (Tp.ex (gr_gr e2 e3) z u du)
end
end Dl
set_option maxHeartbeats 1000000
namespace Mx
open PySem PySem.W PySem.SeqAt PySem.Calls PyProof.Rows
/-! ### words' keys: numbers, texts, tuples of such; two of them are compared as far as they are alike -/
mutual
def pln : PyData → Bool
  | .int _ => true
  | .str _ => true
  | .tuple ds => plnAll ds
  | _ => false
def plnAll : List PyData → Bool
  | [] => true
  | d :: ds => pln d && plnAll ds
end
mutual
def cmpb : PyData → PyData → Bool
  | .int _, .int _ => true
  | .str _, .str _ => true
  | .tuple xs, .tuple ys => cmpbAll xs ys
  | _, _ => false
def cmpbAll : List PyData → List PyData → Bool
  | x :: xs, y :: ys => if PyData.eqv x y = true then cmpbAll xs ys else cmpb x y
  | [], _ => true
  | _ :: _, [] => true
end
theorem plnAll_cons {d : PyData} {ds : List PyData} (h : plnAll (d :: ds) = true) : pln d = true ∧ plnAll ds = true := by
  rw [plnAll, Bool.and_eq_true] at h
  exact h
theorem pln_tup {ds : List PyData} (h : pln (.tuple ds) = true) : plnAll ds = true := by rwa [pln] at h
mutual
theorem pln_plain : ∀ d : PyData, pln d = true → d.plain = true
  | .int _, _ => rfl
  | .str _, _ => rfl
  | .tuple ds, h => by
    show PyData.plainAll ds = true
    exact plnAll_plain ds (pln_tup h)
  | .none, h => by simp [pln] at h
  | .bool _, h => by simp [pln] at h
  | .list _, h => by simp [pln] at h
  | .dict _, h => by simp [pln] at h
theorem plnAll_plain : ∀ ds : List PyData, plnAll ds = true → PyData.plainAll ds = true
  | [], _ => rfl
  | d :: ds, h => by
    show (PyData.plain d && PyData.plainAll ds) = true
    rw [pln_plain d (plnAll_cons h).1, plnAll_plain ds (plnAll_cons h).2]
    rfl
end
mutual
theorem pln_one {g : Heap} : ∀ (d e : PyData) (v : Value) (as bs : List Addr), pln d = true → pln e = true → Reads g v d as → Reads g v e bs → d = e
  | .int _, e, _, _, _, _, he, r, r2 => by cases r; cases r2; rfl
  | .str _, e, _, _, _, _, he, r, r2 => by cases r; cases r2; rfl
  | .tuple xs, e, _, _, _, hd, he, r, r2 => by
    cases r with
    | tuple a1 a2 a3 a4 =>
      cases r2 with
      | tuple b1 b2 b3 b4 =>
        rw [a1] at b1; cases b1
        rw [a3] at b3; cases b3
        rw [plnAll_one xs _ _ _ _ (pln_tup hd) (pln_tup he) a4 b4]
      | list _ _ _ _ => simp [pln] at he
      | dict _ _ _ _ _ => simp [pln] at he
  | .none, _, _, _, _, hd, _, _, _ => by simp [pln] at hd
  | .bool _, _, _, _, _, hd, _, _, _ => by simp [pln] at hd
  | .list _, _, _, _, _, hd, _, _, _ => by simp [pln] at hd
  | .dict _, _, _, _, _, hd, _, _, _ => by simp [pln] at hd
theorem plnAll_one {g : Heap} : ∀ (ds es : List PyData) (vs : List Value) (as bs : List Addr), plnAll ds = true → plnAll es = true → ReadsAll g vs ds as → ReadsAll g vs es bs → ds = es
  | [], es, _, _, _, _, _, r, r2 => by cases r; cases r2; rfl
  | d :: ds, [], _, _, _, _, _, r, r2 => by cases r2; cases r
  | d :: ds, e :: es, _, _, _, hd, he, r, r2 => by
    cases r with
    | cons p1 p2 =>
      cases r2 with
      | cons q1 q2 => rw [pln_one d e _ _ _ (plnAll_cons hd).1 (plnAll_cons he).1 p1 q1, plnAll_one ds es _ _ _ (plnAll_cons hd).2 (plnAll_cons he).2 p2 q2]
end
mutual
theorem pln_eqv : ∀ x y : PyData, pln x = true → pln y = true → (PyData.eqv x y = true ↔ x = y)
  | .int a, y, _, hy => by
    cases y with
    | int b => simp [PyData.eqv]
    | str _ => simp [PyData.eqv]
    | tuple _ => simp [PyData.eqv]
    | _ => simp [pln] at hy
  | .str a, y, _, hy => by
    cases y with
    | int b => simp [PyData.eqv]
    | str _ => simp [PyData.eqv]
    | tuple _ => simp [PyData.eqv]
    | _ => simp [pln] at hy
  | .tuple xs, y, hx, hy => by
    cases y with
    | int b => simp [PyData.eqv]
    | str _ => simp [PyData.eqv]
    | tuple ys =>
      rw [PyData.eqv, plnAll_eqv xs ys (pln_tup hx) (pln_tup hy)]
      simp
    | _ => simp [pln] at hy
  | .none, _, h, _ => by simp [pln] at h
  | .bool _, _, h, _ => by simp [pln] at h
  | .list _, _, h, _ => by simp [pln] at h
  | .dict _, _, h, _ => by simp [pln] at h
theorem plnAll_eqv : ∀ xs ys : List PyData, plnAll xs = true → plnAll ys = true → (PyData.eqvAll xs ys = true ↔ xs = ys)
  | [], [], _, _ => by simp [PyData.eqvAll]
  | [], y :: ys, _, _ => by simp [PyData.eqvAll]
  | x :: xs, [], _, _ => by simp [PyData.eqvAll]
  | x :: xs, y :: ys, hx, hy => by
    rw [PyData.eqvAll, Bool.and_eq_true, pln_eqv x y (plnAll_cons hx).1 (plnAll_cons hy).1, plnAll_eqv xs ys (plnAll_cons hx).2 (plnAll_cons hy).2]
    simp
end
theorem cmpbAll_yes {x y : PyData} {xs ys : List PyData} (h : cmpbAll (x :: xs) (y :: ys) = true) (e : PyData.eqv x y = true) : cmpbAll xs ys = true := by
  rw [cmpbAll, if_pos e] at h
  exact h
theorem cmpbAll_no {x y : PyData} {xs ys : List PyData} (h : cmpbAll (x :: xs) (y :: ys) = true) (e : PyData.eqv x y = false) : cmpb x y = true := by
  rw [cmpbAll, if_neg (by rw [e]; exact Bool.false_ne_true)] at h
  exact h
abbrev lx (a b : List (Int ⊕ List Nat)) : Bool := PyProof.Rows.lexLt itemOrd a b
theorem lx_yes (x : PyData) (xs ys : List PyData) (l m : List (Int ⊕ List Nat)) : lx (keyToksAll (x :: xs) ++ l) (keyToksAll (x :: ys) ++ m) = lx (keyToksAll xs ++ l) (keyToksAll ys ++ m) := by
  rw [toks_all_cons, toks_all_cons]
  simp only [List.cons_append, List.append_assoc]
  exact (lex_self (O := itemOrd) _ _ _).trans (lex_pre _ _ _)
mutual
theorem lx_suf : ∀ x y : PyData, pln x = true → pln y = true → cmpb x y = true → PyData.eqv x y = false → ∀ l m, lx (keyToks x ++ l) (keyToks y ++ m) = lx (keyToks x) (keyToks y)
  | .int a, y, _, hy, hc, hn, l, m => by
    cases y with
    | int b =>
      have ne : a ≠ b := fun q => by rw [q] at hn; simp [PyData.eqv] at hn
      exact lex_atom (fun q => ne (Sum.inl.inj q)) l m
    | _ => simp [cmpb] at hc
  | .str a, y, _, hy, hc, hn, l, m => by
    cases y with
    | str b =>
      have ne : a ≠ b := fun q => by rw [q] at hn; simp [PyData.eqv] at hn
      exact lex_atom (fun q => ne (str_of_cps (Sum.inr.inj q))) l m
    | _ => simp [cmpb] at hc
  | .tuple xs, y, hx, hy, hc, hn, l, m => by
    cases y with
    | tuple ys => exact lx_sufAll xs ys (pln_tup hx) (pln_tup hy) (by simpa [cmpb] using hc) (by simpa [PyData.eqv] using hn) l m
    | _ => simp [cmpb] at hc
  | .none, _, h, _, _, _, _, _ => by simp [pln] at h
  | .bool _, _, h, _, _, _, _, _ => by simp [pln] at h
  | .list _, _, h, _, _, _, _, _ => by simp [pln] at h
  | .dict _, _, h, _, _, _, _, _ => by simp [pln] at h
theorem lx_sufAll : ∀ xs ys : List PyData, plnAll xs = true → plnAll ys = true → cmpbAll xs ys = true → PyData.eqvAll xs ys = false → ∀ l m, lx (keyToksAll xs ++ l) (keyToksAll ys ++ m) = lx (keyToksAll xs) (keyToksAll ys)
  | [], [], _, _, _, hn, _, _ => by simp [PyData.eqvAll] at hn
  | [], y :: ys, _, _, _, _, l, m => (lex_diff (O := itemOrd) (by simp)).trans (lex_diff (O := itemOrd) (by simp)).symm
  | x :: xs, [], _, _, _, _, l, m => (lex_diff (O := itemOrd) (by simp)).trans (lex_diff (O := itemOrd) (by simp)).symm
  | x :: xs, y :: ys, hx, hy, hc, hn, l, m => by
    cases e : PyData.eqv x y with
    | true =>
      obtain rfl := (pln_eqv x y (plnAll_cons hx).1 (plnAll_cons hy).1).mp e
      have h2 := lx_yes x xs ys [] []
      rw [List.append_nil, List.append_nil, List.append_nil, List.append_nil] at h2
      rw [lx_yes, h2]
      refine lx_sufAll xs ys (plnAll_cons hx).2 (plnAll_cons hy).2 (cmpbAll_yes hc e) ?_ l m
      rw [eqv_all_cons, e] at hn
      simpa using hn
    | false =>
      have z := lx_suf x y (plnAll_cons hx).1 (plnAll_cons hy).1 (cmpbAll_no hc e) e
      rw [toks_all_cons, toks_all_cons]
      simp only [List.cons_append, List.append_assoc]
      exact (lex_self (O := itemOrd) _ _ _).trans ((z _ _).trans ((z _ _).symm.trans (lex_self (O := itemOrd) _ _ _).symm))
end
theorem lt_yes (x : PyData) (xs ys : List PyData) : lx (keyToksAll (x :: xs)) (keyToksAll (x :: ys)) = lx (keyToksAll xs) (keyToksAll ys) := by
  have h2 := lx_yes x xs ys [] []
  rwa [List.append_nil, List.append_nil, List.append_nil, List.append_nil] at h2
theorem lt_no {x y : PyData} {xs ys : List PyData} (hx : pln x = true) (hy : pln y = true) (hc : cmpb x y = true) (e : PyData.eqv x y = false) : lx (keyToksAll (x :: xs)) (keyToksAll (y :: ys)) = dataLt x y := by
  rw [toks_all_cons, toks_all_cons]
  exact (lex_self (O := itemOrd) _ _ _).trans (lx_suf x y hx hy hc e _ _)
theorem lt_end1 (y : PyData) (ys : List PyData) : lx (keyToksAll []) (keyToksAll (y :: ys)) = true := by
  rw [toks_all_cons]
  show PyProof.Rows.lexLt itemOrd [Sum.inl 0] (Sum.inl 1 :: _) = true
  rw [lex_diff (O := itemOrd) (by simp)]
  rfl
theorem lt_end2 (x : PyData) (xs : List PyData) : lx (keyToksAll (x :: xs)) (keyToksAll []) = false := by
  rw [toks_all_cons]
  show PyProof.Rows.lexLt itemOrd (Sum.inl 1 :: _) [Sum.inl 0] = false
  rw [lex_diff (O := itemOrd) (by simp)]
  rfl
theorem lt_end0 : lx (keyToksAll []) (keyToksAll []) = false := lex_irrefl _
/-! ### a < b of two tuples: what comes behind the first that differ is not asked -/
def LtW (A : Around) (s : Shared) (fin k : Bool) : List (Value × Value) → Prop
  | [] => k = fin
  | (p, q) :: r => ∃ e : Bool, EqAt A s p q e ∧ (e = true → LtW A s fin k r) ∧ (e = false → RcLt A s p q k)
section
open AutoSeq1 (wpAny_loadPart')
open MeetsSeq MeetsSeq2 MeetsSeq3 SeqRoads2
theorem meets_ltW (l b : Addr) (us ws : Array Value) (n m : Nat) (d1 d2 : Option Addr) (s1 s2 : Array (Option Value)) (k : Bool) :
    Meets (Builtin.«tuple.__lt__» ⟨[.ref l, .ref b], []⟩) (fun A R s => s.heap.get? l = some { cls := .type "tuple", dict := d1, data := .seq us n, slots := s1 } ∧ s.heap.get? b = some { cls := .type "tuple", dict := d2, data := .seq ws m, slots := s2 } ∧
      LtW A.in1 s (decide (us.size < ws.size)) k (us.toList.zip ws.toList) ∧ R (.ok (.ret (.bool k))) s) :=
  .of_wp fun prog w A R s h => by
    obtain ⟨hp, g, d, tk, os⟩ := s
    obtain ⟨hl, hb, hw, h⟩ := h
    have sub := AutoSeq1.sub_tuple_tuple
    wp_walk using wpAny_loadPart' hl, wpAny_loadPart' hb, wpAny_forIn_list _ (fun rest c s' => c.1 = none ∧ s' = ⟨hp, g, d, tk, os⟩ ∧ LtW A.in1 ⟨hp, g, d, tk, os⟩ (decide (us.size < ws.size)) k rest) _
    case turn =>
      rintro ⟨y, x⟩ rest c s' ⟨hc, rfl, e, he, h1, h2⟩
      refine wpAny_bind (he prog w _ _ ?_)
      cases e with
      | true =>
        wp_walk
        exact ⟨rfl, rfl, h1 rfl⟩
      | false =>
        refine wpAny_bind (wpAny_rule (wpAny_bind (h2 rfl prog w _ _ ?_)))
        wp_walk
        exact ⟨_, rfl, h⟩
    case fin =>
      rintro ⟨c1, c2⟩ s' ⟨hc, rfl, hk⟩
      simp only at hc
      subst hc
      have hk2 : k = decide (us.size < ws.size) := hk
      subst hk2
      wp_walk
      exact ⟨_, rfl, by simpa [Builtin.Tuple.tupleCompareSizes] using h⟩
    case h => exact ⟨rfl, rfl, hw⟩
end
section
variable {A : Around} {s : Shared}
theorem rcLt_W {l b : Addr} {us ws : Array Value} {k : Bool} (hl : s.heap.IsTuple l us) (hb : s.heap.IsTuple b ws) (hu : A.units < cLine) (h : LtW A.in1 s (decide (us.size < ws.size)) k (us.toList.zip ws.toList)) : RcLt A s (.ref l) (.ref b) k := fun prog w E Q q => by
  obtain ⟨⟨c1, x1, y1, z1⟩, o1, e1, n1, f1⟩ := id hl
  obtain ⟨⟨c2, x2, y2, z2⟩, o2, e2, n2, f2⟩ := id hb
  simp only at e1 f1 e2 f2
  subst e1 f1 e2 f2
  have no : Value.bool k ≠ Value.notImplemented := fun x => nomatch x
  exact richCompare_meets_room (op := .Lt) ⟨_, o1, rfl⟩ ⟨_, o2, rfl⟩ F.slot_tuple_lt F.entry_tuple_lt (F.args_tuple_lt_2 _ _) (meets_ltW l b us ws n1 n2 x1 x2 z1 z2 k) ⟨o1, o2, h, show Value.bool k ≠ Value.notImplemented ∧ Q (.bool k) s from ⟨no, q⟩⟩ hu
end
mutual
theorem rcLt_c : ∀ (x y : PyData) (A : Around) (s : Shared) (a b : Value) (as bs : List Addr), Reads s.heap a x as → Reads s.heap b y bs → pln x = true → pln y = true → cmpb x y = true → A.units + min x.depth y.depth < cLine → RcLt A s a b (dataLt x y)
  | .int i, y, A, s, a, b, as, bs, ra, rb, _, _, hc, _ => by
    cases y with
    | int j =>
      cases ra
      cases rb
      intro prog w E Q hq
      rw [dataLt_int] at hq
      exact P.lt_int hq
    | _ => simp [cmpb] at hc
  | .str i, y, A, s, a, b, as, bs, ra, rb, _, _, hc, _ => by
    cases y with
    | str j =>
      cases ra
      cases rb
      intro prog w E Q hq
      rw [dataLt_str] at hq
      exact P.lt_str hq
    | _ => simp [cmpb] at hc
  | .tuple xs, y, A, s, a, b, as, bs, ra, rb, hx, hy, hc, hu => by
    cases y with
    | tuple ys =>
      cases ra with
      | @tuple l o vs n _ _ a1 a2 a3 a4 =>
        cases rb with
        | @tuple l2 o2 ws n2 _ _ b1 b2 b3 b4 =>
          have n1 : vs.size = xs.length := by simpa using ReadsAll.length _ _ _ a4
          have n3 : ws.size = ys.length := by simpa using ReadsAll.length _ _ _ b4
          rw [dataLt_tuple]
          refine rcLt_W ⟨_, a1, a2, _, a3⟩ ⟨_, b1, b2, _, b3⟩ (room_here hu) ?_
          rw [n1, n3]
          exact ltW_c xs ys A.in1 s _ _ _ _ a4 b4 (pln_tup hx) (pln_tup hy) (by simpa [cmpb] using hc) (room_in hu)
    | _ => simp [cmpb] at hc
  | .none, _, _, _, _, _, _, _, _, _, h, _, _, _ => by simp [pln] at h
  | .bool _, _, _, _, _, _, _, _, _, _, h, _, _, _ => by simp [pln] at h
  | .list _, _, _, _, _, _, _, _, _, _, h, _, _, _ => by simp [pln] at h
  | .dict _, _, _, _, _, _, _, _, _, _, h, _, _, _ => by simp [pln] at h
theorem ltW_c : ∀ (xs ys : List PyData) (A : Around) (s : Shared) (vs ws : List Value) (as bs : List Addr), ReadsAll s.heap vs xs as → ReadsAll s.heap ws ys bs → plnAll xs = true → plnAll ys = true → cmpbAll xs ys = true →
    A.units + min (PyData.depthAll xs) (PyData.depthAll ys) < cLine → LtW A s (decide (xs.length < ys.length)) (lx (keyToksAll xs) (keyToksAll ys)) (vs.zip ws)
  | [], [], _, _, _, _, _, _, ra, rb, _, _, _, _ => by
    cases ra
    cases rb
    exact lt_end0
  | [], y :: ys, _, _, _, _, _, _, ra, rb, _, _, _, _ => by
    cases ra
    rw [List.zip_nil_left]
    show lx _ _ = decide (0 < ys.length + 1)
    rw [lt_end1, decide_eq_true (Nat.succ_pos _)]
  | x :: xs, [], _, _, _, _, _, _, ra, rb, _, _, _, _ => by
    cases rb
    rw [List.zip_nil_right]
    exact lt_end2 x xs
  | x :: xs, y :: ys, A, s, _, _, _, _, ra, rb, hx, hy, hc, hu => by
    cases ra with
    | cons r rs =>
      cases rb with
      | cons t ts =>
        rw [List.zip_cons_cons]
        refine ⟨PyData.eqv x y, eqAt_plain x y A s _ _ _ _ r t (pln_plain x (plnAll_cons hx).1) (pln_plain y (plnAll_cons hy).1) (room_head hu), fun e => ?_, fun e => ?_⟩
        · obtain rfl := (pln_eqv x y (plnAll_cons hx).1 (plnAll_cons hy).1).mp e
          have hd : decide ((x :: xs).length < (x :: ys).length) = decide (xs.length < ys.length) := by simp
          rw [lt_yes, hd]
          exact ltW_c xs ys A s _ _ _ _ rs ts (plnAll_cons hx).2 (plnAll_cons hy).2 (cmpbAll_yes hc e) (room_tail hu)
        · rw [lt_no (plnAll_cons hx).1 (plnAll_cons hy).1 (cmpbAll_no hc e) e]
          exact rcLt_c x y A s _ _ _ _ r t (plnAll_cons hx).1 (plnAll_cons hy).1 (cmpbAll_no hc e) (room_head hu)
end
end Mx
set_option maxHeartbeats 4000000
namespace Dl
open PySem PySem.Spec PyProof.Rows L2 Evl
/-! ### what is walked, as data -/
structure WalkD (J : It) (B : Hp) (ds : List PyData) : Prop where
  go : ∀ i H', i < ds.length → Ex B H' → J.go i H'
  stop : ∀ H', Ex B H' → J.stop ds.length H'
  yld : ∀ i H' x H'', i < ds.length → Ex B H' → J.yld i H' x H'' → Ex H' H'' ∧ ∃ d, ds[i]? = some d ∧ Tp (gr B H' H'') x d
def EvI (wi : TI) (σ : L2.St) (H : Hp) (ds : List PyData) : Prop := ∀ H1, Ex H H1 → ∀ R : It → Hp → Prop, (∀ J H2, Ex H1 H2 → WalkD J (gr H H1 H2) ds → R J H2) → wi σ H1 R
theorem gr_self {B H' : Hp} (e : Ex B H') : Ex B (gr B H' H') := gr_ex e
section
variable {K : PySem.W.Frag} {σ : L2.St} {H H' : Hp} {ta tb te tx : TE} {t u : TT} {x y z d : PyData} {ds es : List PyData} {r : R2}
theorem walk_l {a : Addr} {B : Hp} {xs : List V} (h : B a = some (.lst xs)) (hd : TpAll B xs ds) : WalkD (Itl K a) B ds where
  go := fun i H' hi e => ⟨xs, xs[i]'(by rw [dp_len hd]; exact hi), sq_of (e a _ h), by simp⟩
  stop := fun H' e => ⟨xs, sq_of (e a _ h), Nat.le_of_eq (dp_len hd)⟩
  yld := fun i H' x H'' hi e y => by
    obtain ⟨e1, y⟩ := y
    subst e1
    obtain ⟨d, h1, h2⟩ := dp_getV hd (y xs (sq_of (e a _ h)))
    exact ⟨Ex.refl _, d, h1, Tp.ex (gr_self e) d x h2⟩
theorem walk_t {a : Addr} {B : Hp} {xs : List V} (h : B a = some (.tup xs)) (hd : TpAll B xs ds) : WalkD (Itt K a) B ds where
  go := fun i H' hi e => ⟨xs, xs[i]'(by rw [dp_len hd]; exact hi), st_of (e a _ h), by simp⟩
  stop := fun H' e => ⟨xs, st_of (e a _ h), Nat.le_of_eq (dp_len hd)⟩
  yld := fun i H' x H'' hi e y => by
    obtain ⟨e1, y⟩ := y
    subst e1
    obtain ⟨d, h1, h2⟩ := dp_getV hd (y xs (st_of (e a _ h)))
    exact ⟨Ex.refl _, d, h1, Tp.ex (gr_self e) d x h2⟩
theorem ei_list (h : EvD te σ H (.list ds)) : EvI (iList K te) σ H ds := fun H1 e R q => h H1 e _ fun v H2 e2 hv => by
  cases hv with
  | lst ha hs => exact ⟨_, rfl, ⟨_, sq_of (gr_sub e e2 _ _ ha)⟩, q _ H2 e2 (walk_l ha hs)⟩
theorem ei_tup (h : EvD te σ H (.tuple ds)) : EvI (iTup K te) σ H ds := fun H1 e R q => h H1 e _ fun v H2 e2 hv => by
  cases hv with
  | tup ha hs => exact ⟨_, rfl, ⟨_, st_of (gr_sub e e2 _ _ ha)⟩, q _ H2 e2 (walk_t ha hs)⟩
def rngD (lo : Int) (n : Nat) : List PyData := (List.range n).map fun i => .int (lo + (i : Nat))
theorem rng_get {lo : Int} {n i : Nat} (h : i < n) : (rngD lo n)[i]? = some (.int (lo + i)) := by
  unfold rngD
  rw [List.getElem?_map, List.getElem?_range h]
  rfl
theorem walk_r {B : Hp} {lo : Int} {n : Nat} : WalkD (Itr lo n) B (rngD lo n) where
  go := fun i H' hi e => by
    have z : (rngD lo n).length = n := by simp [rngD]
    rw [z] at hi
    exact hi
  stop := fun H' e => by
    have z : (rngD lo n).length = n := by simp [rngD]
    rw [z]
    exact Nat.le_refl _
  yld := fun i H' x H'' hi e y => by
    have z : (rngD lo n).length = n := by simp [rngD]
    rw [z] at hi
    obtain ⟨e1, e2⟩ := y
    subst e1 e2
    exact ⟨Ex.refl _, _, rng_get hi, .int _⟩
theorem ei_rng1 {n : Int} {tr : TA} (h : EvDs tr σ H [.int n]) (hn : -1000000 ≤ n ∧ n ≤ 1000000) : EvI (iRng1 tr) σ H (rngD 0 n.toNat) := fun H1 e R q => h H1 e _ fun vs H2 e2 hv => by
  cases hv with
  | cons a b =>
    cases a
    cases b
    exact ⟨n, rfl, by omega, by omega, q _ H2 e2 walk_r⟩
theorem ei_rng2 {lo n : Int} {tr : TA} (h : EvDs tr σ H [.int lo, .int n]) (hl : -1000000 ≤ lo ∧ lo ≤ 1000000) (hn : -1000000 ≤ n ∧ n ≤ 1000000) : EvI (iRng2 tr) σ H (rngD lo (n - lo).toNat) := fun H1 e R q => h H1 e _ fun vs H2 e2 hv => by
  cases hv with
  | cons a b =>
    cases a
    cases b with
    | cons a b =>
      cases a
      cases b
      exact ⟨lo, n, rfl, ⟨by omega, by omega, by omega, by omega⟩, q _ H2 e2 walk_r⟩
/-! ### a comprehension -/
theorem ed_lc {wi : TI} {g : TG} {tt : TT} {vs : List Nat} (f : PyData → Bool) (w : PyData → PyData) (hi : EvI wi σ H ds) (hz : ds.length ≤ 50000)
    (hb : ∀ d x H', d ∈ ds → Ex H H' → Tp H' x d → ∃ σ2, (∀ (Hx : Hp) (k : L2.St → Hp → Prop), Ex H' Hx → k σ2 Hx → g x (wipe σ vs) Hx k) ∧ wipe σ2 vs = wipe σ vs ∧ EvT tt σ2 H' (f d) ∧ (f d = true → EvD te σ2 H' (w d))) :
    EvD (tLc wi g tt te vs) σ H (.list ((ds.filter f).map w)) := fun H1 e Q q => hi H1 e _ fun J H2 e2 hJ D hD => by
  have hD1 : H1 D = none := fresh_back e2 hD
  refine ⟨fun i m Hc => m = ds.length - i ∧ i ≤ ds.length ∧ Ex H2 Hc ∧ ∃ ys, Hc D = some (.lst ys) ∧ TpAll (but (gr H H1 Hc) [D]) ys (((ds.take i).filter f).map w), ⟨ds.length, rfl, Nat.zero_le _, Ex.new hD, [], upd_same, .nil⟩, ?_⟩
  rintro i m Hc ⟨rfl, hil, ec, ys, hcD, hys⟩
  have eB : Ex (gr H H1 H2) Hc := (gr_sub e e2).trans ec
  by_cases hlt : i < ds.length
  · refine .inr ⟨hJ.go i Hc hlt eB, fun Hn => i + 1 ≤ ds.length ∧ Ex H2 Hn ∧ ∃ ys, Hn D = some (.lst ys) ∧ TpAll (but (gr H H1 Hn) [D]) ys (((ds.take (i + 1)).filter f).map w), fun Hn hn => ⟨ds.length - (i + 1), by omega, rfl, hn.1, hn.2⟩, fun x H'' hy => ?_⟩
    obtain ⟨e3, d, hd, hx⟩ := hJ.yld i Hc x H'' hlt eB hy
    have hm : d ∈ ds := List.mem_of_getElem? hd
    have eH' : Ex H (gr (gr H H1 H2) Hc H'') := (gr_ex e).trans (gr_ex eB)
    obtain ⟨σ2, b1, b2, b3, b4⟩ := hb d x _ hm eH' hx
    have e4 : Ex (gr (gr H H1 H2) Hc H'') H'' := gr_sub eB e3
    refine b1 H'' _ e4 ⟨b2, b3 H'' e4 _ fun H3 e5 => ?_⟩
    have tk : ds.take (i + 1) = ds.take i ++ [d] := by rw [List.take_add_one, hd]; rfl
    cases hf : f d with
    | false =>
      show i + 1 ≤ ds.length ∧ Ex H2 H3 ∧ _
      refine ⟨hlt, ec.trans (e3.trans e5), ys, e5 D _ (e3 D _ hcD), ?_⟩
      rw [tk, List.filter_append, List.filter_cons_of_neg (by rw [hf]; decide), List.filter_nil, List.append_nil]
      refine TpAll.ex (fun b o h => ?_) _ _ hys
      by_cases n : b ∈ [D]
      · rw [but_in n] at h; cases h
      · rw [but_at n] at h ⊢
        exact gr_l (e3.trans e5) b o h
    | true =>
      show te σ2 H3 _
      refine b4 hf H3 (e4.trans e5) _ fun y H4 e6 hy4 => ?_
      have k4 : H4 D = some (.lst ys) := e6 D _ (e5 D _ (e3 D _ hcD))
      have yl : ys.length ≤ ds.length := by
        rw [dp_len hys, List.length_map]
        exact Nat.le_trans (List.length_filter_le _ _) (by rw [List.length_take]; omega)
      have e34 : Ex Hc H4 := (e3.trans e5).trans e6
      refine ⟨ys, k4, sz_lt (by have := hlt; omega), hlt, Ex.mut (ec.trans e34) hD, ys ++ [y], upd_same, ?_⟩
      rw [tk, List.filter_append, List.filter_cons_of_pos hf, List.filter_nil, List.map_append]
      refine dp_append (TpAll.ex (fun b o h => ?_) _ _ hys) (.cons (Tp.ex (fun b o h => ?_) _ _ hy4) .nil)
      · by_cases n : b ∈ [D]
        · rw [but_in n] at h; cases h
        · rw [but_at n] at h ⊢
          have nb : b ≠ D := fun z => n (by rw [z]; exact List.mem_singleton.mpr rfl)
          have h2 := gr_l e34 b o h
          unfold gr at h2 ⊢
          cases p : H1 b with
          | none => rw [p] at h2; rw [upd_ne nb]; exact h2
          | some u => rw [p] at h2; exact h2
      · have key : b ≠ D ∧ gr H H1 H4 b = some o := by
          unfold gr at h ⊢
          cases p3 : H3 b with
          | none =>
            rw [p3] at h
            have nb : b ≠ D := fun z => by rw [z, e5 D _ (e3 D _ hcD)] at p3; cases p3
            have p1 : H1 b = none := fresh_back (((e2.trans ec).trans e3).trans e5) p3
            rw [p1]
            exact ⟨nb, h⟩
          | some u3 =>
            rw [p3] at h
            cases pc : Hc b with
            | none =>
              simp only [pc] at h
              have nb : b ≠ D := fun z => by rw [z, hcD] at pc; cases pc
              have p1 : H1 b = none := fresh_back (e2.trans ec) pc
              rw [p1]
              exact ⟨nb, e6 b o (e5 b o h)⟩
            | some uc =>
              simp only [pc] at h
              cases p1 : H1 b with
              | none =>
                simp only [p1] at h ⊢
                have nb : b ≠ D := fun z => by rw [z, hD] at h; cases h
                exact ⟨nb, e34 b o (ec b o h)⟩
              | some u1 =>
                simp only [p1] at h ⊢
                exact ⟨(fun z => by rw [z, hD1] at p1; cases p1), h⟩
        have n : b ∉ [D] := fun z => key.1 (List.mem_singleton.mp z)
        rw [but_at n]
        have h2 := key.2
        unfold gr at h2 ⊢
        cases p : H1 b with
        | none => rw [p] at h2; rw [upd_ne key.1]; exact h2
        | some u => rw [p] at h2; exact h2
  · have ei : i = ds.length := by omega
    subst ei
    refine .inl ⟨hJ.stop Hc eB, q _ Hc (e2.trans ec) ?_⟩
    rw [List.take_length] at hys
    exact .lst (gr_new hD1 hcD) (TpAll.ex but_ex _ _ hys)
end
end Dl
set_option maxHeartbeats 4000000
namespace Dl
open PySem PySem.Spec PyProof.Rows L2 Evl
section
variable {K : PySem.W.Frag} {σ : L2.St} {H H' : Hp} {ta tb te tx : TE} {t u : TT} {x y z d : PyData} {ds es : List PyData} {r : R2}
/-! ### operations -/
theorem rd_I0 {g : Int → Int → Int} {i j : Int} : RD (rI0 fun i j => .int (g i j)) (.int i) (.int j) (.int (g i j)) := fun H H1 v w e hv hw Q q => by
  cases hv
  cases hw
  exact ⟨i, j, rfl, rfl, q _ H1 (Ex.refl H1) (.int _)⟩
theorem rd_I0b {g : Int → Int → Bool} {i j : Int} : RD (rI0 fun i j => .bl (g i j)) (.int i) (.int j) (.bool (g i j)) := fun H H1 v w e hv hw Q q => by
  cases hv
  cases hw
  exact ⟨i, j, rfl, rfl, q _ H1 (Ex.refl H1) (.bl _)⟩
theorem rd_I {C : Int → Int → Prop} {g : Int → Int → Int} {i j : Int} (c : C i j) : RD (rI C fun i j => .int (g i j)) (.int i) (.int j) (.int (g i j)) := fun H H1 v w e hv hw Q q => by
  cases hv
  cases hw
  exact ⟨i, j, rfl, rfl, c, q _ H1 (Ex.refl H1) (.int _)⟩
theorem rd_eqD (hx : SeqAt.shaped x = true) (hy : SeqAt.shaped y = true) : RD (rEqD K) x y (.bool (PyData.eqv x y)) := fun H H1 v w e hv hw Q q =>
  ⟨x, y, Tp.dp x v (nd_sh hx) (Tp.ex e x v hv), Tp.dp y w (nd_sh hy) (Tp.ex e y w hw), hx, hy, q _ H1 (Ex.refl H1) (.bl _)⟩
theorem rd_neD (hx : SeqAt.shaped x = true) (hy : SeqAt.shaped y = true) : RD (rNeD K) x y (.bool (!PyData.eqv x y)) := fun H H1 v w e hv hw Q q =>
  ⟨x, y, Tp.dp x v (nd_sh hx) (Tp.ex e x v hv), Tp.dp y w (nd_sh hy) (Tp.ex e y w hw), hx, hy, q _ H1 (Ex.refl H1) (.bl _)⟩
theorem rd_ixL {i : Int} (h : atI ds i = some d) : RD (rIxL K) (.list ds) (.int i) d := fun H H1 v w e hv hw Q q => by
  cases hw
  cases hv with
  | lst ha hs =>
    have hl := dp_len hs
    unfold atI at h
    obtain ⟨j, h1, h2⟩ := Option.bind_eq_some_iff.mp h
    obtain ⟨u, h3, h4⟩ := dp_get hs h2
    refine ⟨_, _, i, u, rfl, rfl, sq_of (e _ _ ha), ?_, q _ H1 (Ex.refl H1) (Tp.ex (gr_ex e) d u h4)⟩
    unfold atI
    rw [hl, h1]
    exact h3
theorem rd_ixT {i : Int} (h : atI ds i = some d) : RD (rIxT K) (.tuple ds) (.int i) d := fun H H1 v w e hv hw Q q => by
  cases hw
  cases hv with
  | tup ha hs =>
    have hl := dp_len hs
    unfold atI at h
    obtain ⟨j, h1, h2⟩ := Option.bind_eq_some_iff.mp h
    obtain ⟨u, h3, h4⟩ := dp_get hs h2
    refine ⟨_, _, i, u, rfl, rfl, st_of (e _ _ ha), ?_, q _ H1 (Ex.refl H1) (Tp.ex (gr_ex e) d u h4)⟩
    unfold atI
    rw [hl, h1]
    exact h3
theorem ixN_nn {n j : Nat} (h : j < n) : ixN n (j : Int) = some j := ixN_nat h
theorem atI_nat {α : Type} {xs : List α} {j : Nat} {a : α} (h : xs[j]? = some a) : atI xs (j : Int) = some a := by
  unfold atI
  rw [ixN_nat (List.getElem?_eq_some_iff.mp h).1]
  exact h
theorem rd_cat (hl : ds.length + es.length ≤ 100000) : RD rCat (.list ds) (.list es) (.list (ds ++ es)) := fun H H1 v w e hv hw Q q => by
  cases hv with
  | lst ha hs =>
    cases hw with
    | lst hb ht =>
      exact ⟨_, _, _, _, rfl, rfl, e _ _ ha, e _ _ hb, sz_of (by rw [dp_len hs, dp_len ht]; exact hl), fun p hp => q _ _ (Ex.new hp) (.lst (gr_new hp upd_same) (dp_append (TpAll.ex (gr_ex e) _ _ hs) (TpAll.ex (gr_ex e) _ _ ht)))⟩
theorem rd_rep {k : Int} (hk : -1000000 ≤ k ∧ k ≤ 1000000) (hl : ds.length * k.toNat ≤ 100000) : RD rRep (.list ds) (.int k) (.list (List.replicate k.toNat ds).flatten) := fun H H1 v w e hv hw Q q => by
  cases hw
  cases hv with
  | lst ha hs =>
    exact ⟨_, k, _, rfl, rfl, e _ _ ha, by omega, by omega, sz_of (by rw [dp_len hs]; exact hl), fun p hp => q _ _ (Ex.new hp) (.lst (gr_new hp upd_same) (TpAll.ex (gr_ex e) _ _ (dp_repl hs _)))⟩
/-! ### calls of built-ins, by their readings -/
def rLen (K : PySem.W.Frag) : List V → Hp → VK → Prop := fun xs H Q => ∃ p ys, xs = [.ref p] ∧ (SqL K H p ys ∨ SqT K H p ys) ∧ Q (.int ys.length) H
theorem rc_lenL : RCD (rLen K) [.list ds] (.int ds.length) := fun H H1 vs e h Q q => by
  cases h with
  | cons a b =>
    cases b
    cases a with
    | lst ha hs => exact ⟨_, _, rfl, .inl (sq_of (e _ _ ha)), by rw [dp_len hs]; exact q _ H1 (Ex.refl H1) (.int _)⟩
theorem rc_lenT : RCD (rLen K) [.tuple ds] (.int ds.length) := fun H H1 vs e h Q q => by
  cases h with
  | cons a b =>
    cases b
    cases a with
    | tup ha hs => exact ⟨_, _, rfl, .inr (st_of (e _ _ ha)), by rw [dp_len hs]; exact q _ H1 (Ex.refl H1) (.int _)⟩
def rListOf (K : PySem.W.Frag) : List V → Hp → VK → Prop := fun xs H Q => ∃ p ys, xs = [.ref p] ∧ (SqL K H p ys ∨ SqT K H p ys) ∧ ∀ l, H l = none → Q (.ref l) (upd H l (.lst ys))
theorem rc_listL : RCD (rListOf K) [.list ds] (.list ds) := fun H H1 vs e h Q q => by
  cases h with
  | cons a b =>
    cases b
    cases a with
    | lst ha hs => exact ⟨_, _, rfl, .inl (sq_of (e _ _ ha)), fun l hl => q _ _ (Ex.new hl) (.lst (gr_new hl upd_same) (TpAll.ex (gr_ex e) _ _ hs))⟩
theorem rc_listT : RCD (rListOf K) [.tuple ds] (.list ds) := fun H H1 vs e h Q q => by
  cases h with
  | cons a b =>
    cases b
    cases a with
    | tup ha hs => exact ⟨_, _, rfl, .inr (st_of (e _ _ ha)), fun l hl => q _ _ (Ex.new hl) (.lst (gr_new hl upd_same) (TpAll.ex (gr_ex e) _ _ hs))⟩
def rTupOf (K : PySem.W.Frag) : List V → Hp → VK → Prop := fun xs H Q => ∃ p ys, xs = [.ref p] ∧ ((SqL K H p ys ∧ ∀ l, H l = none → Q (.ref l) (upd H l (.tup ys))) ∨ (SqT K H p ys ∧ Q (.ref p) H))
theorem rc_tupL : RCD (rTupOf K) [.list ds] (.tuple ds) := fun H H1 vs e h Q q => by
  cases h with
  | cons a b =>
    cases b
    cases a with
    | lst ha hs => exact ⟨_, _, rfl, .inl ⟨sq_of (e _ _ ha), fun l hl => q _ _ (Ex.new hl) (.tup (gr_new hl upd_same) (TpAll.ex (gr_ex e) _ _ hs))⟩⟩
theorem rc_tupT : RCD (rTupOf K) [.tuple ds] (.tuple ds) := fun H H1 vs e h Q q => by
  cases h with
  | cons a b =>
    cases b
    cases a with
    | tup ha hs => exact ⟨_, _, rfl, .inr ⟨st_of (e _ _ ha), q _ H1 (Ex.refl H1) (.tup (gr_ex e _ _ ha) (TpAll.ex (gr_ex e) _ _ hs))⟩⟩
def rInt1 : List V → Hp → VK → Prop := fun xs H Q => (∃ i, xs = [.int i] ∧ Q (.int i) H) ∨ ∃ k, xs = [.bl k] ∧ Q (.int (if k then 1 else 0)) H
theorem rc_int {i : Int} : RCD rInt1 [.int i] (.int i) := fun H H1 vs e h Q q => by
  cases h with
  | cons a b =>
    cases b
    cases a
    exact .inl ⟨i, rfl, q _ H1 (Ex.refl H1) (.int _)⟩
theorem rc_intB {b : Bool} : RCD rInt1 [.bool b] (.int (if b then 1 else 0)) := fun H H1 vs e h Q q => by
  cases h with
  | cons a b =>
    cases b
    cases a
    exact .inr ⟨_, rfl, q _ H1 (Ex.refl H1) (.int _)⟩
theorem bools_of {H : Hp} : ∀ {bs : List Bool} {vs : List V}, TpAll H vs (bs.map PyData.bool) → vs = bs.map V.bl
  | [], _, h => by cases h; rfl
  | b :: bs, _, h => by
    cases h with
    | cons a t =>
      cases a
      rw [bools_of t]
      rfl
theorem ints_of {H : Hp} : ∀ {bs : List Int} {vs : List V}, TpAll H vs (bs.map PyData.int) → vs = bs.map V.int
  | [], _, h => by cases h; rfl
  | b :: bs, _, h => by
    cases h with
    | cons a t =>
      cases a
      rw [ints_of t]
      rfl
theorem tp_ints {H : Hp} : ∀ bs : List Int, TpAll H (bs.map V.int) (bs.map PyData.int)
  | [] => .nil
  | b :: bs => .cons (.int b) (tp_ints bs)
theorem rc_all {bs : List Bool} : RCD (rAll K) [.list (bs.map PyData.bool)] (.bool (bs.all id)) := fun H H1 vs e h Q q => by
  cases h with
  | cons a b =>
    cases b
    cases a with
    | lst ha hs =>
      have z := bools_of hs
      subst z
      exact ⟨_, bs, rfl, sq_of (e _ _ ha), q _ H1 (Ex.refl H1) (.bl _)⟩
theorem rc_sum {ns : List Int} : RCD (rSum K) [.list (ns.map PyData.int)] (.int ns.sum) := fun H H1 vs e h Q q => by
  cases h with
  | cons a b =>
    cases b
    cases a with
    | lst ha hs =>
      have z := ints_of hs
      subst z
      exact ⟨_, ns, rfl, sq_of (e _ _ ha), q _ H1 (Ex.refl H1) (.int _)⟩
/-! ### slices -/
-- slices later
end
end Dl
set_option maxHeartbeats 4000000
namespace Dl
open PySem PySem.Spec PyProof.Rows L2 Evl
/-! ### a base B of what is known and stays, in the machine's heap Hc; entered at H1 with the base H -/
structure Bs (H H1 B Hc : Hp) : Prop where
  a : Ex H1 Hc
  b : Ex H B
  c : Ex B Hc
  d : Ex B (gr H H1 Hc)
theorem Bs.start {H H1 : Hp} (e : Ex H H1) : Bs H H1 H H1 := ⟨Ex.refl _, Ex.refl _, e, gr_ex e⟩
theorem Bs.step {H H1 B Hc Hn : Hp} (s : Bs H H1 B Hc) (e : Ex Hc Hn) : Bs H H1 (gr B Hc Hn) Hn := ⟨s.a.trans e, s.b.trans (gr_ex s.c), gr_sub s.c e, fun b o h => by
  unfold gr at h ⊢
  cases p : Hc b with
  | none =>
    rw [p] at h
    rw [fresh_back s.a p]
    exact h
  | some u =>
    rw [p] at h
    have z := s.d b o h
    unfold gr at z
    cases q : H1 b with
    | none => rw [q] at z; exact e b o z
    | some w => rw [q] at z; exact z⟩
theorem Bs.keep {H H1 B Hc Hn : Hp} (s : Bs H H1 B Hc) (e : Ex Hc Hn) : Bs H H1 B Hn := ⟨s.a.trans e, s.b, s.c.trans e, s.d.trans (gr_l e)⟩
theorem Bs.mut {H H1 B Hc : Hp} {p : Addr} {o : HO} (s : Bs H H1 B Hc) (h1 : H1 p = none) (hb : B p = none) : Bs H H1 B (upd Hc p o) := ⟨Ex.mut s.a h1, s.b, Ex.mut s.c hb, fun b u h => by
  have z := s.d b u h
  have n : b ≠ p := ne_of_none h hb
  unfold gr at z ⊢
  rw [upd_ne n]
  exact z⟩
theorem Bs.new {H H1 B Hc : Hp} {p : Addr} {o : HO} (s : Bs H H1 B Hc) (hp : Hc p = none) : Bs H H1 B (upd Hc p o) := s.mut (fresh_back s.a hp) (fresh_back s.c hp)
theorem gr_off {B Hc Hn : Hp} {p : Addr} (h : B p = none) (hp : Hc p ≠ none) : gr B Hc Hn p = none := by
  unfold gr
  cases q : Hc p with
  | none => exact absurd q hp
  | some u => exact h
theorem gr_up {B Hc Hn : Hp} (e : Ex B Hc) : Ex B (gr B Hc Hn) := gr_ex e
theorem gr_mono {B B' Hc Hn : Hp} (e : Ex B B') : Ex (gr B Hc Hn) (gr B' Hc Hn) := fun b o h => by
  unfold gr at h ⊢
  cases q : Hc b with
  | none => rw [q] at h; exact h
  | some u => rw [q] at h; exact e b o h
/-- an own list: at p, of the data ds, which do not lead to p -/
def Own (H1 B Hc : Hp) (p : Addr) (ds : List PyData) : Prop := H1 p = none ∧ B p = none ∧ ∃ vs, Hc p = some (.lst vs) ∧ TpAll B vs ds
theorem Own.step {H1 B Hc Hn : Hp} {p : Addr} {ds : List PyData} (h : Own H1 B Hc p ds) (c : Ex B Hc) (e : Ex Hc Hn) : Own H1 (gr B Hc Hn) Hn p ds := by
  obtain ⟨h1, h2, vs, h3, h4⟩ := h
  exact ⟨h1, gr_off h2 (by rw [h3]; exact Option.some_ne_none _), vs, e p _ h3, TpAll.ex (gr_ex c) _ _ h4⟩
theorem Own.other {H1 B Hc : Hp} {p q : Addr} {o : HO} {ds : List PyData} (h : Own H1 B Hc p ds) (n : p ≠ q) : Own H1 B (upd Hc q o) p ds := by
  obtain ⟨h1, h2, vs, h3, h4⟩ := h
  exact ⟨h1, h2, vs, by rw [upd_ne n]; exact h3, h4⟩
/-- an own list told as it is -/
theorem Own.out {H H1 B Hc : Hp} {p : Addr} {ds : List PyData} (h : Own H1 B Hc p ds) (s : Bs H H1 B Hc) : Tp (gr H H1 Hc) (.ref p) (.list ds) := by
  obtain ⟨h1, h2, vs, h3, h4⟩ := h
  exact .lst (gr_new h1 h3) (TpAll.ex s.d _ _ h4)
theorem Own.rd {H1 B Hc : Hp} {p : Addr} {ds : List PyData} (h : Own H1 B Hc p ds) : ∃ vs, Hc p = some (.lst vs) ∧ TpAll B vs ds := h.2.2
section
variable {K : PySem.W.Frag} {σ : L2.St} {H H1 B Hc : Hp} {ta tb te tx : TE} {t u : TT} {x y z d : PyData} {ds es : List PyData} {tz tu tw : TS} {D : Ends}
theorem q_asgD {i : Nat} (c : Ex B Hc) (h : EvD te σ B d) (k : ∀ v Hn, Ex Hc Hn → Tp (gr B Hc Hn) v d → tz D (σ.set i (some v)) Hn) : tSeq (tAsg te (gName i)) tz D σ Hc := h Hc c _ k
theorem s_asgD {i : Nat} (c : Ex B Hc) (h : EvD te σ B d) (k : ∀ v Hn, Ex Hc Hn → Tp (gr B Hc Hn) v d → D.nx (σ.set i (some v)) Hn) : tAsg te (gName i) D σ Hc := h Hc c _ k
theorem s_retD (c : Ex B Hc) (h : EvD te σ B d) (k : ∀ v Hn, Ex Hc Hn → Tp (gr B Hc Hn) v d → D.rt v Hn) : tRet te D σ Hc := h Hc c _ k
/-- x = [], the list one's own -/
theorem q_asgOwn {i : Nat} (s : Bs H H1 B Hc) (k : ∀ p, Own H1 B (upd Hc p (.lst [])) p [] → Bs H H1 B (upd Hc p (.lst [])) → Ex Hc (upd Hc p (.lst [])) → tz D (σ.set i (some (.ref p))) (upd Hc p (.lst []))) : tSeq (tAsg (tLst tNil) (gName i)) tz D σ Hc :=
  ⟨Nat.zero_le _, fun p hp => k p ⟨fresh_back s.a hp, fresh_back s.c hp, [], upd_same, .nil⟩ (s.new hp) (Ex.new hp)⟩
/-- x = [e, ..] or any new list, one's own -/
def EvN (te : TE) (σ : L2.St) (H : Hp) (ds : List PyData) : Prop := ∀ H1, Ex H H1 → ∀ Q : VK, (∀ p H2 vs, Ex H1 H2 → H1 p = none → H2 p = some (.lst vs) → TpAll (but (gr H H1 H2) [p]) vs ds → Q (.ref p) H2) → te σ H1 Q
theorem q_asgN {i : Nat} (s : Bs H H1 B Hc) (h : EvN te σ B ds) (k : ∀ p Hn B', Own H1 B' Hn p ds → Bs H H1 B' Hn → Ex Hc Hn → Ex B B' → Hc p = none → (∀ b, Hc b ≠ none → B b = none → B' b = none) → tz D (σ.set i (some (.ref p))) Hn) : tSeq (tAsg te (gName i)) tz D σ Hc :=
  h Hc s.c _ fun p Hn vs e hp hv ht => by
    have s2 := s.step e
    refine k p Hn (but (gr B Hc Hn) [p]) ⟨fresh_back s.a hp, but_in (List.mem_singleton.mpr rfl), vs, hv, ht⟩ ⟨s2.a, fun b o h => ?_, but_ex.trans s2.c, but_ex.trans s2.d⟩ e (fun b o h => ?_) hp fun b hb hB => ?_
    · have n : b ≠ p := ne_of_none h (fresh_back (s.b.trans s.c) hp)
      rw [but_at fun z => n (List.mem_singleton.mp z)]
      exact s2.b b o h
    · have n : b ≠ p := ne_of_none h (fresh_back s.c hp)
      rw [but_at fun z => n (List.mem_singleton.mp z)]
      exact gr_ex s.c b o h
    · by_cases m : b ∈ [p]
      · exact but_in m
      · rw [but_at m]
        exact gr_off hB hb
/-- l.append(e), l one's own -/
theorem s_appD {j : Nat} {p : Addr} (s : Bs H H1 B Hc) (hj : σ[j]? = some (some (.ref p))) (ho : Own H1 B Hc p ds) (h : EvD te σ B d) (hz : ds.length < 100000)
    (k : ∀ Hn Hn', Ex Hc Hn → (∀ b o, b ≠ p → Hn b = some o → Hn' b = some o) → Own H1 (gr B Hc Hn) Hn' p (ds ++ [d]) → Bs H H1 (gr B Hc Hn) Hn' → D.nx σ Hn') : tDrop (tBM K "list" rAppend (tVar j) (tCons te tNil)) D σ Hc := by
  obtain ⟨h1, h2, vs, h3, h4⟩ := ho
  refine ⟨.ref p, hj, Or.inl ⟨rfl, vs, sq_of h3⟩, h Hc s.c _ fun v Hn e hv => ⟨p, vs, v, rfl, rfl, e p _ h3, sz_lt (by rw [dp_len h4]; exact hz), ?_⟩⟩
  have hb : gr B Hc Hn p = none := gr_off h2 (by rw [h3]; exact Option.some_ne_none _)
  exact k Hn _ e (fun b o n z => by rw [upd_ne n]; exact z) ⟨h1, hb, _, upd_same, dp_append (TpAll.ex (gr_ex s.c) _ _ h4) (.cons hv .nil)⟩ ((s.step e).mut h1 hb)
theorem q_appD {j : Nat} {p : Addr} (s : Bs H H1 B Hc) (hj : σ[j]? = some (some (.ref p))) (ho : Own H1 B Hc p ds) (h : EvD te σ B d) (hz : ds.length < 100000)
    (k : ∀ Hn Hn', Ex Hc Hn → (∀ b o, b ≠ p → Hn b = some o → Hn' b = some o) → Own H1 (gr B Hc Hn) Hn' p (ds ++ [d]) → Bs H H1 (gr B Hc Hn) Hn' → tz D σ Hn') : tSeq (tDrop (tBM K "list" rAppend (tVar j) (tCons te tNil))) tz D σ Hc :=
  s_appD (D := { D with nx := tz D }) s hj ho h hz k
/-- l.extend(e), l one's own, e a list -/
theorem s_extD {j : Nat} {p : Addr} (s : Bs H H1 B Hc) (hj : σ[j]? = some (some (.ref p))) (ho : Own H1 B Hc p ds) (h : EvD te σ B (.list es)) (hz : ds.length + es.length ≤ 100000)
    (k : ∀ Hn Hn', Ex Hc Hn → (∀ b o, b ≠ p → Hn b = some o → Hn' b = some o) → Own H1 (gr B Hc Hn) Hn' p (ds ++ es) → Bs H H1 (gr B Hc Hn) Hn' → D.nx σ Hn') : tDrop (tBM K "list" rExtend (tVar j) (tCons te tNil)) D σ Hc := by
  obtain ⟨h1, h2, vs, h3, h4⟩ := ho
  refine ⟨.ref p, hj, Or.inl ⟨rfl, vs, sq_of h3⟩, h Hc s.c _ fun v Hn e hv => ?_⟩
  have hb : gr B Hc Hn p = none := gr_off h2 (by rw [h3]; exact Option.some_ne_none _)
  cases hv with
  | lst ha hs =>
    refine ⟨p, _, vs, _, rfl, rfl, e p _ h3, (s.step e).c _ _ ha, sz_of (by rw [dp_len h4, dp_len hs]; exact hz), ?_⟩
    exact k Hn _ e (fun b o n z => by rw [upd_ne n]; exact z) ⟨h1, hb, _, upd_same, dp_append (TpAll.ex (gr_ex s.c) _ _ h4) hs⟩ ((s.step e).mut h1 hb)
theorem q_extD {j : Nat} {p : Addr} (s : Bs H H1 B Hc) (hj : σ[j]? = some (some (.ref p))) (ho : Own H1 B Hc p ds) (h : EvD te σ B (.list es)) (hz : ds.length + es.length ≤ 100000)
    (k : ∀ Hn Hn', Ex Hc Hn → (∀ b o, b ≠ p → Hn b = some o → Hn' b = some o) → Own H1 (gr B Hc Hn) Hn' p (ds ++ es) → Bs H H1 (gr B Hc Hn) Hn' → tz D σ Hn') : tSeq (tDrop (tBM K "list" rExtend (tVar j) (tCons te tNil))) tz D σ Hc :=
  s_extD (D := { D with nx := tz D }) s hj ho h hz k
/-- for, over data: Pv by the walk's base, the turn, the slots, the base, the heap -/
theorem s_forD {wi : TI} {g : TG} {tb : TS} (c : Ex B Hc) (hi : EvI wi σ B ds) (Pv : Hp → Nat → L2.St → Hp → Prop)
    (h0 : ∀ Hn, Ex Hc Hn → Pv (gr B Hc Hn) 0 σ Hn)
    (hP : ∀ B0 i σ' H', Pv B0 i σ' H' → Ex B0 H')
    (hs : ∀ B0 i d x σ' H' Hn, ds[i]? = some d → Pv B0 i σ' H' → Ex H' Hn → Tp (gr B0 H' Hn) x d → g x σ' Hn fun σ2 H2 => tb { D with nx := Pv B0 (i + 1), ct := Pv B0 (i + 1), bk := D.nx } σ2 H2)
    (hd : ∀ B0 σ' H', Pv B0 ds.length σ' H' → D.nx σ' H') : tFor wi g tb D σ Hc := hi Hc c _ fun J Hn e hJ => by
  refine ⟨fun i m σ' H' => m = ds.length - i ∧ i ≤ ds.length ∧ Pv (gr B Hc Hn) i σ' H', ⟨ds.length, rfl, Nat.zero_le _, h0 Hn e⟩, ?_⟩
  rintro i m σ' H' ⟨rfl, hil, p⟩
  have q := hP _ _ _ _ p
  by_cases hlt : i < ds.length
  · refine .inr ⟨hJ.go i H' hlt q, Pv (gr B Hc Hn) (i + 1), fun σ2 H2 p' => ⟨ds.length - (i + 1), by omega, rfl, hlt, p'⟩, fun x H'' y => ?_⟩
    obtain ⟨e3, d, hd1, hx⟩ := hJ.yld i H' x H'' hlt q y
    exact hs _ i d x σ' H' H'' hd1 p e3 hx
  · have ei : i = ds.length := by omega
    subst ei
    exact .inl ⟨hJ.stop H' q, hd _ σ' H' p⟩
end
/-! ### promises of defs that tell data -/
def spP (n : Nat) (f : List PyData → PyData → Prop) : Sp := fun vs H1 Q _ => ∃ H ds d, Ex H H1 ∧ TpAll H vs ds ∧ ds.length = n ∧ f ds d ∧ ∀ v H2, Ex H1 H2 → Tp (gr H H1 H2) v d → Q v H2
section
variable {K : PySem.W.Frag} {σ : L2.St} {H H1 B Hc : Hp} {d : PyData} {ds : List PyData}
theorem ed_call {n : Nat} {f : List PyData → PyData → Prop} {E : XK} {ta : TA} (h : EvDs ta σ H ds) (hn : ds.length = n) (hf : f ds d) : EvD (tCall (spP n f) [] E ta) σ H d := fun H1 e Q q =>
  h H1 e _ fun vs H2 e2 dvs => by
    rw [List.append_nil]
    exact ⟨gr H H1 H2, ds, d, gr_sub e e2, dvs, hn, hf, fun v H3 e3 g => q v H3 (e2.trans e3) (Tp.ex (gr_gr e2 e3) d v g)⟩
theorem spP_len {n : Nat} {f : List PyData → PyData → Prop} {vs : List V} {H : Hp} {Q : VK} {E : XK} (h : spP n f vs H Q E) : vs.length = n := by
  obtain ⟨B, ds, d, _, h1, h2, _⟩ := h
  rw [dp_len h1]
  exact h2
end
end Dl
set_option maxHeartbeats 4000000
namespace Dl
open PySem PySem.Spec PyProof.Rows L2 Evl RZ
section
variable {K : PySem.W.Frag} {σ : L2.St} {H H1 B Hc : Hp} {ta tb te tx : TE} {t u : TT} {x y z d : PyData} {ds es : List PyData}
def enumD (i : Nat) : List PyData → List PyData
  | [] => []
  | d :: ds => .tuple [.int (i : Nat), d] :: enumD (i + 1) ds
theorem enum_len : ∀ (i : Nat) (ds : List PyData), (enumD i ds).length = ds.length
  | _, [] => rfl
  | i, d :: ds => congrArg (· + 1) (enum_len (i + 1) ds)
theorem enum_get : ∀ (i j : Nat) (ds : List PyData) (d : PyData), ds[j]? = some d → (enumD i ds)[j]? = some (.tuple [.int ((i + j : Nat) : Int), d])
  | i, 0, _ :: _, d, h => by
    simp at h
    subst h
    rfl
  | i, j + 1, _ :: ds, d, h => by
    have := enum_get (i + 1) j ds d (by simpa using h)
    have e : i + 1 + j = i + (j + 1) := by omega
    rw [e] at this
    simpa [enumD] using this
  | _, _, [], _, h => by simp at h
theorem gr_upd {B H' : Hp} {T : Addr} {o : HO} (h : H' T = none) : gr B H' (upd H' T o) T = some o := gr_new h upd_same
theorem walk_e {a : Addr} {B : Hp} {xs : List V} (h : B a = some (.lst xs)) (hd : TpAll B xs ds) : WalkD (Ite K a) B (enumD 0 ds) where
  go := fun i H' hi e => ⟨xs, xs[i]'(by rw [dp_len hd]; rw [enum_len] at hi; exact hi), sq_of (e a _ h), by simp⟩
  stop := fun H' e => ⟨xs, sq_of (e a _ h), by rw [enum_len]; exact Nat.le_of_eq (dp_len hd)⟩
  yld := fun i H' x H'' hi e y => by
    obtain ⟨T, v, rfl, hT, rfl, y⟩ := y
    obtain ⟨d, h1, h2⟩ := dp_getV hd (y xs (sq_of (e a _ h)))
    refine ⟨Ex.new hT, _, enum_get 0 i ds d h1, .tup (gr_upd hT) ?_⟩
    rw [Nat.zero_add]
    exact .cons (.int _) (.cons (Tp.ex (gr_ex e) d v h2) .nil)
theorem ei_enum {tr : TA} (h : EvDs tr σ H [.list ds]) : EvI (iEnum K tr) σ H (enumD 0 ds) := fun H1 e R q => h H1 e _ fun vs H2 e2 hv => by
  cases hv with
  | cons a b =>
    cases b
    cases a with
    | lst ha hs => exact ⟨_, _, rfl, sq_of (gr_sub e e2 _ _ ha), q _ H2 e2 (walk_e ha hs)⟩
def zipD : List PyData → List PyData → List PyData
  | d :: ds, e :: es => .tuple [d, e] :: zipD ds es
  | _, _ => []
theorem zip_len : ∀ (ds es : List PyData), ds.length = es.length → (zipD ds es).length = ds.length
  | [], [], _ => rfl
  | d :: ds, e :: es, h => congrArg (· + 1) (zip_len ds es (by simpa using h))
theorem zip_get : ∀ (i : Nat) (ds es : List PyData) (d e : PyData), ds[i]? = some d → es[i]? = some e → (zipD ds es)[i]? = some (.tuple [d, e])
  | 0, _ :: _, _ :: _, d, e, h, h' => by
    simp at h h'
    subst h h'
    rfl
  | i + 1, _ :: ds, _ :: es, d, e, h, h' => by
    have := zip_get i ds es d e (by simpa using h) (by simpa using h')
    simpa [zipD] using this
  | _, [], _, _, _, h, _ => by simp at h
  | 0, _ :: _, [], _, _, _, h => by simp at h
  | _ + 1, _ :: _, [], _, _, _, h => by simp at h
theorem walk_z {a b : Addr} {B : Hp} {xs ys : List V} (hl : ds.length = es.length) (h : B a = some (.lst xs)) (hd : TpAll B xs ds) (h' : B b = some (.lst ys)) (hd' : TpAll B ys es) : WalkD (Itz K a b) B (zipD ds es) where
  go := fun i H' hi e => by
    rw [zip_len _ _ hl] at hi
    exact ⟨xs, ys, xs[i]'(by rw [dp_len hd]; exact hi), ys[i]'(by rw [dp_len hd', ← hl]; exact hi), sq_of (e a _ h), sq_of (e b _ h'), by simp, by simp⟩
  stop := fun H' e => ⟨xs, ys, sq_of (e a _ h), sq_of (e b _ h'), .inl (by rw [zip_len _ _ hl, dp_len hd]; exact Nat.le_refl _)⟩
  yld := fun i H' x H'' hi e y => by
    obtain ⟨T, v, w, rfl, hT, rfl, y1, y2⟩ := y
    obtain ⟨d, h1, h2⟩ := dp_getV hd (y1 xs (sq_of (e a _ h)))
    obtain ⟨d', h3, h4⟩ := dp_getV hd' (y2 ys (sq_of (e b _ h')))
    exact ⟨Ex.new hT, _, zip_get i ds es d d' h1 h3, .tup (gr_upd hT) (.cons (Tp.ex (gr_ex e) d v h2) (.cons (Tp.ex (gr_ex e) d' w h4) .nil))⟩
theorem walk_zT {a b : Addr} {B : Hp} {xs ys : List V} (hl : ds.length = es.length) (h : B a = some (.tup xs)) (hd : TpAll B xs ds) (h' : B b = some (.tup ys)) (hd' : TpAll B ys es) : WalkD (ItzT K a b) B (zipD ds es) where
  go := fun i H' hi e => by
    rw [zip_len _ _ hl] at hi
    exact ⟨xs, ys, xs[i]'(by rw [dp_len hd]; exact hi), ys[i]'(by rw [dp_len hd', ← hl]; exact hi), st_of (e a _ h), st_of (e b _ h'), by simp, by simp⟩
  stop := fun H' e => ⟨xs, ys, st_of (e a _ h), st_of (e b _ h'), .inl (by rw [zip_len _ _ hl, dp_len hd]; exact Nat.le_refl _)⟩
  yld := fun i H' x H'' hi e y => by
    obtain ⟨T, v, w, rfl, hT, rfl, y1, y2⟩ := y
    obtain ⟨d, h1, h2⟩ := dp_getV hd (y1 xs (st_of (e a _ h)))
    obtain ⟨d', h3, h4⟩ := dp_getV hd' (y2 ys (st_of (e b _ h')))
    exact ⟨Ex.new hT, _, zip_get i ds es d d' h1 h3, .tup (gr_upd hT) (.cons (Tp.ex (gr_ex e) d v h2) (.cons (Tp.ex (gr_ex e) d' w h4) .nil))⟩
theorem ei_zipL {tr : TA} (hl : ds.length = es.length) (h : EvDs tr σ H [.list ds, .list es]) : EvI (iZipA K tr) σ H (zipD ds es) := fun H1 e R q => h H1 e _ fun vs H2 e2 hv => by
  cases hv with
  | cons a b =>
    cases b with
    | cons b c =>
      cases c
      cases a with
      | lst ha hs =>
        cases b with
        | lst hb ht => exact ⟨_, _, _, _, rfl, .inl ⟨sq_of (gr_sub e e2 _ _ ha), sq_of (gr_sub e e2 _ _ hb), q _ H2 e2 (walk_z hl ha hs hb ht)⟩⟩
theorem ei_zipT {tr : TA} (hl : ds.length = es.length) (h : EvDs tr σ H [.tuple ds, .tuple es]) : EvI (iZipA K tr) σ H (zipD ds es) := fun H1 e R q => h H1 e _ fun vs H2 e2 hv => by
  cases hv with
  | cons a b =>
    cases b with
    | cons b c =>
      cases c
      cases a with
      | tup ha hs =>
        cases b with
        | tup hb ht => exact ⟨_, _, _, _, rfl, .inr ⟨st_of (gr_sub e e2 _ _ ha), st_of (gr_sub e e2 _ _ hb), q _ H2 e2 (walk_zT hl ha hs hb ht)⟩⟩
/-! ### targets -/
theorem g_name {i : Nat} {x : V} {σ : L2.St} {Hx : Hp} {k : L2.St → Hp → Prop} (h : k (σ.set i (some x)) Hx) : gName i x σ Hx k := h
theorem g_pair {i j : Nat} {x : V} {dx dy : PyData} {σ : L2.St} {B Hx : Hp} {k : L2.St → Hp → Prop} (hx : Tp B x (.tuple [dx, dy])) (e : Ex B Hx) (h : ∀ v w, Tp B v dx → Tp B w dy → k ((σ.set i (some v)).set j (some w)) Hx) :
    gTup K 2 (gCons (gName i) (gCons (gName j) gNil)) x σ Hx k := by
  cases hx with
  | tup ha hs =>
    cases hs with
    | cons a b =>
      cases b with
      | cons b c =>
        cases c
        exact ⟨_, _, rfl, st_of (e _ _ ha), rfl, _, _, rfl, _, _, rfl, rfl, h _ _ a b⟩
/-! ### in, slices -/
theorem rd_inD (hx : SeqAt.shaped x = true) (hy : SeqAt.shaped (.list ds) = true) : RD (rInD K) x (.list ds) (.bool (ds.any fun z => PyData.eqv z x)) := fun H H1 v w e hv hw Q q =>
  ⟨x, ds, Tp.dp x v (nd_sh hx) (Tp.ex e x v hv), Tp.dp (.list ds) w (nd_sh hy) (Tp.ex e (.list ds) w hw), hx, hy, q _ H1 (Ex.refl H1) (.bl _)⟩
theorem rd_notInD (hx : SeqAt.shaped x = true) (hy : SeqAt.shaped (.list ds) = true) : RD (rNotInD K) x (.list ds) (.bool (!ds.any fun z => PyData.eqv z x)) := fun H H1 v w e hv hw Q q =>
  ⟨x, ds, Tp.dp x v (nd_sh hx) (Tp.ex e x v hv), Tp.dp (.list ds) w (nd_sh hy) (Tp.ex e (.list ds) w hw), hx, hy, q _ H1 (Ex.refl H1) (.bl _)⟩
theorem flat_ints : ∀ ns : List Int, (ns.map V.int).all flatV = true
  | [] => rfl
  | n :: ns => flat_ints ns
theorem inV_ints (m : Int) : ∀ ns : List Int, inV (.int m) (ns.map V.int) = ns.contains m
  | [] => rfl
  | n :: ns => by
    have ih := inV_ints m ns
    unfold inV at ih ⊢
    rw [List.map_cons, List.any_cons, ih, List.contains_cons]
    congr 1
    show eqV (.int n) (.int m) = (m == n)
    have z : eqV (.int n) (.int m) = (n == m) := by simp [eqV]
    rw [z]
    exact Bool.beq_comm
theorem rd_inI {m : Int} {ns : List Int} : RD (rIn K false) (.int m) (.list (ns.map PyData.int)) (.bool (ns.contains m)) := fun H H1 v w e hv hw Q q => by
  cases hv
  cases hw with
  | lst ha hs =>
    have z := ints_of hs
    subst z
    exact ⟨_, _, rfl, .inl (sq_of (e _ _ ha)), rfl, flat_ints ns, by rw [inV_ints]; exact q _ H1 (Ex.refl H1) (.bl _)⟩
theorem rd_inIT {m : Int} {ns : List Int} : RD (rIn K false) (.int m) (.tuple (ns.map PyData.int)) (.bool (ns.contains m)) := fun H H1 v w e hv hw Q q => by
  cases hv
  cases hw with
  | tup ha hs =>
    have z := ints_of hs
    subst z
    exact ⟨_, _, rfl, .inr (st_of (e _ _ ha)), rfl, flat_ints ns, by rw [inV_ints]; exact q _ H1 (Ex.refl H1) (.bl _)⟩
theorem rd_notInIT {m : Int} {ns : List Int} : RD (rIn K true) (.int m) (.tuple (ns.map PyData.int)) (.bool (!ns.contains m)) := fun H H1 v w e hv hw Q q => by
  cases hv
  cases hw with
  | tup ha hs =>
    have z := ints_of hs
    subst z
    exact ⟨_, _, rfl, .inr (st_of (e _ _ ha)), rfl, flat_ints ns, by rw [inV_ints]; exact q _ H1 (Ex.refl H1) (.bl _)⟩
def cutD (ds : List PyData) (lo hi : Option Int) : List PyData := (ds.drop (HT.sIx ds.length 0 lo)).take (HT.sIx ds.length ds.length hi - HT.sIx ds.length 0 lo)
theorem ed_slL {tl th : TO} {lo hi : Option Int} (h : EvD te σ H (.list ds)) (h1 : EvO tl σ H lo) (h2 : EvO th σ H hi) : EvD (tSl (rSlL K) te tl th) σ H (.list (cutD ds lo hi)) := fun H1 e Q q =>
  h H1 e _ fun v H2 e2 hv => h1 H2 (e.trans e2) _ fun H3 e3 => h2 H3 ((e.trans e2).trans e3) _ fun H4 e4 => by
    cases hv with
    | lst ha hs =>
      have e34 := e3.trans e4
      refine ⟨_, _, rfl, sq_of (e34 _ _ (gr_sub e e2 _ _ ha)), fun p hp => q _ _ ((e2.trans e34).trans (Ex.new hp)) (.lst (gr_new (fresh_back (e2.trans e34) hp) upd_same) ?_)⟩
      have hl := dp_len hs
      unfold cutV cutD
      rw [hl]
      exact TpAll.ex (gr_l (e34.trans (Ex.new hp))) _ _ (dp_take _ (dp_drop _ hs))
end
end Dl
set_option maxHeartbeats 4000000
namespace Dl
open PySem PySem.Spec PyProof.Rows L2 Evl RZ
def tyN : PyData → String
  | .none => "NoneType"
  | .bool _ => "bool"
  | .int _ => "int"
  | .str _ => "str"
  | .list _ => "list"
  | .tuple _ => "tuple"
  | .dict _ => "dict"
section
variable {K : PySem.W.Frag} {σ : L2.St} {H H1 B Hc : Hp} {ta tb te tx : TE} {t u : TT} {x y z d : PyData} {ds es : List PyData}
theorem ty_of {v : V} (h : Tp H v d) : TyX K H v (.type (tyN d)) := by
  cases h with
  | non => exact .base .non
  | bl b => exact .base (.bl b)
  | int i => exact .base (.int i)
  | str x => exact .base (.str x)
  | lst ha hs => exact .base (.lst ha)
  | tup ha hs => exact .base (.tup ha)
  | dict0 ha => exact .base (.dK ha)
theorem ed_isi {T : String} {b : Bool} (h : EvD te σ H d) (hk : ∀ K : PySem.W.Frag, PySem.W.kitOne K (.type (tyN d)) (.type T) = some b) : EvD (tCB (rIsi K) (tCons te (tCons (tC (.ty T)) tNil))) σ H (.bool b) := fun H1 e Q q =>
  h H1 e _ fun v H2 e2 hv => ⟨v, .ty T, _, _, b, rfl, .ty T, ty_of (Tp.ex (gr_sub e e2) d v hv), hk K, q _ H2 e2 (.bl b)⟩
theorem ed_isi2 {T T' : String} {b : Bool} (h : EvD te σ H d) (hk : ∀ K : PySem.W.Frag, PySem.W.kitAny K (.type (tyN d)) [.type T, .type T'] = some b) : EvD (tCB (rIsiT K) (tCons te (tCons (tTup (tCons (tC (.ty T)) (tCons (tC (.ty T')) tNil))) tNil))) σ H (.bool b) := fun H1 e Q q =>
  h H1 e _ fun v H2 e2 hv => ⟨by show 2 ≤ sizeLine; decide, fun p hp => ⟨v, p, _, _, _, b, rfl, upd_same, .cons (.ty T) (.cons (.ty T') .nil), ty_of (Tp.ex ((gr_sub e e2).trans (Ex.new hp)) d v hv), hk K, q _ _ (e2.trans (Ex.new hp)) (.bl b)⟩⟩
theorem kit_int (K : PySem.W.Frag) : ∀ d, PySem.W.kitOne K (.type (tyN d)) (.type "int") = some (match d with | .int _ => true | .bool _ => true | _ => false)
  | .none => rfl
  | .bool _ => rfl
  | .int _ => rfl
  | .str _ => rfl
  | .list _ => rfl
  | .tuple _ => rfl
  | .dict _ => rfl
theorem kit_bool (K : PySem.W.Frag) : ∀ d, PySem.W.kitOne K (.type (tyN d)) (.type "bool") = some (match d with | .bool _ => true | _ => false)
  | .none => rfl
  | .bool _ => rfl
  | .int _ => rfl
  | .str _ => rfl
  | .list _ => rfl
  | .tuple _ => rfl
  | .dict _ => rfl
theorem kit_seq (K : PySem.W.Frag) : ∀ d, PySem.W.kitAny K (.type (tyN d)) [.type "list", .type "tuple"] = some (match d with | .list _ => true | .tuple _ => true | _ => false)
  | .none => rfl
  | .bool _ => rfl
  | .int _ => rfl
  | .str _ => rfl
  | .list _ => rfl
  | .tuple _ => rfl
  | .dict _ => rfl
/-! ### and, or, not -/
theorem ed_andV {a : Bool} {b : PyData} (h1 : EvD ta σ H (.bool a)) (h2 : a = true → EvD tb σ H b) (hf : a = false → b = .bool false) : EvD (tAndV ta tb) σ H b := fun H1 e Q q => h1 H1 e _ fun v H2 e2 hv => by
  cases hv
  refine ⟨a, rfl, ?_⟩
  cases a with
  | true => exact h2 rfl H2 (e.trans e2) Q fun w H3 e3 hw => q w H3 (e2.trans e3) (Tp.ex (gr_r e e2) b w hw)
  | false =>
    rw [hf rfl] at q
    exact q _ H2 e2 (.bl false)
theorem ed_orV {a : Bool} {b : PyData} (h1 : EvD ta σ H (.bool a)) (h2 : a = false → EvD tb σ H b) (hf : a = true → b = .bool true) : EvD (tOrV ta tb) σ H b := fun H1 e Q q => h1 H1 e _ fun v H2 e2 hv => by
  cases hv
  refine ⟨a, rfl, ?_⟩
  cases a with
  | false => exact h2 rfl H2 (e.trans e2) Q fun w H3 e3 hw => q w H3 (e2.trans e3) (Tp.ex (gr_r e e2) b w hw)
  | true =>
    rw [hf rfl] at q
    exact q _ H2 e2 (.bl true)
theorem ed_notV {a : Bool} (h1 : EvD ta σ H (.bool a)) : EvD (tNotV ta) σ H (.bool (!a)) := fun H1 e Q q => h1 H1 e _ fun v H2 e2 hv => by
  cases hv
  exact ⟨a, rfl, q _ H2 e2 (.bl _)⟩
theorem et_D {b : Bool} (h : EvD te σ H (.bool b)) : EvT (tTest te) σ H b := fun H1 e Q q => h H1 e _ fun v H2 e2 hv => by
  cases hv
  exact ⟨b, rfl, q H2 e2⟩
theorem et_BD {b : Bool} (h : EvD te σ H (.bool b)) : EvT (tB te) σ H b := fun H1 e Q q => h H1 e _ fun v H2 e2 hv => by
  cases hv
  exact ⟨b, rfl, q H2 e2⟩
theorem ed_if {b : Bool} (h : EvT t σ H b) (h1 : b = true → EvD ta σ H d) (h2 : b = false → EvD tb σ H d) : EvD (tIf t ta tb) σ H d := fun H1 e Q q => h H1 e _ fun H2 e2 => by
  cases b with
  | true => exact h1 rfl H2 (e.trans e2) Q fun w H3 e3 hw => q w H3 (e2.trans e3) (Tp.ex (gr_r e e2) d w hw)
  | false => exact h2 rfl H2 (e.trans e2) Q fun w H3 e3 hw => q w H3 (e2.trans e3) (Tp.ex (gr_r e e2) d w hw)
theorem rd_isN : ∀ x : PyData, RD (fun x y H Q => y = .non ∧ Q (.bl (decide (x = .non))) H) x .none (.bool (match x with | .none => true | _ => false)) := fun x H H1 v w e hv hw Q q => by
  cases hw
  refine ⟨rfl, ?_⟩
  cases hv <;> exact q _ H1 (Ex.refl H1) (.bl _)
end
/-! ### a def of one row that tells data -/
theorem one_ret {te : TE} {N : List Str} {vs : List V} {n : Nat} {f : List PyData → PyData → Prop} {H1 : Hp} {Q : VK} {E : XK} {nx : L2.St → Hp → Prop} (h : spP n f vs H1 Q E)
    (k : ∀ B ds d, TpAll B vs ds → ds.length = n → f ds d → EvD te (L2.start N vs) B d) : tRet te { nx := nx, rt := Q } (L2.start N vs) H1 := by
  obtain ⟨B, ds, d, e, h1, h2, h3, q⟩ := h
  exact k B ds d h1 h2 h3 H1 e Q q
end Dl
set_option maxHeartbeats 4000000
namespace K50
open PySem PySem.Spec PyProof.Rows L2 Evl RZ Dl
def top (i : Nat) : Stmt := PySem.Challenge.pw_samefromhere_k03_two_way_joined_strong.main.body.getD i (.Pass ⟨0, 0, 0, 0⟩)
abbrev sInteger : Stmt := top 13
abbrev sRow : Stmt := top 15
abbrev sReadWord : Stmt := top 16
abbrev sBuilt : Stmt := top 17
abbrev sReadSigns : Stmt := top 28
abbrev sReadAny : Stmt := top 29
abbrev sStart : Stmt := top 38
abbrev sDraw : Stmt := top 39
abbrev sPick : Stmt := top 40
abbrev sSame : Stmt := top 42
abbrev sEachOnce : Stmt := top 43
/-- the built-ins that the defs name -/
structure Bl (mg : Str → Option Value) : Prop where
  list : mg "list" = none
  tuple : mg "tuple" = none
  int : mg "int" = none
  bool : mg "bool" = none
  len : mg "len" = none
  range : mg "range" = none
  isinstance : mg "isinstance" = none
  enumerate : mg "enumerate" = none
  all : mg "all" = none
  sum : mg "sum" = none
  sorted : mg "sorted" = none
  zip : mg "zip" = none
  reversed : mg "reversed" = none
  dict : mg "dict" = none
  max : mg "max" = none
  min : mg "min" = none
def CallF (P : Program) (w : World) (K : PySem.W.Frag) (mg : Str → Option Value) (base : Heap) (k : Nat) (nm : Str) (ps : List Str) (sp : Sp) : Prop :=
  ∃ (f : Addr) (fd : FuncData), FnOk P w K mg base CX0 k f fd ps sp ∧ mg nm = some (.ref f) ∧ PySem.W.keepIn K (.ref f) = true ∧ L2.Binds K fd ps []
/-! ### is_integer, is_number, is_row -/
def isI : PyData → Bool
  | .int _ => true
  | _ => false
def isR : PyData → Bool
  | .list _ => true
  | .tuple _ => true
  | _ => false
def rInteger : List PyData → PyData → Prop := fun ds d => ∃ x, ds = [x] ∧ d = .bool (isI x)
def rRow : List PyData → PyData → Prop := fun ds d => ∃ x, ds = [x] ∧ d = .bool (isR x)
theorem scInteger : FnScope ["thing"] ["thing"] (defScope sInteger) := ⟨rfl, rfl, rfl, by decide +kernel, rfl, by decide +kernel, by decide +kernel⟩
theorem scRow : FnScope ["thing"] ["thing"] (defScope sRow) := ⟨rfl, rfl, rfl, by decide +kernel, rfl, by decide +kernel, by decide +kernel⟩
theorem tp1 {B : Hp} {vs : List V} {d : PyData} (h : TpAll B vs [d]) : ∃ v, vs = [v] ∧ Tp B v d := by
  cases h with
  | cons a b =>
    cases b
    exact ⟨_, rfl, a⟩
theorem tp2 {B : Hp} {vs : List V} {d e : PyData} (h : TpAll B vs [d, e]) : ∃ v w, vs = [v, w] ∧ Tp B v d ∧ Tp B w e := by
  cases h with
  | cons a b =>
    obtain ⟨w, rfl, h2⟩ := tp1 b
    exact ⟨_, w, rfl, a, h2⟩
theorem tp3 {B : Hp} {vs : List V} {d e f : PyData} (h : TpAll B vs [d, e, f]) : ∃ v w u, vs = [v, w, u] ∧ Tp B v d ∧ Tp B w e ∧ Tp B u f := by
  cases h with
  | cons a b =>
    obtain ⟨w, u, rfl, h2, h3⟩ := tp2 b
    exact ⟨_, w, u, rfl, a, h2, h3⟩
section
variable {P : Program} {w : World} {K : PySem.W.Frag} {mg : Str → Option Value} {base : Heap}
theorem ok_integer {f : Addr} {fd : FuncData} (F : Fun K "is_integer" "is_integer" sInteger f fd) (B : Bl mg) : FnOk P w K mg base CX0 1 f fd ["thing"] (spP 1 rInteger) := by
  refine F.ok scInteger (fun vs H Q E h => spP_len h) (fun cdv A outer s H vs Q E hr h => ?_)
  refine ⟨_, pss_one (ps_ret (pe_and (pe_callB call_isi (by rfl) B.isinstance PyProof.Rows.boot_isinstance (pa_cons (pv 0) (pa_cons (pe_bltn (v := .ty "int") (u := .type "int") (by rfl) B.int (by decide +kernel) rfl) pa_nil)))
    (pe_one (pe_not (pe_callB call_isi (by rfl) B.isinstance PyProof.Rows.boot_isinstance (pa_cons (pv 0) (pa_cons (pe_bltn (v := .ty "bool") (u := .type "bool") (by rfl) B.bool (by decide +kernel) rfl) pa_nil))))))), ?_⟩
  refine one_ret h fun Bb ds d hv hn hf => ?_
  obtain ⟨x, rfl, rfl⟩ := hf
  obtain ⟨v, rfl, hx⟩ := tp1 hv
  refine ed_andV (ed_isi (ed_var rfl hx) fun K => kit_int K x) (fun ha => ed_is (ed_notV (ed_isi (ed_var rfl hx) fun K => kit_bool K x)) ?_) fun ha => ?_
  · cases x <;> first | rfl | (cases ha)
  · cases x <;> first | rfl | (cases ha)
theorem ok_row {f : Addr} {fd : FuncData} (F : Fun K "is_row" "is_row" sRow f fd) (B : Bl mg) : FnOk P w K mg base CX0 1 f fd ["thing"] (spP 1 rRow) := by
  refine F.ok scRow (fun vs H Q E h => spP_len h) (fun cdv A outer s H vs Q E hr h => ?_)
  refine ⟨_, pss_one (ps_ret (pe_callB call_isiT (by rfl) B.isinstance PyProof.Rows.boot_isinstance (pa_cons (pv 0) (pa_cons (pe_tup (pa_cons (pe_bltn (v := .ty "list") (u := .type "list") (by rfl) B.list (by decide +kernel) rfl) (pa_cons (pe_bltn (v := .ty "tuple") (u := .type "tuple") (by rfl) B.tuple (by decide +kernel) rfl) pa_nil))) pa_nil)))), ?_⟩
  refine one_ret h fun Bb ds d hv hn hf => ?_
  obtain ⟨x, rfl, rfl⟩ := hf
  obtain ⟨v, rfl, hx⟩ := tp1 hv
  refine ed_is (ed_isi2 (ed_var rfl hx) fun K => kit_seq K x) ?_
  cases x <;> rfl
end
end K50
set_option maxHeartbeats 4000000
namespace Dl
open PySem PySem.Spec PyProof.Rows L2 Evl RZ
theorem et_yes {σ : L2.St} {H : Hp} : EvT tYes σ H true := fun H1 _ _ q => q H1 (Ex.refl H1)
theorem filter_tt {α : Type} : ∀ l : List α, l.filter (fun _ => true) = l
  | [] => rfl
  | a :: l => by rw [List.filter_cons_of_pos rfl, filter_tt l]
/-- an own list becomes a part of what is known -/
def fz (B Hc : Hp) (p : Addr) : Hp := fun b => if b = p then Hc p else B b
theorem Own.freeze {H H1 B Hc : Hp} {p : Addr} {ds : List PyData} (h : Own H1 B Hc p ds) (s : Bs H H1 B Hc) : Bs H H1 (fz B Hc p) Hc ∧ Tp (fz B Hc p) (.ref p) (.list ds) ∧ Ex B (fz B Hc p) := by
  obtain ⟨h1, h2, vs, h3, h4⟩ := h
  have e : Ex B (fz B Hc p) := fun b o z => by
    unfold fz
    rw [if_neg (ne_of_none z h2)]
    exact z
  refine ⟨⟨s.a, s.b.trans e, fun b o z => ?_, fun b o z => ?_⟩, .lst (vs := vs) (by unfold fz; rw [if_pos rfl]; exact h3) (TpAll.ex e _ _ h4), e⟩
  · unfold fz at z
    split at z
    · rename_i q
      rw [q]
      exact z
    · exact s.c b o z
  · unfold fz at z
    split at z
    · rename_i q
      subst q
      exact gr_new h1 z
    · exact s.d b o z
theorem fz_off {B Hc : Hp} {p q : Addr} (h : B q = none) (n : q ≠ p) : fz B Hc p q = none := by
  unfold fz
  rw [if_neg n]
  exact h
theorem get_map {α : Type} {f : α → PyData} {xs : List α} {i : Nat} {d : PyData} (h : (xs.map f)[i]? = some d) : ∃ a, xs[i]? = some a ∧ f a = d := by
  rw [List.getElem?_map] at h
  cases z : xs[i]? with
  | none => rw [z] at h; cases h
  | some a => rw [z] at h; exact ⟨a, rfl, Option.some.inj h⟩
theorem rd_neI {i j : Int} : RD rNe (.int i) (.int j) (.bool (decide (i ≠ j))) := fun H H1 v w e hv hw Q q => by
  cases hv
  cases hw
  refine ⟨rfl, ?_⟩
  have z : (!decide (V.int i = V.int j)) = decide (i ≠ j) := by
    by_cases h : i = j
    · subst h; simp
    · simp [h]
  rw [z]
  exact q _ H1 (Ex.refl H1) (.bl _)
theorem rd_eqI {i j : Int} : RD rEq (.int i) (.int j) (.bool (decide (i = j))) := fun H H1 v w e hv hw Q q => by
  cases hv
  cases hw
  refine ⟨rfl, ?_⟩
  have z : (decide (V.int i = V.int j)) = decide (i = j) := by
    by_cases h : i = j
    · subst h; simp
    · simp [h]
  rw [z]
  exact q _ H1 (Ex.refl H1) (.bl _)
def below (n : Int) : List Int := (List.range n.toNat).map fun i => ((i : Nat) : Int)
theorem rng_below {n : Int} : rngD 0 n.toNat = (below n).map .int := by
  unfold rngD below
  rw [List.map_map]
  congr 1
  funext i
  show PyData.int (0 + (i : Int)) = PyData.int (i : Int)
  rw [Int.zero_add]
theorem below_len {n : Int} : (below n).length = n.toNat := by simp [below]
theorem mem_below {n i : Int} (h : i ∈ below n) : 0 ≤ i ∧ i < n := by
  unfold below at h
  obtain ⟨k, hk, rfl⟩ := List.mem_map.mp h
  have := List.mem_range.mp hk
  omega
end Dl
namespace K50
open PySem PySem.Spec PyProof.Rows L2 Evl RZ Dl
/-! ### patterns: pairs of a word and a sense -/
def prD (p : PyData × Int) : PyData := .tuple [p.1, .int p.2]
def pD (ps : List (PyData × Int)) : PyData := .list (ps.map prD)
/-- the words that the law draws -/
def wd : List PyData := [.str "a", .str "b", .str "aa", .int 0, .tuple [.str "a"], .str ""]
theorem wd_shaped : ∀ w ∈ wd, SeqAt.shaped w = true ∧ PyData.canLay0 w = true ∧ PyData.depth w ≤ 1 := by decide +kernel
theorem wd_eqv {x y : PyData} (hx : x ∈ wd) (hy : y ∈ wd) : PyData.eqv x y = true ↔ x = y := by
  have e : ∀ (a b : PyData), a ∈ wd → b ∈ wd → PyData.eqv a b = true → a = b := by
    intro a b ha hb h
    unfold wd at ha hb
    simp only [List.mem_cons, List.not_mem_nil, or_false] at ha hb
    rcases ha with rfl | rfl | rfl | rfl | rfl | rfl <;> rcases hb with rfl | rfl | rfl | rfl | rfl | rfl <;> first | rfl | (exact absurd h (by decide +kernel))
  refine ⟨e x y hx hy, fun h => ?_⟩
  subst h
  have : ∀ w ∈ wd, PyData.eqv w w = true := by decide +kernel
  exact this x hx
def okP (ps : List (PyData × Int)) : Prop := ps.length ≤ 400 ∧ ∀ p ∈ ps, p.1 ∈ wd
def at2 (ps : List (PyData × Int)) (i : Int) : PyData × Int := (ps[i.toNat]?).getD (.none, 0)
def turned (ps : List (PyData × Int)) (i j : Int) : Bool := PyData.eqv (at2 ps i).1 (at2 ps j).1 && decide ((at2 ps i).2 ≠ (at2 ps j).2)
def axes (ps : List (PyData × Int)) : List Int := (below ps.length).filter fun a => (below ps.length).all fun i => turned ps i ((a - i).fmod ps.length)
def rTurned : List PyData → PyData → Prop := fun ds d => ∃ ps i j, ds = [pD ps, .int i, .int j] ∧ okP ps ∧ 0 ≤ i ∧ i < ps.length ∧ 0 ≤ j ∧ j < ps.length ∧ d = .bool (turned ps i j)
def rAxes : List PyData → PyData → Prop := fun ds d => ∃ ps, ds = [pD ps] ∧ okP ps ∧ d = .list ((axes ps).map .int)
abbrev nAxes : List Str := ["pattern", "many", "axis", "at"]
theorem at2_get {ps : List (PyData × Int)} {i : Int} (h0 : 0 ≤ i) (h1 : i < ps.length) : ps[i.toNat]? = some (at2 ps i) := by
  unfold at2
  have : i.toNat < ps.length := by omega
  rw [List.getElem?_eq_getElem this]
  rfl
theorem atI_int {α : Type} {xs : List α} {i : Int} {a : α} (h0 : 0 ≤ i) (h : xs[i.toNat]? = some a) : atI xs i = some a := by
  have := Dl.atI_nat (xs := xs) h
  have e : ((i.toNat : Nat) : Int) = i := by omega
  rw [e] at this
  exact this
section
variable {P : Program} {w : World} {K : PySem.W.Frag} {mg : Str → Option Value} {base : Heap}
theorem ed_at {te ti : TE} {σ : L2.St} {H : Hp} {ps : List (PyData × Int)} {i : Int} (h : EvD te σ H (pD ps)) (hi : EvD ti σ H (.int i)) (h0 : 0 ≤ i) (h1 : i < ps.length) : EvD (tOp (rIxL K) te ti) σ H (prD (at2 ps i)) :=
  ed_op h hi (rd_ixL (atI_int h0 (by rw [List.getElem?_map, at2_get h0 h1]; rfl)))
end
end K50
set_option maxHeartbeats 4000000
namespace K50
open PySem PySem.Spec PyProof.Rows L2 Evl RZ Dl
section
variable {P : Program} {w : World} {K : PySem.W.Frag} {mg : Str → Option Value} {base : Heap}
abbrev mkS (names : List (Str × NameKind)) : Scope := { kind := .function, names := names, isGenerator := false, isCoroutine := false }
abbrev scAx1 : Scope := mkS [(".0", .local), ("axis", .cell), ("all", .globalImplicit), ("range", .globalImplicit), ("many", .cell), ("pattern", .cell)]
theorem any_map_bool {α : Type} (f : α → Bool) (l : List α) : (l.map f).all id = l.all f := by
  rw [List.all_map]
  rfl
end
end K50
set_option maxHeartbeats 4000000
namespace Dl
open PySem PySem.Spec PyProof.Rows L2 Evl RZ
theorem cut_from {ds : List PyData} {k : Nat} (h : k ≤ ds.length) : cutD ds (some (k : Int)) none = ds.drop k := by
  unfold cutD
  rw [HT.sIx_nat, Nat.min_eq_left h]
  have z : HT.sIx ds.length ds.length none = ds.length := rfl
  rw [z]
  exact List.take_of_length_le (by rw [List.length_drop]; exact Nat.le_refl _)
theorem cut_to {ds : List PyData} {k : Nat} (h : k ≤ ds.length) : cutD ds none (some (k : Int)) = ds.take k := by
  unfold cutD
  rw [HT.sIx_nat, Nat.min_eq_left h]
  have z : HT.sIx ds.length 0 none = 0 := rfl
  rw [z]
  rfl
theorem eo_someD {te : TE} {σ : L2.St} {H : Hp} {i : Int} (h : EvD te σ H (.int i)) : EvO (tPart te) σ H (some i) := fun H1 e _ q => h H1 e _ fun v H2 e2 hv => by
  cases hv
  exact ⟨i, rfl, q H2 e2⟩
section
variable {σ : L2.St} {B Hc : Hp} {t : TT} {tu tw tz : TS} {D : Ends}
theorem s_ifD {b : Bool} (c : Ex B Hc) (h : EvT t σ B b) (h1 : b = true → ∀ Hn, Ex Hc Hn → tu D σ Hn) (h2 : b = false → ∀ Hn, Ex Hc Hn → tw D σ Hn) : tIfS t tu tw D σ Hc := h Hc c _ fun Hn e => by
  cases b with
  | true => exact h1 rfl Hn e
  | false => exact h2 rfl Hn e
theorem q_ifD {b : Bool} (c : Ex B Hc) (h : EvT t σ B b) (h1 : b = true → ∀ Hn, Ex Hc Hn → tu { D with nx := tz D } σ Hn) (h2 : b = false → ∀ Hn, Ex Hc Hn → tw { D with nx := tz D } σ Hn) : tSeq (tIfS t tu tw) tz D σ Hc := s_ifD (D := { D with nx := tz D }) c h h1 h2
end
end Dl
namespace K50
open PySem PySem.Spec PyProof.Rows L2 Evl RZ Dl
/-! ### is_door -/
def isDoor : PyData → Bool
  | .int i => decide (i = 0 ∨ i = 1)
  | _ => false
def rDoor : List PyData → PyData → Prop := fun ds d => ∃ x, ds = [x] ∧ d = .bool (isDoor x)
/-! ### the least period -/
theorem eqv_list : ∀ (xs ys : List (PyData × Int)), (∀ p ∈ xs, p.1 ∈ wd) → (∀ p ∈ ys, p.1 ∈ wd) → (PyData.eqvAll (xs.map prD) (ys.map prD) = true ↔ xs = ys)
  | [], [], _, _ => by simp [PyData.eqvAll]
  | [], y :: ys, _, _ => by simp [PyData.eqvAll]
  | x :: xs, [], _, _ => by simp [PyData.eqvAll]
  | x :: xs, y :: ys, hx, hy => by
    have ih := eqv_list xs ys (fun p hp => hx p (List.mem_cons_of_mem _ hp)) (fun p hp => hy p (List.mem_cons_of_mem _ hp))
    have e1 := wd_eqv (hx x List.mem_cons_self) (hy y List.mem_cons_self)
    obtain ⟨a, i⟩ := x
    obtain ⟨b, j⟩ := y
    show (PyData.eqv (prD (a, i)) (prD (b, j)) && PyData.eqvAll (xs.map prD) (ys.map prD)) = true ↔ _
    have e2 : PyData.eqv (prD (a, i)) (prD (b, j)) = (PyData.eqv a b && decide (i = j)) := by
      show (PyData.eqv a b && (PyData.eqv (.int i) (.int j) && true)) = _
      have z : PyData.eqv (.int i) (.int j) = decide (i = j) := rfl
      rw [z, Bool.and_true]
    rw [e2, Bool.and_eq_true, Bool.and_eq_true, ih, e1, decide_eq_true_iff]
    simp
theorem shaped_pD {ps : List (PyData × Int)} (h : ∀ p ∈ ps, p.1 ∈ wd) : SeqAt.shaped (pD ps) = true := by
  have h1 : ∀ qs : List (PyData × Int), (∀ p ∈ qs, p.1 ∈ wd) → PyData.canLayAll0 (qs.map prD) = true ∧ PyData.depthAll (qs.map prD) ≤ 2 := by
    intro qs
    induction qs with
    | nil => intro _; exact ⟨rfl, Nat.zero_le _⟩
    | cons p qs ih =>
      intro hq
      obtain ⟨i1, i2⟩ := ih fun p hp => hq p (List.mem_cons_of_mem _ hp)
      obtain ⟨w1, w2, w3⟩ := wd_shaped p.1 (hq p List.mem_cons_self)
      refine ⟨?_, ?_⟩
      · show (PyData.canLay0 (prD p) && PyData.canLayAll0 (qs.map prD)) = true
        rw [i1]
        show ((PyData.canLay0 p.1 && (PyData.canLay0 (.int p.2) && true)) && true) = true
        rw [w2]
        rfl
      · show max (PyData.depth (prD p)) (PyData.depthAll (qs.map prD)) ≤ 2
        have z : PyData.depth (prD p) ≤ 2 := by
          show (max (PyData.depth p.1) (max (PyData.depth (.int p.2)) 0)) + 1 ≤ 2
          have : PyData.depth (.int p.2) = 0 := rfl
          omega
        omega
  obtain ⟨a, b⟩ := h1 ps h
  unfold SeqAt.shaped
  have c : PyData.canLay0 (pD ps) = true := a
  have d : PyData.depth (pD ps) ≤ 64 := by
    show PyData.depthAll (ps.map prD) + 1 ≤ 64
    omega
  rw [c, decide_eq_true d]
  rfl
def per (ps : List (PyData × Int)) : Nat := (((List.range ps.length).drop 1).find? fun k => decide (ps.length % k = 0) && PyData.eqvAll ((ps.drop k ++ ps.take k).map prD) (ps.map prD)).getD ps.length
def rPeriod : List PyData → PyData → Prop := fun ds d => ∃ ps, ds = [pD ps] ∧ okP ps ∧ d = .int (per ps)
section
variable {P : Program} {w : World} {K : PySem.W.Frag} {mg : Str → Option Value} {base : Heap}
end
end K50
set_option maxHeartbeats 4000000
namespace PySem.AutoSeq1
theorem list___iadd___list_tuple_0 (l : Addr) (items : Array Value) (n : Nat) (b : Addr) (items2 : Array Value) (n2 : Nat) (dd : Option Addr) (sl : Array (Option Value)) (hs0 : ¬(!items.isEmpty && Builtin.List.listTooLong (items.size + items2.size)) = true) (hs1 : items.size ≤ sizeLine) (hs2 : items.size + items2.size ≤ sizeLine + 1 := by seq_fits) :
    Meets (Builtin.«list.__iadd__» ⟨[.ref l, .ref b], []⟩) (fun _ R s => s.heap.get? l = some { cls := .type "list", dict := none, data := .seq items n, slots := #[] } ∧ s.heap.get? b = some { cls := .type "tuple", dict := dd, data := .seq items2 n2, slots := sl } ∧ R (.ok (.ret (Value.ref l))) { s with heap := s.heap.update l (Obj.mapSeq fun x => x ++ items2), toks := s.toks }) :=
  .of_wp fun prog w A R s h => by
    obtain ⟨hp, g, d, tk, os⟩ := s; obtain ⟨hl, hb, h⟩ := h; have f1 := idx_int; have f2 := sub_tuple_tuple; have f3 := sub_list_list; have f4 := sub_tuple_list; have f5 := sub_list_tuple;
    have hz' : (items ++ items2).size ≤ sizeLine + 1 := by rw [Array.size_append]; exact hs2
    wp_walk using (wpAny_updateSeq hl rfl (hz := hs1) (_hz' := hz')), wpAny_loadPart' hl, wpAny_loadPart' hb; exact ⟨_, rfl, h⟩
end PySem.AutoSeq1
namespace Dl
open PySem PySem.Spec PyProof.Rows L2 Evl RZ
section
variable {M : Model} {A : Around} {E : Value → Shared → Prop} {s : Shared}
theorem binop1_two {a b : Value} {nm Ta Tb : String} {Q : Option Value → Shared → Prop} (ha : s.TypeIs a Ta) (hb : s.TypeIs b Tb) (hn : (Value.type Ta == Value.type Tb) = false)
    (fa : fillsNumberSlot (.type Ta) nm = pure false) (fb : fillsNumberSlot (.type Tb) nm = pure false) (h : Q none s) : wpAny M A (binaryOp1 nm a b) Q E s := by
  simp only [binaryOp1]
  refine wpAny_bind (wpAny_typeOf ha (wpAny_bind (wpAny_typeOf hb (wpAny_bind (wpAny_of_eq fa ?_)))))
  rw [hn]
  simp only [Bool.false_eq_true, if_false]
  refine wpAny_bind (wpAny_of_eq fb ?_)
  simp only [Bool.false_and, Bool.false_eq_true, if_false, pure_bind]
  exact wpAny_pure h
theorem iadd_road2 {a b : Value} {Q : Value → Shared → Prop} (ha : s.TypeIs a "list") (hb : s.TypeIs b "tuple") (hc : wpAny M A (call (.builtin "list.__iadd__") [a, b]) Q E s) : wpAny M A (inplaceOp .Add a b) Q E s := by
  have hsl : typeLookup (.type "list") (dunderI "add") = pure (some (.builtin "list.__iadd__")) := PySem.F.slot_list_iadd.lookup
  have hsq : isSeqSlot (some (.builtin "list.__iadd__")) = true := by decide +kernel
  have hfi : fillsInplaceSlot (.type "list") "add" (Operator.Add == .Add) = pure false := by
    unfold fillsInplaceSlot
    show (typeLookup (.type "list") (dunderI "add") >>= fun fi => pure (fi.isSome && !isSeqSlot fi)) = pure false
    rw [hsl]
    show (pure (true && !isSeqSlot (some (.builtin "list.__iadd__"))) : Sem Bool) = pure false
    rw [hsq] <;> rfl
  have hsi : seqSlot? (.type "list") (dunderI "add") = pure (some (.builtin "list.__iadd__")) := PySem.seqSlot_of hsl hsq
  unfold inplaceOp
  refine wpAny_holding ?_
  refine wpAny_bind (wpAny_typeOf ha (wpAny_bind (wpAny_of_eq hfi ?_)))
  show wpAny M A (if false = true then _ else _) Q E s
  rw [if_neg Bool.false_ne_true]
  refine wpAny_bind (binop1_two (nm := "add") ha hb (by decide) noFill_list_add noFill_tuple_add ?_)
  refine wpAny_bind (wpAny_of_eq hsi ?_)
  exact wpAny_bind (wpAny_rule hc)
end
def ipExtT : TIp := fun x y H Q => ∃ l b xs zs, x = .ref l ∧ y = .ref b ∧ H l = some (.lst xs) ∧ H b = some (.tup zs) ∧ xs.length + zs.length ≤ sizeLine ∧ Q (.ref l) (upd H l (.lst (xs ++ zs)))
theorem ip_extT {X : Cx} : PIp X .Add ipExtT := by
  intro pins s σ H x y v u Q I rx ry h
  obtain ⟨l, b, xs, zs, rfl, rfl, hH, hB, hz, q⟩ := h
  cases rx
  cases ry
  obtain ⟨z, its, n, r, hl, e⟩ := I.lstM hH
  obtain ⟨z2, its2, r2, o, e2, hc2, n2, hd2⟩ := (show ObjOk X.prog X.w H s.heap b (.tup zs) from I.hok b _ hB)
  have hsz : its.toArray.size + its2.toArray.size ≤ sizeLine := by
    rw [List.size_toArray, List.size_toArray, ← hl, ← r2.length]
    exact hz
  have hlong : ¬ (!its.toArray.isEmpty && Builtin.List.listTooLong (its.toArray.size + its2.toArray.size)) = true := by
    rw [notLongL hsz, Bool.and_false]
    exact Bool.false_ne_true
  obtain ⟨cls, dd, data, sl⟩ := o
  simp only at hc2 hd2
  subst hc2
  subst hd2
  refine iadd_road2 ⟨_, e, rfl⟩ ⟨_, e2, rfl⟩ (call_meets PySem.F.slot_list_iadd ⟨_, e, rfl⟩ PySem.F.entry_list_iadd (PySem.F.args_list_iadd_2 _ _)
    (PySem.AutoSeq1.list___iadd___list_tuple_0 l its.toArray n b its2.toArray n2 dd sl hlong (by rw [List.size_toArray]; omega) (by omega)) ⟨e, e2, ?_⟩)
  refine ⟨.ref l, _, I.lset (its' := its ++ its2) (t' := s.toks) hH e (by simp) (r.append r2) ?_, rfl, q⟩
  rw [List.length_append]
  have := r2.length
  omega
section
variable {K : PySem.W.Frag} {σ : L2.St} {H H1 B Hc : Hp} {te : TE} {ds es : List PyData} {tz : TS} {D : Ends}
/-- l += e, l one's own, e a tuple -/
theorem s_augT {j : Nat} {p : Addr} (s : Bs H H1 B Hc) (hj : σ[j]? = some (some (.ref p))) (hs : σ.set j (some (.ref p)) = σ) (ho : Own H1 B Hc p ds) (h : EvD te σ B (.tuple es)) (hz : ds.length + es.length ≤ 100000)
    (k : ∀ Hn Hn', Ex Hc Hn → (∀ b o, b ≠ p → Hn b = some o → Hn' b = some o) → Own H1 (gr B Hc Hn) Hn' p (ds ++ es) → Bs H H1 (gr B Hc Hn) Hn' → D.nx σ Hn') : tAug j te ipExtT D σ Hc := by
  obtain ⟨h1, h2, vs, h3, h4⟩ := ho
  refine ⟨.ref p, hj, h Hc s.c _ fun v Hn e hv => ?_⟩
  have hb : gr B Hc Hn p = none := gr_off h2 (by rw [h3]; exact Option.some_ne_none _)
  cases hv with
  | tup ha ht =>
    refine ⟨p, _, vs, _, rfl, rfl, e p _ h3, (s.step e).c _ _ ha, sz_of (by rw [dp_len h4, dp_len ht]; exact hz), ?_⟩
    show D.nx (σ.set j (some (V.ref p))) _
    rw [hs]
    exact k Hn _ e (fun b o n z => by rw [upd_ne n]; exact z) ⟨h1, hb, _, upd_same, dp_append (TpAll.ex (gr_ex s.c) _ _ h4) ht⟩ ((s.step e).mut h1 hb)
end
end Dl
set_option maxHeartbeats 4000000
namespace Dl
open PySem PySem.Spec PyProof.Rows L2 Evl RZ
/-! ### a while of a known number of turns -/
def unr (t : TT) (tu : TS) (D : Ends) : Nat → L2.St → Hp → Prop
  | 0 => fun _ _ => False
  | n + 1 => fun σ H => ∃ b, EvT t σ H b ∧ (b = true → ∀ H1, Ex H H1 → tu { D with nx := unr t tu D n, ct := unr t tu D n, bk := D.nx } σ H1) ∧ (b = false → ∀ H1, Ex H H1 → D.nx σ H1)
theorem s_unr {t : TT} {tu : TS} {D : Ends} {σ : L2.St} {H : Hp} (n : Nat) (h : unr t tu D n σ H) : tWhile t tu D σ H :=
  s_while (unr t tu D) n h fun m σ' H' hw => by
    cases m with
    | zero => exact hw.elim
    | succ m =>
      obtain ⟨b, h1, h2, h3⟩ := hw
      exact ⟨b, h1, fun hb H1 e => ⟨unr t tu D m, fun σ2 H2 p => ⟨m, Nat.lt_succ_self _, p⟩, h2 hb H1 e⟩, h3⟩
theorem EvT.up {t : TT} {σ : L2.St} {B H : Hp} {b : Bool} (h : EvT t σ B b) (e : Ex B H) : EvT t σ H b := h.mono e
theorem rd_ltI : True := trivial
end Dl
namespace K50
open PySem PySem.Spec PyProof.Rows L2 Evl RZ Dl
/-! ### words and their keys -/
def readW : PyData → Option (PyData × PyData)
  | .str s => some (.str s, .tuple [.int 2, .str s])
  | .int i => some (.int i, .tuple [.int 1, .int i])
  | .tuple [] => some (.tuple [], .tuple [.int 3, .int 0])
  | .tuple [.str s] => some (.tuple [.str s], .tuple [.int 3, .int 2, .str s, .int 0])
  | .list [.str s] => some (.tuple [.str s], .tuple [.int 3, .int 2, .str s, .int 0])
  | _ => none
def rRead : List PyData → PyData → Prop := fun ds d => ∃ x w k, ds = [x] ∧ readW x = some (w, k) ∧ d = .tuple [w, k]
def rBuilt : List PyData → PyData → Prop := fun ds d => ∃ s, ds = [.list [.int 3, .int 2, .str s, .int 0]] ∧ d = .tuple [.str s]
abbrev nRead : List Str := ["thing", "flat", "around", "row", "at", "has_list", "part"]
theorem scRead : FnScope nRead ["thing"] (defScope sReadWord) := ⟨rfl, rfl, rfl, by decide +kernel, rfl, by decide +kernel, by decide +kernel⟩
abbrev nBuilt : List Str := ["flat", "built", "at", "mark", "done"]
theorem scBuilt : FnScope nBuilt ["flat"] (defScope sBuilt) := ⟨rfl, rfl, rfl, by decide +kernel, rfl, by decide +kernel, by decide +kernel⟩
/-- the module's numbers -/
structure Cs (mg : Str → Option Value) : Prop where
  deepest : ∃ t, mg "DEEPEST" = some (.int 5000 t)
  end_ : ∃ t, mg "END_MARK" = some (.int 0 t)
  int_ : ∃ t, mg "INTEGER_MARK" = some (.int 1 t)
  str_ : ∃ t, mg "STRING_MARK" = some (.int 2 t)
  tup_ : ∃ t, mg "TUPLE_MARK" = some (.int 3 t)
theorem kit_str (K : PySem.W.Frag) : ∀ d, PySem.W.kitOne K (.type (tyN d)) (.type "str") = some (match d with | .str _ => true | _ => false)
  | .none => rfl
  | .bool _ => rfl
  | .int _ => rfl
  | .str _ => rfl
  | .list _ => rfl
  | .tuple _ => rfl
  | .dict _ => rfl
theorem kit_list (K : PySem.W.Frag) : ∀ d, PySem.W.kitOne K (.type (tyN d)) (.type "list") = some (match d with | .list _ => true | _ => false)
  | .none => rfl
  | .bool _ => rfl
  | .int _ => rfl
  | .str _ => rfl
  | .list _ => rfl
  | .tuple _ => rfl
  | .dict _ => rfl
theorem kit_seq2 (K : PySem.W.Frag) : ∀ d, PySem.W.kitAny K (.type (tyN d)) [.type "tuple", .type "list"] = some (match d with | .list _ => true | .tuple _ => true | _ => false)
  | .none => rfl
  | .bool _ => rfl
  | .int _ => rfl
  | .str _ => rfl
  | .list _ => rfl
  | .tuple _ => rfl
  | .dict _ => rfl
section
variable {P : Program} {w : World} {K : PySem.W.Frag} {mg : Str → Option Value} {base : Heap}
theorem read_body : (defBody sReadWord).length = 10 := by decide +kernel
theorem ok_built {f : Addr} {fd : FuncData} (F : Fun K "_built" "_built" sBuilt f fd) (B : Bl mg) (C : Cs mg) : FnOk P w K mg base CX0 1 f fd ["flat"] (spP 1 rBuilt) := by
  refine F.ok scBuilt (fun vs H Q E h => spP_len h) (fun cdv A outer s H vs Q E hr h => ?_)
  obtain ⟨t0, c0⟩ := C.end_
  obtain ⟨t3, c3⟩ := C.tup_
  refine ⟨_, pss_cons (ps_set (i := 1) scBuilt.nd rfl (Or.inl rfl) (pe_lst (pa_cons (pe_lst pa_nil) pa_nil)))
    (pss_cons (ps_set (i := 2) scBuilt.nd rfl (Or.inl rfl) pe_int)
    (pss_cons (ps_while PassesOwn.never (pt_cmpR op_lt (pv 2) (pe_callB call_len_seq (by rfl) B.len PySem.boot_len (pa_cons (pv 0) pa_nil)) (nomark _))
      (pss_cons (ps_set (i := 3) scBuilt.nd rfl (Or.inl rfl) (pe_ix ix_list (pv 0) (pv 2) (fun _ _ => rfl)))
      (pss_cons (ps_if (pt_cmpR op_eq (pv 3) (pe_glob (v := .int 3) (by rfl) c3 ⟨_, rfl⟩) (nomark _))
        (pss_one (ps_expr (pe_bm PySem.F.plainAttrs_list PySem.F.slot_list_append PySem.F.type_list_append mt_append (pv 1) (pa_cons (pe_lst pa_nil) pa_nil))))
        (pss_one (ps_if (pt_cmpR op_eq (pv 3) (pe_glob (v := .int 0) (by rfl) c0 ⟨_, rfl⟩) (nomark _))
          (pss_cons (ps_set (i := 4) scBuilt.nd rfl (Or.inl rfl) (pe_callTy call_tuple_of (by rfl) B.tuple (by decide +kernel) (pa_cons (pe_bm0 PySem.F.plainAttrs_list PySem.F.slot_list_pop PySem.F.type_list_pop mt_pop (pv 1)) pa_nil)))
          (pss_one (ps_expr (pe_bm PySem.F.plainAttrs_list PySem.F.slot_list_append PySem.F.type_list_append mt_append (pe_ix ix_list (pv 1) (pe_un un_neg pe_int) (fun _ _ => rfl)) (pa_cons (pv 4) pa_nil)))))
          (pss_cons (ps_aug (i := 2) scBuilt.nd rfl (Or.inl rfl) pe_int ip_add)
          (pss_one (ps_expr (pe_bm PySem.F.plainAttrs_list PySem.F.slot_list_append PySem.F.type_list_append mt_append (pe_ix ix_list (pv 1) (pe_un un_neg pe_int) (fun _ _ => rfl)) (pa_cons (pe_ix ix_list (pv 0) (pv 2) (fun _ _ => rfl)) pa_nil))))))))
      (pss_one (ps_aug (i := 2) scBuilt.nd rfl (Or.inl rfl) pe_int ip_add)))))
    (pss_one (ps_ret (pe_ix ix_list (pe_ix ix_list (pv 1) pe_int (fun _ _ => rfl)) pe_int (fun _ _ => rfl)))))), ?_⟩
  obtain ⟨Bb, ds, d, e, hv, hn, hf, q⟩ := h
  obtain ⟨z, rfl, rfl⟩ := hf
  obtain ⟨v, rfl, hx⟩ := tp1 hv
  have s0 := Bs.start e
  -- built = [[]]
  refine ⟨Nat.zero_le _, fun q1 hq1 => ⟨by show 1 ≤ sizeLine; decide, fun p hp => ?_⟩⟩
  have n1p : q1 ≠ p := fun z => by rw [z, upd_same] at hp; cases hp
  have hp0 : H p = none := by rw [upd_ne n1p.symm] at hp; exact hp
  have b1 : Bs Bb H Bb (upd (upd H q1 (.lst [])) p (.lst [.ref q1])) := (s0.new hq1).mut hp0 (fresh_back e hp0)
  have Bq1 : Bb q1 = none := fresh_back e hq1
  have Bp : Bb p = none := fresh_back e hp0
  have hxa : ∃ a, v = .ref a ∧ Bb a = some (.lst [.int 3, .int 2, .str z, .int 0]) := by
    cases hx with
    | lst ha hs =>
      cases hs with
      | cons a1 hs =>
        cases hs with
        | cons a2 hs =>
          cases hs with
          | cons a3 hs =>
            cases hs with
            | cons a4 hs =>
              cases hs
              cases a1
              cases a2
              cases a3
              cases a4
              exact ⟨_, rfl, ha⟩
  obtain ⟨a, rfl, hBa⟩ := hxa
  refine q_asgD b1.c ed_int fun v2 H2 e2 h2 => ?_
  cases h2
  have Lp : H2 p = some (.lst [.ref q1]) := e2 _ _ upd_same
  have Lq : H2 q1 = some (.lst []) := e2 _ _ (by rw [upd_ne n1p]; exact upd_same)
  have b2 := b1.keep e2
  have lenE : ∀ (σ : L2.St) (Hc : Hp) (k : Int), Ex Bb Hc → σ[2]? = some (some (.int k)) → σ[0]? = some (some (.ref a)) → EvT (tTest (tOp (rI0 fun i j => .bl (decide (i < j))) (tVar 2) (tCB (fun xs H Q => ∃ p ys, xs = [V.ref p] ∧ (SqL K H p ys ∨ SqT K H p ys) ∧ Q (.int ys.length) H) (tCons (tVar 0) tNil)))) σ Hc (decide (k < 4)) := fun σ Hc k ec h2 h0 =>
    (et_D (ed_op (ed_var h2 (.int k)) (ed_cb (es_cons (ed_var h0 hx) es_nil) (rc_lenL (K := K))) (rd_I0b (g := fun i j => decide (i < j))))).mono ec
  have clr : ∀ {Hc : Hp} {r : Addr} {o : HO}, Ex Bb Hc → Bb r = none → Ex Bb (upd Hc r o) := fun ec hr => Ex.mut ec hr
  refine s_unr 5 ⟨true, lenE _ _ 0 b2.c rfl rfl, fun _ H3 e3 => ?_, fun h => by cases h⟩
  have ix : ∀ (σ : L2.St) (i : Int) (j : Nat) (d : PyData), σ[2]? = some (some (.int i)) → σ[0]? = some (some (.ref a)) → atI [PyData.int 3, .int 2, .str z, .int 0] i = some d → EvD (tOp (rIxL K) (tVar 0) (tVar 2)) σ Bb d := fun σ i j d h2 h0 ha => ed_op (ed_var h0 hx) (ed_var h2 (.int i)) (rd_ixL ha)
  -- a beginning
  refine q_asgD (b2.c.trans e3) (ix _ 0 0 (.int 3) rfl rfl rfl) fun v3 H4 e4 h4 => ?_
  cases h4
  have c4 := (b2.c.trans e3).trans e4
  refine q_ifD c4 (b := true) (et_is (et_D (ed_op (ed_var (i := 3) rfl (.int 3)) ed_int rd_eqI)) rfl) (fun _ H5 e5 => ?_) (fun h => by cases h)
  have Lp5 : H5 p = some (.lst [.ref q1]) := e5 _ _ (e4 _ _ (e3 _ _ Lp))
  have Lq5 : H5 q1 = some (.lst []) := e5 _ _ (e4 _ _ (e3 _ _ Lq))
  refine ⟨.ref p, rfl, Or.inl ⟨rfl, _, sq_of Lp5⟩, Nat.zero_le _, fun q2 hq2 => ⟨p, [.ref q1], .ref q2, rfl, rfl, ?_, by show 1 < sizeLine; decide, ?_⟩⟩
  · rw [upd_ne (ne_of_none Lp5 hq2)]
    exact Lp5
  have n2p : q2 ≠ p := fun z => by rw [z, Lp5] at hq2; cases hq2
  have n21 : q2 ≠ q1 := fun z => by rw [z, Lq5] at hq2; cases hq2
  have c5 := c4.trans e5
  have Bq2 : Bb q2 = none := fresh_back c5 hq2
  refine ⟨.int 0, rfl, 0, 1, rfl, rfl, ?_⟩
  have b5 : Bs Bb H Bb (upd (upd H5 q2 (.lst [])) p (.lst ([.ref q1] ++ [.ref q2]))) := (((b2.keep e3).keep e4).keep e5 |>.new hq2).mut hp0 Bp
  have Mp : upd (upd H5 q2 (.lst [])) p (.lst ([.ref q1] ++ [.ref q2])) p = some (.lst [.ref q1, .ref q2]) := upd_same
  have Mq1 : upd (upd H5 q2 (.lst [])) p (.lst ([.ref q1] ++ [.ref q2])) q1 = some (.lst []) := by rw [upd_ne n1p, upd_ne n21.symm]; exact Lq5
  have Mq2 : upd (upd H5 q2 (.lst [])) p (.lst ([.ref q1] ++ [.ref q2])) q2 = some (.lst []) := by rw [upd_ne n2p]; exact upd_same
  have Hq1 : H q1 = none := hq1
  have Hq2 : H q2 = none := fresh_back ((((b2.keep e3).keep e4).keep e5).a) hq2
  generalize upd (upd H5 q2 (.lst [])) p (.lst ([.ref q1] ++ [.ref q2])) = G1 at b5 Mp Mq1 Mq2 ⊢
  -- a text
  refine ⟨true, lenE _ _ 1 b5.c rfl rfl, fun _ H6 e6 => ?_, fun h => by cases h⟩
  have b6 := b5.keep e6
  refine q_asgD b6.c (ix _ 1 1 (.int 2) rfl rfl rfl) fun v4 H7 e7 h7 => ?_
  cases h7
  have b7 := b6.keep e7
  refine q_ifD b7.c (b := false) (et_is (et_D (ed_op (ed_var (i := 3) rfl (.int 2)) ed_int rd_eqI)) rfl) (fun h => by cases h) (fun _ H8 e8 => ?_)
  have b8 := b7.keep e8
  refine s_ifD b8.c (b := false) (et_is (et_D (ed_op (ed_var (i := 3) rfl (.int 2)) ed_int rd_eqI)) rfl) (fun h => by cases h) (fun _ H9 e9 => ?_)
  have b9 := b8.keep e9
  refine ⟨.int 1, rfl, 1, 1, rfl, rfl, ?_⟩
  have Mp9 : H9 p = some (.lst [.ref q1, .ref q2]) := e9 _ _ (e8 _ _ (e7 _ _ (e6 _ _ Mp)))
  have Mq19 : H9 q1 = some (.lst []) := e9 _ _ (e8 _ _ (e7 _ _ (e6 _ _ Mq1)))
  have Mq29 : H9 q2 = some (.lst []) := e9 _ _ (e8 _ _ (e7 _ _ (e6 _ _ Mq2)))
  refine ⟨.ref p, rfl, 1, rfl, p, _, -1, .ref q2, rfl, rfl, sq_of Mp9, rfl, Or.inl ⟨rfl, _, sq_of Mq29⟩, ?_⟩
  refine ix [some (.ref a), some (.ref p), some (.int 2), some (.int 2), none] 2 2 (.str z) rfl rfl rfl H9 b9.c _ fun v5 H10 e10 h10 => ?_
  cases h10
  refine ⟨q2, [], .str z, rfl, rfl, e10 _ _ Mq29, by show 0 < sizeLine; decide, ?_⟩
  refine ⟨.int 2, rfl, 2, 1, rfl, rfl, ?_⟩
  have b10 : Bs Bb H Bb (upd H10 q2 (.lst ([] ++ [.str z]))) := (b9.keep e10).mut Hq2 Bq2
  have Np : upd H10 q2 (.lst ([] ++ [.str z])) p = some (.lst [.ref q1, .ref q2]) := by rw [upd_ne n2p.symm]; exact e10 _ _ Mp9
  have Nq1 : upd H10 q2 (.lst ([] ++ [.str z])) q1 = some (.lst []) := by rw [upd_ne n21.symm]; exact e10 _ _ Mq19
  have Nq2 : upd H10 q2 (.lst ([] ++ [.str z])) q2 = some (.lst [.str z]) := upd_same
  generalize upd H10 q2 (.lst ([] ++ [.str z])) = G2 at b10 Np Nq1 Nq2 ⊢
  -- an end
  refine ⟨true, lenE _ _ 3 b10.c rfl rfl, fun _ H11 e11 => ?_, fun h => by cases h⟩
  have b11 := b10.keep e11
  refine q_asgD b11.c (ix _ 3 3 (.int 0) rfl rfl rfl) fun v6 H12 e12 h12 => ?_
  cases h12
  have b12 := b11.keep e12
  refine q_ifD b12.c (b := false) (et_is (et_D (ed_op (ed_var (i := 3) rfl (.int 0)) ed_int rd_eqI)) rfl) (fun h => by cases h) (fun _ H13 e13 => ?_)
  have b13 := b12.keep e13
  refine s_ifD b13.c (b := true) (et_is (et_D (ed_op (ed_var (i := 3) rfl (.int 0)) ed_int rd_eqI)) rfl) (fun _ H14 e14 => ?_) (fun h => by cases h)
  have b14 := b13.keep e14
  have up14 : Ex G2 H14 := ((e11.trans e12).trans e13).trans e14
  refine ⟨.ref p, rfl, Or.inl ⟨rfl, _, sq_of (up14 _ _ Np)⟩, p, _, .ref q2, rfl, rfl, up14 _ _ Np, rfl, ?_⟩
  have b15 : Bs Bb H Bb (upd H14 p (.lst ([V.ref q1, .ref q2].dropLast))) := b14.mut hp0 Bp
  have Op : upd H14 p (.lst ([V.ref q1, .ref q2].dropLast)) p = some (.lst [.ref q1]) := upd_same
  have Oq1 : upd H14 p (.lst ([V.ref q1, .ref q2].dropLast)) q1 = some (.lst []) := by rw [upd_ne n1p]; exact up14 _ _ Nq1
  have Oq2 : upd H14 p (.lst ([V.ref q1, .ref q2].dropLast)) q2 = some (.lst [.str z]) := by rw [upd_ne n2p]; exact up14 _ _ Nq2
  generalize upd H14 p (.lst ([V.ref q1, .ref q2].dropLast)) = G3 at b15 Op Oq1 Oq2 ⊢
  refine ⟨q2, _, rfl, Or.inl ⟨sq_of Oq2, fun t ht => ?_⟩⟩
  have ntp : t ≠ p := fun z => by rw [z, Op] at ht; cases ht
  have nt1 : t ≠ q1 := fun z => by rw [z, Oq1] at ht; cases ht
  have Ht : H t = none := fresh_back b15.a ht
  have Bt : Bb t = none := fresh_back b15.c ht
  have b16 := b15.new (o := .tup [.str z]) ht
  refine ⟨.ref p, rfl, 1, rfl, p, _, -1, .ref q1, rfl, rfl, sq_of (by rw [upd_ne ntp.symm]; exact Op), rfl, Or.inl ⟨rfl, _, sq_of (show upd G3 t (.tup [.str z]) q1 = some (.lst []) by rw [upd_ne nt1.symm]; exact Oq1)⟩, .ref t, rfl, q1, [], .ref t, rfl, rfl, by rw [upd_ne nt1.symm]; exact Oq1, by show 0 < sizeLine; decide, ?_⟩
  refine ⟨.int 3, rfl, 3, 1, rfl, rfl, ?_⟩
  have b17 : Bs Bb H Bb (upd (upd G3 t (.tup [.str z])) q1 (.lst ([] ++ [.ref t]))) := b16.mut Hq1 Bq1
  have Pp : upd (upd G3 t (.tup [.str z])) q1 (.lst ([] ++ [.ref t])) p = some (.lst [.ref q1]) := by rw [upd_ne n1p.symm, upd_ne ntp.symm]; exact Op
  have Pq1 : upd (upd G3 t (.tup [.str z])) q1 (.lst ([] ++ [.ref t])) q1 = some (.lst [.ref t]) := upd_same
  have Pt : upd (upd G3 t (.tup [.str z])) q1 (.lst ([] ++ [.ref t])) t = some (.tup [.str z]) := by rw [upd_ne nt1]; exact upd_same
  generalize upd (upd G3 t (.tup [.str z])) q1 (.lst ([] ++ [.ref t])) = G4 at b17 Pp Pq1 Pt ⊢
  refine ⟨false, lenE _ _ 4 b17.c rfl rfl, (fun h => by cases h), fun _ H15 e15 => ?_⟩
  refine ⟨.ref p, rfl, p, _, 0, .ref q1, rfl, rfl, sq_of (e15 _ _ Pp), rfl, q1, _, 0, .ref t, rfl, rfl, sq_of (e15 _ _ Pq1), rfl, ?_⟩
  exact q _ H15 (b17.keep e15).a (.tup (gr_new Ht (e15 _ _ Pt)) (.cons (.str z) .nil))
end
end K50
set_option maxHeartbeats 4000000
namespace K50
open PySem PySem.Spec PyProof.Rows L2 Evl RZ Dl
def isS : PyData → Bool
  | .str _ => true
  | _ => false
theorem kit_strS (K : PySem.W.Frag) (d : PyData) : PySem.W.kitOne K (.type (tyN d)) (.type "str") = some (isS d) := by cases d <;> rfl
def isL : PyData → Bool
  | .list _ => true
  | _ => false
theorem kit_listS (K : PySem.W.Frag) (d : PyData) : PySem.W.kitOne K (.type (tyN d)) (.type "list") = some (isL d) := by cases d <;> rfl
theorem kit_seq2S (K : PySem.W.Frag) (d : PyData) : PySem.W.kitAny K (.type (tyN d)) [.type "tuple", .type "list"] = some (isR d) := by cases d <;> rfl
section
variable {P : Program} {w : World} {K : PySem.W.Frag} {mg : Str → Option Value} {base : Heap}
theorem rd_ixsL {ds : List PyData} {d : PyData} {i : Int} (h : atI ds i = some d) : RD (rIx K) (.list ds) (.int i) d := fun H H1 v w e hv hw Q q => .inl (rd_ixL (K := K) h H H1 v w e hv hw Q q)
theorem rd_ixsT {ds : List PyData} {d : PyData} {i : Int} (h : atI ds i = some d) : RD (rIx K) (.tuple ds) (.int i) d := fun H H1 v w e hv hw Q q => .inr (.inl (rd_ixT (K := K) h H H1 v w e hv hw Q q))
theorem q_whenD {σ : L2.St} {B Hc : Hp} {t : TT} {tu tz : TS} {D : Ends} {b : Bool} (c : Ex B Hc) (h : EvT t σ B b) (h1 : b = true → ∀ Hn, Ex Hc Hn → tu { D with nx := tz D } σ Hn) (h2 : b = false → ∀ Hn, Ex Hc Hn → tz D σ Hn) : tSeq (tIfS t tu tNext) tz D σ Hc := q_ifD c h h1 h2
theorem ok_read {f : Addr} {fd : FuncData} (F : Fun K "read_word" "read_word" sReadWord f fd) (B : Bl mg) (hStr : mg "str" = none) (C : Cs mg) (I : CallF P w K mg base 1 "is_integer" ["thing"] (spP 1 rInteger)) (R : CallF P w K mg base 1 "is_row" ["thing"] (spP 1 rRow))
    (U : CallF P w K mg base 1 "_built" ["flat"] (spP 1 rBuilt)) : FnOk P w K mg base CX0 2 f fd ["thing"] (spP 1 rRead) := by
  refine F.ok scRead (fun vs H Q E h => spP_len h) (fun cdv A outer s H vs Q E hr h => ?_)
  obtain ⟨tD, cD⟩ := C.deepest
  obtain ⟨t0, c0⟩ := C.end_
  obtain ⟨t1, c1⟩ := C.int_
  obtain ⟨t2, c2⟩ := C.str_
  obtain ⟨t3, c3⟩ := C.tup_
  obtain ⟨fI, dI, oI, gI, kI, bI⟩ := I
  obtain ⟨fR, dR, oR, gR, kR, bR⟩ := R
  obtain ⟨fU, dU, oU, gU, kU, bU⟩ := U
  have m1 := hr.mono (j := 1) (by decide)
  refine ⟨_, pss_cons (ps_if (pt_val (pe_callB call_isi (by rfl) B.isinstance PyProof.Rows.boot_isinstance (pa_cons (pv 0) (pa_cons (pe_bltn (v := .ty "str") (u := .type "str") (by rfl) hStr (by decide +kernel) rfl) pa_nil))))
      (pss_one (ps_ret (pe_tup (pa_cons (pv 0) (pa_cons (pe_tup (pa_cons (pe_glob (v := .int 2) (by rfl) c2 ⟨_, rfl⟩) (pa_cons (pv 0) pa_nil))) pa_nil))))) pss_nil)
    (pss_cons (ps_if (pt_val (pe_call oI m1 (by rfl) gI kI bI .nil pass0 (pa_cons (pv 0) pa_nil)))
      (pss_one (ps_ret (pe_tup (pa_cons (pv 0) (pa_cons (pe_tup (pa_cons (pe_glob (v := .int 1) (by rfl) c1 ⟨_, rfl⟩) (pa_cons (pv 0) pa_nil))) pa_nil))))) pss_nil)
    (pss_cons (ps_if (pt_not (pt_val (pe_call oR m1 (by rfl) gR kR bR .nil pass0 (pa_cons (pv 0) pa_nil)))) (pss_one (ps_ret pe_non)) pss_nil)
    (pss_cons (ps_set (i := 1) scRead.nd rfl (Or.inl rfl) (pe_lst (pa_cons (pe_glob (v := .int 3) (by rfl) c3 ⟨_, rfl⟩) pa_nil)))
    (pss_cons (ps_set (i := 2) scRead.nd rfl (Or.inl rfl) (pe_lst pa_nil))
    (pss_cons (ps_set (i := 3) scRead.nd rfl (Or.inl rfl) (pv 0))
    (pss_cons (ps_set (i := 4) scRead.nd rfl (Or.inl rfl) pe_int)
    (pss_cons (ps_set (i := 5) scRead.nd rfl (Or.inl rfl) (pe_callB call_isi (by rfl) B.isinstance PyProof.Rows.boot_isinstance (pa_cons (pv 0) (pa_cons (pe_bltn (v := .ty "list") (u := .type "list") (by rfl) B.list (by decide +kernel) rfl) pa_nil))))
    (pss_cons (ps_while PassesOwn.never (pt_cmpR op_lt (pe_callB call_len_seq (by rfl) B.len PySem.boot_len (pa_cons (pv 2) pa_nil)) (pe_glob (v := .int 5000) (by rfl) cD ⟨_, rfl⟩) (nomark _))
      (pss_cons (ps_if (pt_cmpR op_eq (pv 4) (pe_callB call_len_seq (by rfl) B.len PySem.boot_len (pa_cons (pv 3) pa_nil)) (nomark _))
        (pss_cons (ps_expr (pe_bm PySem.F.plainAttrs_list PySem.F.slot_list_append PySem.F.type_list_append mt_append (pv 1) (pa_cons (pe_glob (v := .int 0) (by rfl) c0 ⟨_, rfl⟩) pa_nil)))
        (pss_cons (ps_if (pt_not (pt_truth (pv 2) (fun _ => rfl)))
          (pss_one (ps_ret (pe_tup (pa_cons (pe_ifExp (pt_val (pv 5)) (pe_call oU m1 (by rfl) gU kU bU .nil pass0 (pa_cons (pv 1) pa_nil)) (pv 0)) (pa_cons (pe_callTy call_tuple_of (by rfl) B.tuple (by decide +kernel) (pa_cons (pv 1) pa_nil)) pa_nil)))))
          pss_nil) pss_never)) pss_nil)
      (pss_cons (ps_set (i := 6) scRead.nd rfl (Or.inl rfl) (pe_ix ix_seq (pv 3) (pv 4) (fun _ _ => rfl)))
      (pss_cons (ps_aug (i := 4) scRead.nd rfl (Or.inl rfl) pe_int ip_add)
      (pss_one (ps_if (pt_val (pe_callB call_isiT (by rfl) B.isinstance PyProof.Rows.boot_isinstance (pa_cons (pv 6) (pa_cons (pe_tup (pa_cons (pe_bltn (v := .ty "tuple") (u := .type "tuple") (by rfl) B.tuple (by decide +kernel) rfl) (pa_cons (pe_bltn (v := .ty "list") (u := .type "list") (by rfl) B.list (by decide +kernel) rfl) pa_nil))) pa_nil))))
        pss_never
        (pss_one (ps_if (pt_val (pe_callB call_isi (by rfl) B.isinstance PyProof.Rows.boot_isinstance (pa_cons (pv 6) (pa_cons (pe_bltn (v := .ty "str") (u := .type "str") (by rfl) hStr (by decide +kernel) rfl) pa_nil))))
          (pss_one (ps_aug (i := 1) scRead.nd rfl (Or.inl rfl) (pe_tup (pa_cons (pe_glob (v := .int 2) (by rfl) c2 ⟨_, rfl⟩) (pa_cons (pv 6) pa_nil))) ip_extT))
          pss_never))))))))
    (pss_one (ps_ret pe_non)))))))))), ?_⟩
  obtain ⟨Bb, ds, d, e, hv, hn, hf, q⟩ := h
  obtain ⟨x, wv, kv, rfl, hrw, rfl⟩ := hf
  obtain ⟨v, rfl, hx⟩ := tp1 hv
  have s0 := Bs.start e
  refine q_whenD s0.c (b := isS x) (et_BD (ed_isi (ed_var rfl hx) fun K => kit_strS K x)) (fun hb H1 e1 => ?_) (fun hb H1 e1 => ?_)
  · cases x with
    | str z =>
      obtain ⟨rfl, rfl⟩ : .str z = wv ∧ PyData.tuple [.int 2, .str z] = kv := by
        have := Option.some.inj hrw
        exact ⟨congrArg Prod.fst this, congrArg Prod.snd this⟩
      have b1 := s0.keep e1
      exact s_retD b1.c (ed_tup (es_cons (ed_var rfl hx) (es_cons (ed_tup (es_cons ed_int (es_cons (ed_var rfl hx) es_nil)) (show 2 ≤ 100000 by decide)) es_nil)) (show 2 ≤ 100000 by decide)) fun v2 H2 e2 h2 => q v2 H2 (b1.a.trans e2) (Tp.ex (b1.step e2).d _ _ h2)
    | _ => cases hb
  have b1 := s0.keep e1
  refine q_whenD b1.c (b := isI x) (et_BD (ed_call (es_cons (ed_var rfl hx) es_nil) rfl ⟨x, rfl, rfl⟩)) (fun hb2 H2 e2 => ?_) (fun hb2 H2 e2 => ?_)
  · cases x with
    | int z =>
      obtain ⟨rfl, rfl⟩ : .int z = wv ∧ PyData.tuple [.int 1, .int z] = kv := by
        have := Option.some.inj hrw
        exact ⟨congrArg Prod.fst this, congrArg Prod.snd this⟩
      have b2 := b1.keep e2
      exact s_retD b2.c (ed_tup (es_cons (ed_var rfl hx) (es_cons (ed_tup (es_cons ed_int (es_cons (ed_var rfl hx) es_nil)) (show 2 ≤ 100000 by decide)) es_nil)) (show 2 ≤ 100000 by decide)) fun v2 H2 e2 h2 => q v2 H2 (b2.a.trans e2) (Tp.ex (b2.step e2).d _ _ h2)
    | _ => cases hb2
  have b2 := b1.keep e2
  -- a row of one text, or of nothing
  have alt : (x = .tuple [] ∧ wv = .tuple [] ∧ kv = .tuple [.int 3, .int 0]) ∨ ∃ z, (x = .tuple [.str z] ∨ x = .list [.str z]) ∧ wv = .tuple [.str z] ∧ kv = .tuple [.int 3, .int 2, .str z, .int 0] := by
    unfold readW at hrw
    split at hrw
    · cases hb
    · cases hb2
    · obtain ⟨rfl, rfl⟩ := Prod.mk.inj (Option.some.inj hrw)
      exact .inl ⟨rfl, rfl, rfl⟩
    · obtain ⟨rfl, rfl⟩ := Prod.mk.inj (Option.some.inj hrw)
      exact .inr ⟨_, .inl rfl, rfl, rfl⟩
    · obtain ⟨rfl, rfl⟩ := Prod.mk.inj (Option.some.inj hrw)
      exact .inr ⟨_, .inr rfl, rfl, rfl⟩
    · cases hrw
  rcases alt with ⟨rfl, rfl, rfl⟩ | ⟨z, hxz, rfl, rfl⟩
  · refine q_whenD b2.c (b := false) (et_is (et_not (et_BD (ed_call (es_cons (ed_var rfl hx) es_nil) rfl ⟨_, rfl, rfl⟩))) rfl) (fun hb3 H3 e3 => by cases hb3) (fun hb3 H3 e3 => ?_)
    have b3 := b2.keep e3
    refine ⟨by show 1 ≤ sizeLine; decide, fun p hp => ?_⟩
    have b4 := b3.new (o := .lst [.int 3]) hp
    have o4 : Own H Bb (upd H3 p (.lst [.int 3])) p [.int 3] := ⟨fresh_back b3.a hp, fresh_back b3.c hp, _, upd_same, .cons (.int 3) .nil⟩
    refine ⟨Nat.zero_le _, fun r hr0 => ?_⟩
    have npr : p ≠ r := fun z => by rw [← z, upd_same] at hr0; cases hr0
    have b5 := b4.new (o := .lst []) hr0
    have o5 := o4.other (q := r) (o := .lst []) npr
    have Rr : upd (upd H3 p (.lst [.int 3])) r (.lst []) r = some (.lst []) := upd_same
    generalize upd (upd H3 p (.lst [.int 3])) r (.lst []) = G at b5 o5 Rr ⊢
    refine ⟨v, rfl, ?_⟩
    refine q_asgD b5.c (ed_is (ed_isi (ed_var rfl hx) fun K => kit_listS K _) rfl) fun v6 H6 e6 h6 => ?_
    cases h6
    have b6 := b5.keep e6
    have R6 := e6 _ _ Rr
    have o6 : Own H Bb H6 p [.int 3] := by
      obtain ⟨g1, g2, vs, g3, g4⟩ := o5
      exact ⟨g1, g2, vs, e6 _ _ g3, g4⟩
    have lenA : ∀ (σ : L2.St) (Hc : Hp), σ[2]? = some (some (.ref r)) → Hc r = some (.lst []) → EvT (tTest (tOp (rI0 fun i j => .bl (decide (i < j))) (tCB (Dl.rLen K) (tCons (tVar 2) tNil)) (tC (.int 5000)))) σ Hc true := fun σ Hc h hc =>
      et_is (et_D (ed_op (ed_cb (es_cons (ed_var h (.lst hc .nil)) es_nil) (rc_lenL (K := K))) ed_int (rd_I0b (g := fun i j => decide (i < j))))) rfl
    refine s_unr 1 ⟨true, lenA _ _ rfl R6, fun _ H7 e7 => ?_, fun h => by cases h⟩
    have b7 := b6.keep e7
    refine q_whenD b7.c (b := true) (et_is (et_D (ed_op (ed_var rfl (.int 0)) (ed_cb (es_cons (ed_var (i := 3) rfl hx) es_nil) (rc_lenT (K := K))) rd_eqI)) rfl) (fun _ H8 e8 => ?_) (fun h => by cases h)
    have b8 := b7.keep e8
    have up8 := e7.trans e8
    have o8 : Own H Bb H8 p [.int 3] := by
      obtain ⟨g1, g2, vs, g3, g4⟩ := o6
      exact ⟨g1, g2, vs, up8 _ _ g3, g4⟩
    refine q_appD b8 rfl o8 ed_int (show 1 < 100000 by decide) fun Hc Hd ec kc oc bc => ?_
    have Rd : Hd r = some (.lst []) := kc r _ npr.symm (ec _ _ (up8 _ _ R6))
    refine ⟨.ref r, rfl, false, .inl ⟨[], sq_of Rd, rfl⟩, ?_⟩
    obtain ⟨f1, f2, f3⟩ := oc.freeze bc
    have hx14 := Tp.ex ((gr_up b8.c).trans f3) _ _ hx
    have ret : EvD (tTup (tCons (tIf (tB (tVar 5)) (tCall (spP 1 rBuilt) [] E0 (tCons (tVar 1) tNil)) (tVar 0)) (tCons (tCB (rTupOf K) (tCons (tVar 1) tNil)) tNil))) [some v, some (.ref p), some (.ref r), some v, some (.int 0), some (.bl false), none] _ (.tuple [.tuple [], .tuple [.int 3, .int 0]]) :=
      ed_tup (es_cons (ed_if (b := false) (et_BD (ed_var (i := 5) rfl (.bl _))) (fun z => by cases z) (fun _ => ed_var (i := 0) rfl hx14)) (es_cons (ed_cb (es_cons (ed_var (i := 1) rfl f2) es_nil) (rc_tupL (K := K))) es_nil)) (show 2 ≤ 100000 by decide)
    exact s_retD f1.c ret fun v2 H2 e2 h2 => q v2 H2 (f1.a.trans e2) (Tp.ex (f1.step e2).d _ _ h2)
  have hR : isR x = true := by rcases hxz with rfl | rfl <;> rfl
  refine q_whenD b2.c (b := !isR x) (et_not (et_BD (ed_call (es_cons (ed_var rfl hx) es_nil) rfl ⟨x, rfl, rfl⟩))) (fun hb3 H3 e3 => by rw [hR] at hb3; cases hb3) (fun hb3 H3 e3 => ?_)
  have b3 := b2.keep e3
  -- flat = [3]
  refine ⟨by show 1 ≤ sizeLine; decide, fun p hp => ?_⟩
  have b4 := b3.new (o := .lst [.int 3]) hp
  have o4 : Own H Bb (upd H3 p (.lst [.int 3])) p [.int 3] := ⟨fresh_back b3.a hp, fresh_back b3.c hp, _, upd_same, .cons (.int 3) .nil⟩
  refine ⟨Nat.zero_le _, fun r hr0 => ?_⟩
  have npr : p ≠ r := fun z => by rw [← z, upd_same] at hr0; cases hr0
  have b5 := b4.new (o := .lst []) hr0
  have o5 := o4.other (q := r) (o := .lst []) npr
  have Rr : upd (upd H3 p (.lst [.int 3])) r (.lst []) r = some (.lst []) := upd_same
  have Br : Bb r = none := fresh_back b4.c hr0
  have Hr : H r = none := fresh_back b4.a hr0
  generalize upd (upd H3 p (.lst [.int 3])) r (.lst []) = G at b5 o5 Rr ⊢
  refine ⟨v, rfl, ?_⟩
  refine q_asgD b5.c (ed_isi (ed_var rfl hx) fun K => kit_listS K x) fun v6 H6 e6 h6 => ?_
  cases h6
  have b6 := b5.keep e6
  have R6 := e6 _ _ Rr
  have o6 : Own H Bb H6 p [.int 3] := by
    obtain ⟨g1, g2, vs, g3, g4⟩ := o5
    exact ⟨g1, g2, vs, e6 _ _ g3, g4⟩
  have lenR : ∀ σ : L2.St, σ[3]? = some (some v) → ∀ B' : Hp, Tp B' v x → EvD (tCB (Dl.rLen K) (tCons (tVar 3) tNil)) σ B' (.int 1) := fun σ h B' hx' => by
    rcases hxz with rfl | rfl
    · exact ed_cb (es_cons (ed_var h hx') es_nil) rc_lenT
    · exact ed_cb (es_cons (ed_var h hx') es_nil) rc_lenL
  have lenA : ∀ (σ : L2.St) (Hc : Hp), σ[2]? = some (some (.ref r)) → Hc r = some (.lst []) → EvT (tTest (tOp (rI0 fun i j => .bl (decide (i < j))) (tCB (Dl.rLen K) (tCons (tVar 2) tNil)) (tC (.int 5000)))) σ Hc true := fun σ Hc h hc =>
    et_is (et_D (ed_op (ed_cb (es_cons (ed_var h (.lst hc .nil)) es_nil) (rc_lenL (K := K))) ed_int (rd_I0b (g := fun i j => decide (i < j))))) rfl
  refine s_unr 2 ⟨true, lenA _ _ rfl R6, fun _ H7 e7 => ?_, fun h => by cases h⟩
  have b7 := b6.keep e7
  -- the text
  refine q_whenD b7.c (b := false) (et_is (et_D (ed_op (ed_var rfl (.int 0)) (lenR _ rfl _ hx) rd_eqI)) rfl) (fun h => by cases h) (fun _ H8 e8 => ?_)
  have b8 := b7.keep e8
  have ixR : ∀ σ : L2.St, σ[3]? = some (some v) → σ[4]? = some (some (.int 0)) → EvD (tOp (rIx K) (tVar 3) (tVar 4)) σ Bb (.str z) := fun σ h h4 => by
    rcases hxz with rfl | rfl
    · exact ed_op (ed_var h hx) (ed_var h4 (.int 0)) (rd_ixsT rfl)
    · exact ed_op (ed_var h hx) (ed_var h4 (.int 0)) (rd_ixsL rfl)
  refine q_asgD b8.c (ixR _ rfl rfl) fun v9 H9 e9 h9 => ?_
  cases h9
  have b9 := b8.keep e9
  refine ⟨.int 0, rfl, 0, 1, rfl, rfl, ?_⟩
  refine s_ifD b9.c (b := false) (et_is (et_BD (ed_isi2 (ed_var (i := 6) rfl (.str z)) fun K => kit_seq2S K (.str z))) rfl) (fun h => by cases h) (fun _ H10 e10 => ?_)
  have b10 := b9.keep e10
  refine s_ifD b10.c (b := true) (et_is (et_BD (ed_isi (ed_var (i := 6) rfl (.str z)) fun K => kit_strS K (.str z))) rfl) (fun _ H11 e11 => ?_) (fun h => by cases h)
  have b11 := b10.keep e11
  have up : Ex H6 H11 := (((e7.trans e8).trans e9).trans e10).trans e11
  have o11 : Own H Bb H11 p [.int 3] := by
    obtain ⟨g1, g2, vs, g3, g4⟩ := o6
    exact ⟨g1, g2, vs, up _ _ g3, g4⟩
  refine s_augT b11 rfl rfl o11 (ed_tup (es_cons ed_int (es_cons (ed_var (i := 6) rfl (.str z)) es_nil)) (show 2 ≤ 100000 by decide)) (show 1 + 2 ≤ 100000 by decide) fun Ha Hb ea ka oa ba => ?_
  have Rb : Hb r = some (.lst []) := ka r _ npr.symm (ea _ _ (up _ _ R6))
  -- the end
  refine ⟨true, lenA _ _ rfl Rb, fun _ H12 e12 => ?_, fun h => by cases h⟩
  have b12 := ba.step e12
  have o12 := oa.step ba.c e12
  have hx12 : Tp (gr (gr Bb H11 Ha) Hb H12) v x := Tp.ex ((gr_up b11.c).trans (gr_up ba.c)) _ _ hx
  refine q_whenD b12.c (b := true) (et_is (et_D (ed_op (ed_var rfl (.int 1)) (lenR _ rfl _ hx12) rd_eqI)) rfl) (fun _ H13 e13 => ?_) (fun h => by cases h)
  have b13 := b12.step e13
  have o13 := o12.step b12.c e13
  refine q_appD b13 rfl o13 ed_int (show 3 < 100000 by decide) fun Hc Hd ec kc oc bc => ?_
  have R13 : H13 r = some (.lst []) := e13 _ _ (e12 _ _ Rb)
  have Rd : Hd r = some (.lst []) := kc r _ npr.symm (ec _ _ R13)
  refine ⟨.ref r, rfl, false, .inl ⟨[], sq_of Rd, rfl⟩, ?_⟩
  obtain ⟨f1, f2, f3⟩ := oc.freeze bc
  have hx14 := Tp.ex (((gr_up b12.c).trans (gr_up b13.c)).trans f3) _ _ hx12
  have ret : EvD (tTup (tCons (tIf (tB (tVar 5)) (tCall (spP 1 rBuilt) [] E0 (tCons (tVar 1) tNil)) (tVar 0)) (tCons (tCB (rTupOf K) (tCons (tVar 1) tNil)) tNil))) [some v, some (.ref p), some (.ref r), some v, some (.int 1), some (.bl (isL x)), some (.str z)] _ (.tuple [.tuple [.str z], .tuple [.int 3, .int 2, .str z, .int 0]]) :=
    ed_tup (es_cons (ed_if (b := isL x) (et_BD (ed_var (i := 5) rfl (.bl _))) (fun _ => ed_call (es_cons (ed_var (i := 1) rfl f2) es_nil) rfl ⟨z, rfl, rfl⟩) (fun hl => ?_)) (es_cons (ed_cb (es_cons (ed_var (i := 1) rfl f2) es_nil) (rc_tupL (K := K))) es_nil)) (show 2 ≤ 100000 by decide)
  · exact s_retD f1.c ret fun v2 H2 e2 h2 => q v2 H2 (f1.a.trans e2) (Tp.ex (f1.step e2).d _ _ h2)
  · rcases hxz with rfl | rfl
    · exact ed_var (i := 0) rfl hx14
    · cases hl
end
end K50
set_option maxHeartbeats 4000000
namespace K50
open PySem PySem.Spec PyProof.Rows L2 RZ
/-! ### the stream that the law draws from: cells left, a rest, a count, a seed -/
structure StreamAt (H : Hp) (p l : Addr) (N : Int) : Prop where
  ex : ∃ (ns : List Int) (a b c : Int), H p = some (.lst [.ref l, .int a, .int b, .int c]) ∧ H l = some (.lst (ns.map V.int)) ∧ ns.length ≤ 1000 ∧ 0 ≤ b ∧ b ≤ N ∧ 0 ≤ c ∧ c < 2147483647
  ne : p ≠ l
def Keep2 (p l : Addr) (H H' : Hp) : Prop := ∀ q o, H q = some o → q ≠ p → q ≠ l → H' q = some o
def spStart (K : PySem.W.Frag) : Sp := fun vs H Q _ => ∃ (a : Addr) (ns : List Int), vs = [.ref a] ∧ SqL K H a (ns.map V.int) ∧ ns.length ≤ 63 ∧ ∀ p l H', H p = none → H l = none → StreamAt H' p l 0 → Same H H' → Q (.ref p) H'
def spDraw : Sp := fun vs H Q _ => ∃ (p l : Addr) (m N : Int), vs = [.ref p, .int m] ∧ 0 < m ∧ m ≤ 1000 ∧ N ≤ 100000 ∧ StreamAt H p l N ∧ ∀ d H', 0 ≤ d → d < m → StreamAt H' p l (N + 1) → Keep2 p l H H' → Q (.int d) H'
theorem scStart : FnScope ["script"] ["script"] (defScope sStart) := ⟨rfl, rfl, rfl, by decide +kernel, rfl, by decide +kernel, by decide +kernel⟩
theorem scDraw : FnScope ["stream", "many", "cell", "digit", "mixed"] ["stream", "many"] (defScope sDraw) := ⟨rfl, rfl, rfl, by decide +kernel, rfl, by decide +kernel, by decide +kernel⟩
theorem dpInts {K : PySem.W.Frag} {H : Hp} : ∀ ns : List Int, DpAll K H (ns.map V.int) (ns.map PyData.int)
  | [] => .nil
  | n :: ns => .cons (.int n) (dpInts ns)
theorem canInts : ∀ ns : List Int, PyData.canLayAll0 (ns.map PyData.int) = true
  | [] => rfl
  | n :: ns => by
    show (PyData.canLay0 (.int n) && PyData.canLayAll0 (ns.map PyData.int)) = true
    rw [canInts ns]
    rfl
theorem depInts : ∀ ns : List Int, PyData.depthAll (ns.map PyData.int) = 0
  | [] => rfl
  | n :: ns => by
    show max (PyData.depth (.int n)) (PyData.depthAll (ns.map PyData.int)) = 0
    rw [depInts ns]
    rfl
theorem shInts (ns : List Int) : SeqAt.shaped (.list (ns.map PyData.int)) = true := by
  unfold SeqAt.shaped
  have h1 : PyData.canLay0 (.list (ns.map PyData.int)) = true := canInts ns
  have h2 : PyData.depth (.list (ns.map PyData.int)) = 0 + 1 := congrArg (· + 1) (depInts ns)
  rw [h1, h2]
  rfl
theorem eqNil (n : Int) (ns : List Int) : PyData.eqv (.list ((n :: ns).map PyData.int)) (.list []) = false := by rfl
/-! ### what a test asks grows with what is wanted of its answer -/
def MoE (t : TE) : Prop := ∀ σ H Q Q', (∀ v H1, Q v H1 → Q' v H1) → t σ H Q → t σ H Q'
def MoR (r : R2) : Prop := ∀ x y H Q Q', (∀ v H1, Q v H1 → Q' v H1) → r x y H Q → r x y H Q'
def MoT (t : TT) : Prop := ∀ σ H Q Q', (∀ b H1, Q b H1 → Q' b H1) → t σ H Q → t σ H Q'
theorem mo_var {i : Nat} : MoE (tVar i) := fun _ _ _ _ f ⟨v, e, h⟩ => ⟨v, e, f _ _ h⟩
theorem mo_c {v : V} : MoE (tC v) := fun _ _ _ _ f h => f _ _ h
theorem mo_op {r : R2} {a b : TE} (mr : MoR r) (ma : MoE a) (mb : MoE b) : MoE (tOp r a b) := fun _ _ _ _ f h => ma _ _ _ _ (fun _ _ h1 => mb _ _ _ _ (fun _ _ h2 => mr _ _ _ _ _ f h2) h1) h
theorem mo_eq : MoR rEq := fun _ _ _ _ _ f ⟨e, h⟩ => ⟨e, f _ _ h⟩
theorem mo_ix {K : PySem.W.Frag} : MoR (rIxL K) := fun _ _ _ _ _ f ⟨p, xs, i, v, e1, e2, e3, e4, h⟩ => ⟨p, xs, i, v, e1, e2, e3, e4, f _ _ h⟩
theorem mo_neD {K : PySem.W.Frag} : MoR (rNeD K) := fun _ _ _ _ _ f ⟨d, e, e1, e2, e3, e4, h⟩ => ⟨d, e, e1, e2, e3, e4, f _ _ h⟩
theorem mo_lst0 : MoE (tLst tNil) := fun _ _ _ _ f ⟨z, h⟩ => ⟨z, fun p hp => f _ _ (h p hp)⟩
theorem mo_test {t : TE} (m : MoE t) : MoT (tTest t) := fun _ _ _ _ f h => m _ _ _ _ (fun _ _ ⟨k, e, h1⟩ => ⟨k, e, f _ _ h1⟩) h
theorem mo_and {t u : TT} (m : MoT t) (n : MoT u) : MoT (tAnd t u) := fun _ _ _ _ f h => m _ _ _ _ (fun b _ h1 => by
  cases b with
  | true => exact n _ _ _ _ f h1
  | false => exact f _ _ h1) h
/-- while, what follows told apart -/
theorem while_x {c : TT} {tb : TS} {D : Ends} {σ : L2.St} {H : Hp} (Pv : L2.St → Hp → Prop) (μ : L2.St → Hp → Nat) (mono : MoT c) (h0 : Pv σ H) (hd : ∀ σ H, Pv σ H → D.nx σ H)
    (hs : ∀ σ H, Pv σ H → c σ H fun b H1 => if b = true then tb { D with nx := fun σ' H' => Pv σ' H' ∧ μ σ' H' < μ σ H, ct := fun σ' H' => Pv σ' H' ∧ μ σ' H' < μ σ H, bk := D.nx } σ H1 else Pv σ H1) : tWhile c tb D σ H :=
  while_by Pv μ h0 (fun σ H p => mono _ _ _ _ (fun b H1 q => by
    cases b with
    | true => exact q
    | false => exact iteF (hd σ H1 q)) (hs σ H p)) mono
theorem seq0 (k : Nat) : seqIndex? 0 (k + 1) = some 0 := by
  simp [seqIndex?]
theorem fmod_range (x : Int) {m : Int} (h : 0 < m) : 0 ≤ x.fmod m ∧ x.fmod m < m := by
  rw [Int.fmod_eq_emod_of_nonneg _ (Int.le_of_lt h)]
  exact ⟨Int.emod_nonneg _ (by omega), Int.emod_lt_of_pos _ h⟩
section
variable {P : Program} {w : World} {K : PySem.W.Frag} {mg : Str → Option Value} {base : Heap}
theorem ok_start {f : Addr} {fd : FuncData} (F : Fun K "_law_start" "_law_start" sStart f fd) (B : Bl mg) : FnOk P w K mg base CX0 1 f fd ["script"] (spStart K) := by
  refine F.ok scStart (fun vs H Q E h => ?_) (fun cdv A outer s H vs Q E hr h => ?_)
  · obtain ⟨a, ns, rfl, _⟩ := h
    rfl
  · obtain ⟨a, ns, rfl, ha, hl, k⟩ := h
    refine ⟨_, pss_one (ps_ret (pe_lst (pa_cons (pe_callTy call_list_of (by rfl) B.list (by decide +kernel) (pa_cons (pv 0) pa_nil)) (pa_cons pe_int (pa_cons pe_int (pa_cons pe_int pa_nil)))))), ?_⟩
    refine ⟨_, rfl, a, ns.map V.int, rfl, .inl ha, fun l hl0 => ⟨(by show 4 ≤ sizeLine; decide), fun p hp => ?_⟩⟩
    have npl : p ≠ l := fun z => by
      rw [z, upd_same] at hp
      cases hp
    have hp0 : H p = none := by
      rw [upd_ne npl] at hp
      exact hp
    refine k p l _ hp0 hl0 ⟨⟨ns, 0, 0, 11, upd_same, by rw [upd_ne npl.symm, upd_same], by omega, by omega, by omega, by omega, by omega⟩, npl⟩ fun q o e => ?_
    rw [upd_ne (ne_of_none e hp0), upd_ne (ne_of_none e hl0)]
    exact e
theorem ok_draw {f : Addr} {fd : FuncData} (F : Fun K "_law_draw" "_law_draw" sDraw f fd) (B : Bl mg) : FnOk P w K mg base CX0 1 f fd ["stream", "many"] spDraw := by
  refine F.ok scDraw (fun vs H Q E h => ?_) (fun cdv A outer s H vs Q E hr h => ?_)
  · obtain ⟨p, l, m, N, rfl, _⟩ := h
    rfl
  · obtain ⟨p, l, m, N, rfl, hm0, hm1, hN, ⟨⟨ns, a, b, c, hp, hl, hz, hb0, hb1, hc0, hc1⟩, npl⟩, k⟩ := h
    refine ⟨_, pss_cons (ps_asg (pe_op op_add (pe_ix ix_list (pv 0) pe_int (fun _ _ => rfl)) pe_int) (pg_sub (pv 0) pe_int set_list))
      (pss_cons (ps_while PassesOwn.never (PW.pt (pw_and (pt_cmpR op_eq (pe_ix ix_list (pv 0) pe_int (fun _ _ => rfl)) pe_int (nomark _)) (pw_and1 (pt_cmpR (op_neD hr.units) (pe_ix ix_list (pv 0) pe_int (fun _ _ => rfl)) (pe_lst pa_nil) (nomark _)))))
        (pss_cons (ps_set (i := 2) scDraw.nd rfl (Or.inl rfl) (pe_bm PySem.F.plainAttrs_list PySem.F.slot_list_pop PySem.F.type_list_pop mt_popAt (pe_ix ix_list (pv 0) pe_int (fun _ _ => rfl)) (pa_cons pe_int pa_nil)))
        (pss_cons (ps_asg (pe_op op_modN (pe_callTy call_int1 (by rfl) B.int (by decide +kernel) (pa_cons (pe_op op_add (pe_op op_add (pe_op op_mul (pe_ix ix_list (pv 0) pe_int (fun _ _ => rfl)) pe_int) (pv 2)) pe_int) pa_nil)) pe_int) (pg_sub (pv 0) pe_int set_list))
        (pss_one (ps_asg (pe_ifExp (pt_cmpR op_ge (pv 2) (pe_op op_pow pe_int pe_int) (nomark _)) (pv 2) pe_int) (pg_sub (pv 0) pe_int set_list))))))
      (pss_cons (ps_if (pt_cmpR op_gt (pe_ix ix_list (pv 0) pe_int (fun _ _ => rfl)) pe_int (nomark _))
        (pss_cons (ps_set (i := 3) scDraw.nd rfl (Or.inl rfl) (pe_op op_modN (pe_callTy call_int1 (by rfl) B.int (by decide +kernel) (pa_cons (pe_ix ix_list (pv 0) pe_int (fun _ _ => rfl)) pa_nil)) (pv 1)))
        (pss_cons (ps_asg (pe_op op_fdivN (pe_ix ix_list (pv 0) pe_int (fun _ _ => rfl)) (pv 1)) (pg_sub (pv 0) pe_int set_list))
        (pss_one (ps_ret (pv 3))))) pss_nil)
      (pss_cons (ps_set (i := 4) scDraw.nd rfl (Or.inl rfl) (pe_op op_modN (pe_callTy call_int1 (by rfl) B.int (by decide +kernel) (pa_cons (pe_op op_pow (pe_op op_add (pe_op op_add (pe_ix ix_list (pv 0) pe_int (fun _ _ => rfl)) (pe_op op_mul pe_int (pe_ix ix_list (pv 0) pe_int (fun _ _ => rfl)))) pe_int) pe_int) pa_nil)) pe_int))
      (pss_one (ps_ret (pe_op op_modN (pe_op op_modN (pe_callTy call_int1 (by rfl) B.int (by decide +kernel) (pa_cons (pe_op op_pow (pe_op op_add (pe_op op_add (pe_op op_mul (pv 4) pe_int) (pe_op op_mul pe_int (pe_ix ix_list (pv 0) pe_int (fun _ _ => rfl)))) pe_int) pe_int) pa_nil)) pe_int) (pv 1))))))), ?_⟩
    refine ⟨_, rfl, p, _, _, _, rfl, rfl, SqL.of hp, rfl, _, _, rfl, rfl, _, rfl, p, _, _, _, rfl, rfl, hp, rfl, ?_⟩
    refine while_x (fun σ1 H1 => (∃ x2, σ1 = [some (.ref p), some (.int m), x2, none, none]) ∧ ∃ (ns : List Int) (a c : Int), H1 p = some (.lst [.ref l, .int a, .int (b + 1), .int c]) ∧ H1 l = some (.lst (ns.map V.int)) ∧ ns.length ≤ 1000 ∧ 0 ≤ c ∧ c < 2147483647 ∧ Keep2 p l H H1)
      (fun _ H1 => match H1 l with
        | some (.lst xs) => xs.length
        | _ => 0) (mo_and (mo_test (mo_op mo_eq (mo_op mo_ix mo_var mo_c) mo_c)) (mo_test (mo_op mo_neD (mo_op mo_ix mo_var mo_c) mo_lst0)))
      ⟨⟨none, rfl⟩, ns, a, c, upd_same, by rw [upd_ne npl.symm]; exact hl, hz, hc0, hc1, fun q o e n1 n2 => by rw [upd_ne n1]; exact e⟩ ?_ ?_
    · rintro σ1 H1 ⟨⟨x2, rfl⟩, ns, a, c, hp, hl, hz, hc0, hc1, kp⟩
      refine ⟨_, rfl, p, _, _, _, rfl, rfl, SqL.of hp, rfl, _, _, rfl, rfl, _, rfl, ?_⟩
      by_cases ha : 0 < a
      · rw [decide_eq_true ha]
        refine iteT ⟨_, rfl, p, _, _, _, rfl, rfl, SqL.of hp, rfl, .inl ⟨_, rfl, _, rfl, _, _, rfl, rfl, (by omega), ?_⟩⟩
        refine ⟨_, rfl, p, _, _, _, rfl, rfl, SqL.of hp, rfl, _, rfl, _, _, rfl, rfl, ⟨by omega, by omega⟩, _, rfl, p, _, _, _, rfl, rfl, hp, rfl, ?_⟩
        refine ⟨_, rfl, ?_⟩
        obtain ⟨f1, f2⟩ := fmod_range a hm0
        refine k _ _ f1 f2 ⟨⟨ns, a.fdiv m, b + 1, c, upd_same, by rw [upd_ne npl.symm]; exact hl, hz, by omega, by omega, hc0, hc1⟩, npl⟩ fun q o e n1 n2 => ?_
        rw [upd_ne n1]
        exact kp q o e n1 n2
      · rw [decide_eq_false ha]
        refine iteF ?_
        have hbig : (c + 7919 * (b + 1) + 104729).natAbs < 2 ^ 64 := by omega
        refine ⟨_, rfl, p, _, _, _, rfl, rfl, SqL.of hp, rfl, _, rfl, p, _, _, _, rfl, rfl, SqL.of hp, rfl, _, _, rfl, rfl, .inl ⟨by decide, by decide⟩, _, _, rfl, rfl, _, _, rfl, rfl, _, _, rfl, rfl, ⟨by decide, by decide, hbig⟩, .inl ⟨_, rfl, _, _, rfl, rfl, (show (2147483629 : Int) ≠ 0 by decide), ?_⟩⟩
        have r5 := fmod_range ((c + 7919 * (b + 1) + 104729) ^ (5 : Int).toNat) (m := 2147483629) (by decide)
        have key : ∀ y : Int, 0 ≤ y → y < 2147483629 → (y * 48271 + 30011 * (b + 1) + 29).natAbs < 2 ^ 64 ∧ -(2 ^ 64) < y ∧ y < 2 ^ 64 := by
          intro y y0 y1
          omega
        have r6 := key _ r5.1 r5.2
        refine ⟨_, rfl, _, _, rfl, rfl, .inl r6.2, _, rfl, p, _, _, _, rfl, rfl, SqL.of hp, rfl, _, _, rfl, rfl, .inl ⟨by decide, by decide⟩, _, _, rfl, rfl, _, _, rfl, rfl, _, _, rfl, rfl, ⟨by decide, by decide, r6.1⟩, .inl ⟨_, rfl, _, _, rfl, rfl, (show (1000000007 : Int) ≠ 0 by decide), _, rfl, _, _, rfl, rfl, (show m ≠ 0 by omega), ?_⟩⟩
        obtain ⟨g1, g2⟩ := fmod_range (((((c + 7919 * (b + 1) + 104729) ^ (5 : Int).toNat).fmod 2147483629 * 48271 + 30011 * (b + 1) + 29) ^ (3 : Int).toNat).fmod 1000000007) hm0
        exact k _ _ g1 g2 ⟨⟨ns, a, b + 1, c, hp, hl, hz, by omega, by omega, hc0, hc1⟩, npl⟩ kp
    · rintro σ1 H1 ⟨⟨x2, rfl⟩, ns, a, c, hp, hl, hz, hc0, hc1, kp⟩
      refine ⟨_, rfl, p, _, _, _, rfl, rfl, SqL.of hp, rfl, rfl, _, rfl, ?_⟩
      by_cases ha : a = 0
      · subst ha
        rw [decide_eq_true rfl]
        refine iteT ⟨_, rfl, p, _, _, _, rfl, rfl, SqL.of hp, rfl, Nat.zero_le _, fun q hq => ?_⟩
        have nlq : l ≠ q := ne_of_none hl hq
        have npq : p ≠ q := ne_of_none hp hq
        refine ⟨.list (ns.map PyData.int), .list [], .lst (SqL.of (by rw [upd_ne nlq]; exact hl)) (dpInts ns), .lst (SqL.of upd_same) .nil, shInts ns, rfl, _, rfl, ?_⟩
        cases ns with
        | nil =>
          have e0 : PyData.eqv (.list (([] : List Int).map PyData.int)) (.list []) = true := by rfl
          rw [e0]
          exact iteF ⟨⟨x2, rfl⟩, [], 0, c, by rw [upd_ne npq]; exact hp, by rw [upd_ne nlq]; exact hl, hz, hc0, hc1, fun r o e n1 n2 => by
            have e2 := kp r o e n1 n2
            rw [upd_ne (ne_of_none e2 hq)]
            exact e2⟩
        | cons n ns =>
          rw [eqNil]
          refine iteT ?_
          have hp2 : upd H1 q (.lst []) p = some (.lst [.ref l, .int 0, .int (b + 1), .int c]) := by rw [upd_ne npq]; exact hp
          have hl2 : upd H1 q (.lst []) l = some (.lst (V.int n :: ns.map V.int)) := by rw [upd_ne nlq]; exact hl
          refine ⟨_, rfl, p, _, _, _, rfl, rfl, SqL.of hp2, rfl, .inl ⟨rfl, _, SqL.of hl2⟩, l, _, 0, 0, _, rfl, rfl, hl2, by decide, by decide, seq0 _, rfl, ?_⟩
          have hp3 : upd (upd H1 q (.lst [])) l (.lst ((V.int n :: ns.map V.int).eraseIdx 0)) p = some (.lst [.ref l, .int 0, .int (b + 1), .int c]) := by rw [upd_ne npl]; exact hp2
          have r7 := fmod_range (c * 8191 + n + 3) (m := 2147483647) (by decide)
          refine ⟨_, rfl, p, _, _, _, rfl, rfl, SqL.of hp3, rfl, _, _, rfl, rfl, .inl ⟨by omega, by omega⟩, _, rfl, _, _, rfl, rfl, _, _, rfl, rfl, .inl ⟨_, rfl, _, _, rfl, rfl, (show (2147483647 : Int) ≠ 0 by decide), _, rfl, p, _, _, _, rfl, rfl, hp3, rfl, ?_⟩⟩
          refine ⟨_, rfl, _, _, rfl, rfl, ⟨by decide, by decide, by decide⟩, _, _, rfl, rfl, _, rfl, ?_⟩
          have fin : ∀ (z : Int) (H2 : Hp), H2 = upd (upd (upd (upd H1 q (.lst [])) l (.lst ((V.int n :: ns.map V.int).eraseIdx 0))) p (.lst [.ref l, .int 0, .int (b + 1), .int ((c * 8191 + n + 3).fmod 2147483647)])) p (.lst [.ref l, .int z, .int (b + 1), .int ((c * 8191 + n + 3).fmod 2147483647)]) →
              ((∃ x, [some (V.ref p), some (V.int m), some (V.int n), none, none] = [some (V.ref p), some (V.int m), x, none, none]) ∧ ∃ (ns : List Int) (a c : Int), H2 p = some (.lst [.ref l, .int a, .int (b + 1), .int c]) ∧ H2 l = some (.lst (ns.map V.int)) ∧ ns.length ≤ 1000 ∧ 0 ≤ c ∧ c < 2147483647 ∧ Keep2 p l H H2) ∧
              (match H2 l with
                | some (.lst xs) => xs.length
                | _ => 0) < (match H1 l with
                | some (.lst xs) => xs.length
                | _ => 0) := fun z H2 e => by
            subst e
            have el : upd (upd (upd (upd H1 q (.lst [])) l (.lst ((V.int n :: ns.map V.int).eraseIdx 0))) p (.lst [.ref l, .int 0, .int (b + 1), .int ((c * 8191 + n + 3).fmod 2147483647)])) p (.lst [.ref l, .int z, .int (b + 1), .int ((c * 8191 + n + 3).fmod 2147483647)]) l = some (.lst (ns.map V.int)) := by
              rw [upd_ne npl.symm, upd_ne npl.symm, upd_same]
              rfl
            refine ⟨⟨⟨_, rfl⟩, ns, z, _, upd_same, el, by simp at hz; omega, r7.1, r7.2, fun r o e n1 n2 => ?_⟩, ?_⟩
            · have e2 := kp r o e n1 n2
              rw [upd_ne n1, upd_ne n1, upd_ne n2, upd_ne (ne_of_none e2 hq)]
              exact e2
            · rw [el, hl]
              show (ns.map V.int).length < (V.int n :: ns.map V.int).length
              simp
          refine ite2 (fun _ => ?_) fun _ => ?_
          · exact ⟨_, rfl, _, rfl, p, _, _, _, rfl, rfl, upd_same, rfl, fin _ _ rfl⟩
          · exact ⟨_, rfl, p, _, _, _, rfl, rfl, upd_same, rfl, fin _ _ rfl⟩
      · rw [decide_eq_false (fun z => ha (V.int.inj z))]
        exact iteF (iteF ⟨⟨x2, rfl⟩, ns, a, c, hp, hl, hz, hc0, hc1, kp⟩)
end
end K50
set_option maxHeartbeats 4000000
namespace Dl
open PySem PySem.Spec PyProof.Rows L2 Evl RZ
/-- an own list, looked at -/
theorem Own.tp {H1 B Hc : Hp} {p : Addr} {ds : List PyData} (h : Own H1 B Hc p ds) (c : Ex B Hc) : Tp Hc (.ref p) (.list ds) := by
  obtain ⟨h1, h2, vs, h3, h4⟩ := h
  exact .lst h3 (TpAll.ex c _ _ h4)
theorem units65 {k : Nat} {A : Around} (r : Room k A) : A.units + 65 < cLine := by have := r.un; omega
def onceD (xs : List PyData) : List PyData := xs.foldl (fun acc x => if acc.any (fun z => PyData.eqv z x) then acc else acc ++ [x]) []
theorem once_take {xs : List PyData} {i : Nat} {x : PyData} (h : xs[i]? = some x) : onceD (xs.take (i + 1)) = if (onceD (xs.take i)).any (fun z => PyData.eqv z x) then onceD (xs.take i) else onceD (xs.take i) ++ [x] := by
  unfold onceD
  rw [List.take_add_one, h]
  show List.foldl _ [] (xs.take i ++ [x]) = _
  rw [List.foldl_append]
  rfl
theorem once_sub : ∀ (xs acc : List PyData) (z : PyData), z ∈ xs.foldl (fun acc x => if acc.any (fun z => PyData.eqv z x) then acc else acc ++ [x]) acc → z ∈ acc ∨ z ∈ xs
  | [], acc, z, h => .inl h
  | x :: xs, acc, z, h => by
    rcases once_sub xs _ z h with h1 | h1
    · have h1 : z ∈ (if acc.any (fun z => PyData.eqv z x) then acc else acc ++ [x]) := h1
      split at h1
      · exact .inl h1
      · rcases List.mem_append.mp h1 with h2 | h2
        · exact .inl h2
        · exact .inr (by rw [List.mem_singleton.mp h2]; exact List.mem_cons_self)
    · exact .inr (List.mem_cons_of_mem _ h1)
theorem once_len : ∀ (xs acc : List PyData), (xs.foldl (fun acc x => if acc.any (fun z => PyData.eqv z x) then acc else acc ++ [x]) acc).length ≤ acc.length + xs.length
  | [], acc => Nat.le_refl _
  | x :: xs, acc => by
    have h := once_len xs (if acc.any (fun z => PyData.eqv z x) then acc else acc ++ [x])
    have h2 : (if acc.any (fun z => PyData.eqv z x) then acc else acc ++ [x]).length ≤ acc.length + 1 := by
      split
      · omega
      · rw [List.length_append]; exact Nat.le_refl _
    show _ ≤ acc.length + (xs.length + 1)
    exact Nat.le_trans h (by omega)
theorem shaped_mem {ds : List PyData} (h : SeqAt.shaped (.list ds) = true) {d : PyData} (hd : d ∈ ds) : SeqAt.shaped d = true := by
  have h1 : PyData.canLayAll0 ds = true := SeqAt.canLay_of_shaped h
  have h2 : PyData.depthAll ds + 1 ≤ 64 := SeqAt.depth_of_shaped h
  have key : ∀ es : List PyData, PyData.canLayAll0 es = true → d ∈ es → PyData.canLay0 d = true ∧ PyData.depth d ≤ PyData.depthAll es := by
    intro es
    induction es with
    | nil => intro _ hm; exact absurd hm List.not_mem_nil
    | cons e es ih =>
      intro hc hm
      have hc2 : PyData.canLay0 e = true ∧ PyData.canLayAll0 es = true := by simpa [PyData.canLayAll0] using hc
      have hdm : PyData.depthAll (e :: es) = max (PyData.depth e) (PyData.depthAll es) := rfl
      rcases List.mem_cons.mp hm with rfl | hm
      · exact ⟨hc2.1, by omega⟩
      · obtain ⟨a, b⟩ := ih hc2.2 hm
        exact ⟨a, by omega⟩
  obtain ⟨a, b⟩ := key ds h1 hd
  unfold SeqAt.shaped
  rw [a, decide_eq_true (by omega)]
  rfl
theorem shaped_sub {ds es : List PyData} (h : SeqAt.shaped (.list ds) = true) (hs : ∀ e ∈ es, e ∈ ds) : SeqAt.shaped (.list es) = true := by
  have h2 : PyData.depthAll ds + 1 ≤ 64 := SeqAt.depth_of_shaped h
  have key : ∀ fs : List PyData, (∀ e ∈ fs, e ∈ ds) → PyData.canLayAll0 fs = true ∧ PyData.depthAll fs ≤ PyData.depthAll ds := by
    intro fs
    induction fs with
    | nil => intro _; exact ⟨rfl, Nat.zero_le _⟩
    | cons e fs ih =>
      intro hf
      obtain ⟨a, b⟩ := ih fun x hx => hf x (List.mem_cons_of_mem _ hx)
      have he := shaped_mem h (hf e List.mem_cons_self)
      have hd : ∀ gs : List PyData, e ∈ gs → PyData.depth e ≤ PyData.depthAll gs := by
        intro gs
        induction gs with
        | nil => intro hm; exact absurd hm List.not_mem_nil
        | cons g gs ih2 =>
          intro hm
          have z : PyData.depthAll (g :: gs) = max (PyData.depth g) (PyData.depthAll gs) := rfl
          rcases List.mem_cons.mp hm with rfl | hm
          · omega
          · have := ih2 hm
            omega
      have := hd ds (hf e List.mem_cons_self)
      refine ⟨?_, ?_⟩
      · show (PyData.canLay0 e && PyData.canLayAll0 fs) = true
        rw [SeqAt.canLay_of_shaped he, a]
        rfl
      · show max (PyData.depth e) (PyData.depthAll fs) ≤ _
        omega
  obtain ⟨a, b⟩ := key es hs
  unfold SeqAt.shaped
  have c : PyData.canLay0 (.list es) = true := a
  have d : PyData.depth (.list es) ≤ 64 := by
    show PyData.depthAll es + 1 ≤ 64
    omega
  rw [c, decide_eq_true d]
  rfl
end Dl
namespace K50
open PySem PySem.Spec PyProof.Rows L2 Evl RZ Dl
/-! ### each once -/
def rOnce : List PyData → PyData → Prop := fun ds d => ∃ xs, ds = [.list xs] ∧ SeqAt.shaped (.list xs) = true ∧ xs.length ≤ 1000 ∧ d = .list (onceD xs)
abbrev nOnce : List Str := ["things", "found", "thing"]
theorem scOnce : FnScope nOnce ["things"] (defScope sEachOnce) := ⟨rfl, rfl, rfl, by decide +kernel, rfl, by decide +kernel, by decide +kernel⟩
section
variable {P : Program} {w : World} {K : PySem.W.Frag} {mg : Str → Option Value} {base : Heap}
theorem ok_once {f : Addr} {fd : FuncData} (F : Fun K "_law_each_once" "_law_each_once" sEachOnce f fd) : FnOk P w K mg base CX0 1 f fd ["things"] (spP 1 rOnce) := by
  refine F.ok scOnce (fun vs H Q E h => spP_len h) (fun cdv A outer s H vs Q E hr h => ?_)
  refine ⟨_, pss_cons (ps_set (i := 1) scOnce.nd rfl (Or.inl rfl) (pe_lst pa_nil))
    (pss_cons (ps_for PassesOwn.never rfl (pi_list (pv 0)) (pg_name (i := 2) scOnce.nd rfl (.inl rfl))
      (pss_one (ps_if (pt_cmpR (op_notInD (units65 hr)) (pv 2) (pv 1) (by rfl)) (pss_one (ps_expr (pe_bm PySem.F.plainAttrs_list PySem.F.slot_list_append PySem.F.type_list_append mt_append (pv 1) (pa_cons (pv 2) pa_nil)))) pss_nil)))
    (pss_one (ps_ret (pv 1)))), ?_⟩
  obtain ⟨Bb, ds, d, e, hv, hn, hf, q⟩ := h
  obtain ⟨xs, rfl, sh, lx, rfl⟩ := hf
  obtain ⟨v, rfl, hx⟩ := tp1 hv
  have s0 := Bs.start e
  refine q_asgOwn s0 fun p o1 b1 e1 => ?_
  refine s_forD b1.c (ei_list (ed_var rfl hx))
    (fun B0 i σ' H' => ∃ B', Bs Bb H B' H' ∧ Ex B0 B' ∧ Own H B' H' p (onceD (xs.take i)) ∧ ∃ x2, σ' = [some v, some (.ref p), x2])
    (fun Hn en => ⟨_, b1.step en, Ex.refl _, o1.step b1.c en, none, rfl⟩) (fun B0 i σ' H' ⟨B', b1, b2, _⟩ => b2.trans b1.c) ?_ ?_
  · rintro B0 i d x σ' H' Hn hd ⟨B', b1, b2, o, x2, rfl⟩ en hx2
    have b3 := b1.step en
    have o3 := o.step b1.c en
    have hx3 := Tp.ex (gr_mono (Hc := H') (Hn := Hn) b2) _ _ hx2
    have sd := shaped_mem sh (List.mem_of_getElem? hd)
    have sub : ∀ z ∈ onceD (xs.take i), z ∈ xs := fun z hz => by
      rcases once_sub _ _ z hz with h | h
      · exact absurd h List.not_mem_nil
      · exact List.mem_of_mem_take h
    have sl := shaped_sub sh sub
    have ll : (onceD (xs.take i)).length ≤ xs.length := by
      have := once_len (xs.take i) []
      rw [List.length_take] at this
      have z : (onceD (xs.take i)).length ≤ 0 + min i xs.length := this
      omega
    refine s_ifD (B := Hn) (Ex.refl _) (b := !(onceD (xs.take i)).any fun z => PyData.eqv z d) (et_D (ed_op (ed_var rfl (Tp.ex b3.c _ _ hx3)) (ed_var rfl (o3.tp b3.c)) (rd_notInD sd sl))) (fun hb Hm em => ?_) (fun hb Hm em => ?_)
    · have b4 := b3.step em
      have o4 := o3.step b3.c em
      refine s_appD b4 rfl o4 (ed_var rfl (Tp.ex (gr_up b3.c) _ _ hx3)) (by omega) fun Ha Hb ea ka oa ba => ?_
      refine ⟨_, ba, ((b2.trans (gr_up b1.c)).trans (gr_up b3.c)).trans (gr_up b4.c), ?_, _, rfl⟩
      rw [once_take hd, if_neg (by simpa using hb)]
      exact oa
    · refine ⟨_, b3.step em, (b2.trans (gr_up b1.c)).trans (gr_up b3.c), ?_, _, rfl⟩
      rw [once_take hd, if_pos (by simpa using hb)]
      exact o3.step b3.c em
  · rintro B0 σ' H' ⟨B', b1, b2, o, x2, rfl⟩
    rw [List.take_length] at o
    obtain ⟨f1, f2, f3⟩ := o.freeze b1
    exact s_retD f1.c (ed_var (i := 1) rfl f2) fun v2 H2 e2 h2 => q v2 H2 (f1.a.trans e2) (Tp.ex (f1.step e2).d _ _ h2)
end
end K50
set_option maxHeartbeats 4000000
namespace Dl
open PySem PySem.Spec PyProof.Rows L2 Evl RZ
section
variable {K : PySem.W.Frag} {σ : L2.St} {H : Hp} {te : TE} {d : PyData}
theorem ed_isi4 {T1 T2 T3 T4 : String} {b : Bool} (h : EvD te σ H d) (hk : ∀ K : PySem.W.Frag, PySem.W.kitAny K (.type (tyN d)) [.type T1, .type T2, .type T3, .type T4] = some b) :
    EvD (tCB (rIsiT K) (tCons te (tCons (tTup (tCons (tC (.ty T1)) (tCons (tC (.ty T2)) (tCons (tC (.ty T3)) (tCons (tC (.ty T4)) tNil))))) tNil))) σ H (.bool b) := fun H1 e Q q =>
  h H1 e _ fun v H2 e2 hv => ⟨by show 4 ≤ sizeLine; decide, fun p hp => ⟨v, p, _, _, _, b, rfl, upd_same, .cons (.ty T1) (.cons (.ty T2) (.cons (.ty T3) (.cons (.ty T4) .nil))), ty_of (Tp.ex ((gr_sub e e2).trans (Ex.new hp)) d v hv), hk K, q _ _ (e2.trans (Ex.new hp)) (.bl b)⟩⟩
theorem rd_neB {a b : Bool} : RD rNe (.bool a) (.bool b) (.bool (a != b)) := fun H H1 v w e hv hw Q q => by
  cases hv
  cases hw
  refine ⟨rfl, ?_⟩
  have z : (!decide (V.bl a = V.bl b)) = (a != b) := by cases a <;> cases b <;> rfl
  rw [z]
  exact q _ H1 (Ex.refl H1) (.bl _)
theorem rd_eqB {a b : Bool} : RD rEq (.bool a) (.bool b) (.bool (a == b)) := fun H H1 v w e hv hw Q q => by
  cases hv
  cases hw
  refine ⟨rfl, ?_⟩
  have z : (decide (V.bl a = V.bl b)) = (a == b) := by cases a <;> cases b <;> rfl
  rw [z]
  exact q _ H1 (Ex.refl H1) (.bl _)
end
end Dl
namespace K50
open PySem PySem.Spec PyProof.Rows L2 Evl RZ Dl
mutual
def sameD : PyData → PyData → Bool
  | .list xs, .list ys => sameAll xs ys
  | .tuple xs, .tuple ys => sameAll xs ys
  | .bool a, .bool b => a == b
  | .int a, .int b => decide (a = b)
  | .str a, .str b => a == b
  | .none, .none => true
  | _, _ => false
def sameAll : List PyData → List PyData → Bool
  | [], [] => true
  | x :: xs, y :: ys => sameD x y && sameAll xs ys
  | _, _ => false
end
def isT : PyData → Bool
  | .tuple _ => true
  | _ => false
def isB : PyData → Bool
  | .bool _ => true
  | _ => false
def isI2 : PyData → Bool
  | .int _ => true
  | .bool _ => true
  | _ => false
def isD : PyData → Bool
  | .dict _ => true
  | _ => false
def isNo : PyData → Bool
  | .int _ => true
  | .bool _ => true
  | .list _ => true
  | .tuple _ => true
  | .dict _ => true
  | _ => false
theorem kit_tupS (K : PySem.W.Frag) (d : PyData) : PySem.W.kitOne K (.type (tyN d)) (.type "tuple") = some (isT d) := by cases d <;> rfl
theorem kit_boolS (K : PySem.W.Frag) (d : PyData) : PySem.W.kitOne K (.type (tyN d)) (.type "bool") = some (isB d) := by cases d <;> rfl
theorem kit_intS (K : PySem.W.Frag) (d : PyData) : PySem.W.kitOne K (.type (tyN d)) (.type "int") = some (isI2 d) := by cases d <;> rfl
theorem kit_dictS (K : PySem.W.Frag) (d : PyData) : PySem.W.kitOne K (.type (tyN d)) (.type "dict") = some (isD d) := by cases d <;> rfl
theorem kit_seqS (K : PySem.W.Frag) (d : PyData) : PySem.W.kitAny K (.type (tyN d)) [.type "list", .type "tuple"] = some (isR d) := by cases d <;> rfl
theorem kit_noS (K : PySem.W.Frag) (d : PyData) : PySem.W.kitAny K (.type (tyN d)) [.type "int", .type "list", .type "tuple", .type "dict"] = some (isNo d) := by cases d <;> rfl
def wide : PyData → Prop
  | .list xs => xs.length ≤ 1000 ∧ ∀ x ∈ xs, wide x
  | .tuple xs => xs.length ≤ 1000 ∧ ∀ x ∈ xs, wide x
  | .dict _ => False
  | _ => True
def rSame (n : Nat) : List PyData → PyData → Prop := fun ds d => ∃ x y, ds = [x, y] ∧ PyData.depth y < n ∧ SeqAt.shaped x = true ∧ SeqAt.shaped y = true ∧ wide y ∧ d = .bool (sameD x y)
abbrev nSame : List Str := ["found", "due", "x", "y"]
theorem scSame : FnScope nSame ["found", "due"] (defScope sSame) := ⟨rfl, rfl, rfl, by decide +kernel, rfl, by decide +kernel, by decide +kernel⟩
section
variable {P : Program} {w : World} {K : PySem.W.Frag} {mg : Str → Option Value} {base : Heap}
theorem same_step {n : Nat} {f : Addr} {fd : FuncData} (F : Fun K "_law_same" "_law_same" sSame f fd) (B : Bl mg) (S : FnOk P w K mg base CX0 (n + 1) f fd ["found", "due"] (spP 2 (rSame n))) (gS : mg "_law_same" = some (.ref f)) (kS : PySem.W.keepIn K (.ref f) = true) (bS : L2.Binds K fd ["found", "due"] []) :
    FnOk P w K mg base CX0 (n + 2) f fd ["found", "due"] (spP 2 (rSame (n + 1))) := by
  refine F.ok scSame (fun vs H Q E h => spP_len h) (fun cdv A outer s H vs Q E hr h => ?_)
  have ii : ∀ (X : Cx) (i : Nat) (T : String), True := fun _ _ _ => trivial
  refine ⟨_, pss_cons (ps_if (pt_val (pe_callB call_isiT (by rfl) B.isinstance PyProof.Rows.boot_isinstance (pa_cons (pv 1) (pa_cons (pe_tup (pa_cons (pe_bltn (v := .ty "list") (u := .type "list") (by rfl) B.list (by decide +kernel) rfl) (pa_cons (pe_bltn (v := .ty "tuple") (u := .type "tuple") (by rfl) B.tuple (by decide +kernel) rfl) pa_nil))) pa_nil))))
      (pss_cons (ps_if (PW.pt (pw_or (pt_cmpR op_ne (pe_callB call_isi (by rfl) B.isinstance PyProof.Rows.boot_isinstance (pa_cons (pv 0) (pa_cons (pe_bltn (v := .ty "list") (u := .type "list") (by rfl) B.list (by decide +kernel) rfl) pa_nil)))
            (pe_callB call_isi (by rfl) B.isinstance PyProof.Rows.boot_isinstance (pa_cons (pv 1) (pa_cons (pe_bltn (v := .ty "list") (u := .type "list") (by rfl) B.list (by decide +kernel) rfl) pa_nil))) (by rfl))
          (pw_or1 (pt_cmpR op_ne (pe_callB call_isi (by rfl) B.isinstance PyProof.Rows.boot_isinstance (pa_cons (pv 0) (pa_cons (pe_bltn (v := .ty "tuple") (u := .type "tuple") (by rfl) B.tuple (by decide +kernel) rfl) pa_nil)))
            (pe_callB call_isi (by rfl) B.isinstance PyProof.Rows.boot_isinstance (pa_cons (pv 1) (pa_cons (pe_bltn (v := .ty "tuple") (u := .type "tuple") (by rfl) B.tuple (by decide +kernel) rfl) pa_nil))) (by rfl)))))
          (pss_one (ps_ret pe_bl)) pss_nil)
      (pss_one (ps_ret (pe_and (pe_cmpR op_eq (pe_callB call_len_seq (by rfl) B.len PySem.boot_len (pa_cons (pv 0) pa_nil)) (pe_callB call_len_seq (by rfl) B.len PySem.boot_len (pa_cons (pv 1) pa_nil)) (by rfl))
        (pe_one (pe_callB (cr_all rfl) (by rfl) B.all PyProof.Rows.boot_all (pa_cons
          (pe_lc (own := [("x", 2), ("y", 3)]) (g := gTup K 2 (gCons (gName 2) (gCons (gName 3) gNil))) (tt := tYes) (te := tCall (spP 2 (rSame n)) [] E0 (tCons (tVar 2) (tCons (tVar 3) tNil))) rfl scSame.nd (pi_zipA (by rfl) B.zip (pa_cons (pv 0) (pa_cons (pv 1) pa_nil)))
            (blkOk_by (own := [("x", 2), ("y", 3)]) (N := nSame) (sc := defScope sSame) (by decide +kernel)) (fun _ _ _ _ _ => pg_tup rfl (pgs_cons (pg_name (i := 2) scSame.nd rfl (Or.inl rfl)) (pgs_cons (pg_name (i := 3) scSame.nd rfl (Or.inl rfl)) pgs_nil))) (fun _ _ _ _ _ => pts_nil)
            (fun _ _ _ _ _ => pe_call S hr (by rfl) gS kS bS .nil pass0 (pa_cons (pv 2) (pa_cons (pv 3) pa_nil)))) pa_nil))))))) pss_nil)
    (pss_cons (ps_if (pt_val (pe_callB call_isi (by rfl) B.isinstance PyProof.Rows.boot_isinstance (pa_cons (pv 1) (pa_cons (pe_bltn (v := .ty "dict") (u := .type "dict") (by rfl) B.dict (by decide +kernel) rfl) pa_nil)))) pss_never pss_nil)
    (pss_cons (ps_if (pt_val (pe_callB call_isi (by rfl) B.isinstance PyProof.Rows.boot_isinstance (pa_cons (pv 1) (pa_cons (pe_bltn (v := .ty "int") (u := .type "int") (by rfl) B.int (by decide +kernel) rfl) pa_nil))))
      (pss_one (ps_ret (pe_and (pe_callB call_isi (by rfl) B.isinstance PyProof.Rows.boot_isinstance (pa_cons (pv 0) (pa_cons (pe_bltn (v := .ty "int") (u := .type "int") (by rfl) B.int (by decide +kernel) rfl) pa_nil)))
        (pe_and (pe_cmpR op_eq (pe_callB call_isi (by rfl) B.isinstance PyProof.Rows.boot_isinstance (pa_cons (pv 0) (pa_cons (pe_bltn (v := .ty "bool") (u := .type "bool") (by rfl) B.bool (by decide +kernel) rfl) pa_nil)))
            (pe_callB call_isi (by rfl) B.isinstance PyProof.Rows.boot_isinstance (pa_cons (pv 1) (pa_cons (pe_bltn (v := .ty "bool") (u := .type "bool") (by rfl) B.bool (by decide +kernel) rfl) pa_nil))) (by rfl))
          (pe_one (pe_cmpR (op_eqD hr.units) (pv 0) (pv 1) (by rfl))))))) pss_nil)
    (pss_one (ps_ret (pe_and (pe_not (pe_callB call_isiT (by rfl) B.isinstance PyProof.Rows.boot_isinstance (pa_cons (pv 0) (pa_cons (pe_tup (pa_cons (pe_bltn (v := .ty "int") (u := .type "int") (by rfl) B.int (by decide +kernel) rfl) (pa_cons (pe_bltn (v := .ty "list") (u := .type "list") (by rfl) B.list (by decide +kernel) rfl) (pa_cons (pe_bltn (v := .ty "tuple") (u := .type "tuple") (by rfl) B.tuple (by decide +kernel) rfl) (pa_cons (pe_bltn (v := .ty "dict") (u := .type "dict") (by rfl) B.dict (by decide +kernel) rfl) pa_nil))))) pa_nil))))
      (pe_one (pe_cmpR (op_eqD hr.units) (pv 0) (pv 1) (by rfl)))))))), ?_⟩
  obtain ⟨Bb, ds, d, e, hv, hn, hf, q⟩ := h
  obtain ⟨x, y, rfl, hdp, sx, sy, wy, rfl⟩ := hf
  obtain ⟨v, u, rfl, hx, hy⟩ := tp2 hv
  have s0 := Bs.start e
  have isi0 : ∀ (T : String) (b : Bool) (B' : Hp), Ex Bb B' → (∀ K : PySem.W.Frag, PySem.W.kitOne K (.type (tyN x)) (.type T) = some b) → EvD (tCB (rIsi K) (tCons (tVar 0) (tCons (tC (.ty T)) tNil))) (L2.start nSame [v, u]) B' (.bool b) := fun T b B' e' hk => ed_isi (ed_var rfl (Tp.ex e' _ _ hx)) hk
  have isi1 : ∀ (T : String) (b : Bool) (B' : Hp), Ex Bb B' → (∀ K : PySem.W.Frag, PySem.W.kitOne K (.type (tyN y)) (.type T) = some b) → EvD (tCB (rIsi K) (tCons (tVar 1) (tCons (tC (.ty T)) tNil))) (L2.start nSame [v, u]) B' (.bool b) := fun T b B' e' hk => ed_isi (ed_var rfl (Tp.ex e' _ _ hy)) hk
  have out : ∀ {te : TE} {Hc : Hp} {nx : L2.St → Hp → Prop}, Bs Bb H Bb Hc → EvD te (L2.start nSame [v, u]) Bb (.bool (sameD x y)) → tRet te { nx := nx, rt := Q } (L2.start nSame [v, u]) Hc := fun b h =>
    s_retD b.c h fun v2 H2 e2 h2 => q v2 H2 (b.a.trans e2) (Tp.ex (b.step e2).d _ _ h2)
  refine q_whenD s0.c (b := isR y) (et_BD (ed_isi2 (ed_var (i := 1) rfl hy) fun K => kit_seqS K y)) (fun hb H1 e1 => ?_) (fun hb H1 e1 => ?_)
  · have b1 := s0.keep e1
    refine q_whenD b1.c (b := (isL x != isL y) || (isT x != isT y)) (et_or (et_D (ed_op (isi0 "list" _ _ (Ex.refl _) fun K => kit_listS K x) (isi1 "list" _ _ (Ex.refl _) fun K => kit_listS K y) rd_neB)) (fun _ => et_D (ed_op (isi0 "tuple" _ _ (Ex.refl _) fun K => kit_tupS K x) (isi1 "tuple" _ _ (Ex.refl _) fun K => kit_tupS K y) rd_neB))) (fun hb2 H2 e2 => ?_) (fun hb2 H2 e2 => ?_)
    · have b2 := b1.keep e2
      refine out b2 (ed_is ed_bl ?_)
      cases y <;> cases x <;> first | rfl | (cases hb; done) | (cases hb2; done)
    · have b2 := b1.keep e2
      -- both lists, or both tuples
      obtain ⟨xs, ys, hxy⟩ : ∃ xs ys, (x = .list xs ∧ y = .list ys) ∨ (x = .tuple xs ∧ y = .tuple ys) := by
        cases y <;> cases x <;> first | (cases hb; done) | (cases hb2; done) | exact ⟨_, _, .inl ⟨rfl, rfl⟩⟩ | exact ⟨_, _, .inr ⟨rfl, rfl⟩⟩
      have zmem : ∀ (as bs : List PyData) (d : PyData), d ∈ zipD as bs → ∃ a b, d = .tuple [a, b] ∧ a ∈ as ∧ b ∈ bs := by
        intro as
        induction as with
        | nil => intro bs d hd; cases bs <;> exact absurd hd List.not_mem_nil
        | cons a as ih =>
          intro bs d hd
          cases bs with
          | nil => exact absurd hd List.not_mem_nil
          | cons b bs =>
            rcases List.mem_cons.mp hd with h | h
            · exact ⟨a, b, h, List.mem_cons_self, List.mem_cons_self⟩
            · obtain ⟨a', b', h1, h2, h3⟩ := ih bs d h
              exact ⟨a', b', h1, List.mem_cons_of_mem _ h2, List.mem_cons_of_mem _ h3⟩
      let ww : PyData → PyData := fun d => match d with
        | .tuple [a, b] => .bool (sameD a b)
        | d => d
      have zmap : ∀ (as bs : List PyData), as.length = bs.length → ∃ cs : List Bool, (zipD as bs).map ww = cs.map PyData.bool ∧ cs.all id = sameAll as bs := by
        intro as
        induction as with
        | nil =>
          intro bs hl
          cases bs with
          | nil => exact ⟨[], rfl, rfl⟩
          | cons b bs => cases hl
        | cons a as ih =>
          intro bs hl
          cases bs with
          | nil => cases hl
          | cons b bs =>
            obtain ⟨cs, h1, h2⟩ := ih bs (by simpa using hl)
            refine ⟨sameD a b :: cs, ?_, ?_⟩
            · show ww (.tuple [a, b]) :: (zipD as bs).map ww = _
              rw [h1]
              rfl
            · show (sameD a b && cs.all id) = sameAll (a :: as) (b :: bs)
              rw [h2]
              rfl
      have unl : ∀ (as bs : List PyData), as.length ≠ bs.length → sameAll as bs = false := by
        intro as
        induction as with
        | nil =>
          intro bs hl
          cases bs with
          | nil => exact absurd rfl hl
          | cons b bs => rfl
        | cons a as ih =>
          intro bs hl
          cases bs with
          | nil => rfl
          | cons b bs =>
            show (sameD a b && sameAll as bs) = false
            rw [ih bs (by simpa using hl), Bool.and_false]
      have sxs : SeqAt.shaped (.list xs) = true := by rcases hxy with ⟨rfl, rfl⟩ | ⟨rfl, rfl⟩ <;> exact sx
      have sys : SeqAt.shaped (.list ys) = true := by rcases hxy with ⟨rfl, rfl⟩ | ⟨rfl, rfl⟩ <;> exact sy
      have dys : PyData.depthAll ys + 1 < n + 1 := by rcases hxy with ⟨rfl, rfl⟩ | ⟨rfl, rfl⟩ <;> exact hdp
      have wys : ys.length ≤ 1000 ∧ ∀ y ∈ ys, wide y := by rcases hxy with ⟨rfl, rfl⟩ | ⟨rfl, rfl⟩ <;> simpa [wide] using wy
      have dmem : ∀ (bs : List PyData) (b : PyData), b ∈ bs → PyData.depth b ≤ PyData.depthAll bs := by
        intro bs
        induction bs with
        | nil => intro b hb; exact absurd hb List.not_mem_nil
        | cons c bs ih =>
          intro b hb
          have z : PyData.depthAll (c :: bs) = max (PyData.depth c) (PyData.depthAll bs) := rfl
          rcases List.mem_cons.mp hb with rfl | hb
          · omega
          · have := ih b hb
            omega
      have sD : sameD x y = sameAll xs ys := by rcases hxy with ⟨rfl, rfl⟩ | ⟨rfl, rfl⟩ <;> rfl
      have lc : ∀ wi : TI, xs.length = ys.length → EvI wi (L2.start nSame [v, u]) Bb (zipD xs ys) → EvD (tLc wi (gTup K 2 (gCons (gName 2) (gCons (gName 3) gNil))) tYes (tCall (spP 2 (rSame n)) [] E0 (tCons (tVar 2) (tCons (tVar 3) tNil))) [2, 3]) (L2.start nSame [v, u]) Bb (.list ((zipD xs ys).map ww)) := fun wi hl hi => by
        refine ed_is (ed_lc (fun _ => true) ww hi (by rw [zip_len _ _ hl]; omega) fun d xv H' hd e' hxv => ?_) (by rw [filter_tt])
        obtain ⟨a, b, rfl, ha, hb'⟩ := zmem _ _ _ hd
        cases hxv with
        | tup hA hS =>
          obtain ⟨va, vb, rfl, ta, tb⟩ := tp2 hS
          refine ⟨((wipe (L2.start nSame [v, u]) [2, 3]).set 2 (some va)).set 3 (some vb), fun Hx k ex hk => ⟨_, _, rfl, st_of (ex _ _ hA), rfl, _, _, rfl, _, _, rfl, rfl, hk⟩, rfl, et_yes, fun _ => ?_⟩
          exact ed_call (es_cons (ed_var rfl ta) (es_cons (ed_var rfl tb) es_nil)) rfl ⟨a, b, rfl, by have := dmem ys b hb'; omega, shaped_mem sxs ha, shaped_mem sys hb', wys.2 b hb', rfl⟩
      have allE : ∀ wi : TI, xs.length = ys.length → EvI wi (L2.start nSame [v, u]) Bb (zipD xs ys) → EvD (tCB (rAll K) (tCons (tLc wi (gTup K 2 (gCons (gName 2) (gCons (gName 3) gNil))) tYes (tCall (spP 2 (rSame n)) [] E0 (tCons (tVar 2) (tCons (tVar 3) tNil))) [2, 3]) tNil)) (L2.start nSame [v, u]) Bb (.bool (sameD x y)) := fun wi hl hi => by
        obtain ⟨cs, h1, h2⟩ := zmap xs ys hl
        have z := lc wi hl hi
        rw [h1] at z
        rw [sD, ← h2]
        exact ed_cb (es_cons z es_nil) rc_all
      have fin : ∀ ha : decide ((xs.length : Int) = (ys.length : Int)) = false, PyData.bool (sameD x y) = .bool false := fun ha => by
        rw [sD, unl xs ys (by have := of_decide_eq_false ha; omega)]
      rcases hxy with ⟨rfl, rfl⟩ | ⟨rfl, rfl⟩
      · exact out b2 (ed_andV (ed_op (ed_cb (es_cons (ed_var (i := 0) rfl hx) es_nil) (rc_lenL (K := K))) (ed_cb (es_cons (ed_var (i := 1) rfl hy) es_nil) (rc_lenL (K := K))) rd_eqI) (fun ha => allE _ (by have := of_decide_eq_true ha; omega) (ei_zipL (by have := of_decide_eq_true ha; omega) (es_cons (ed_var (i := 0) rfl hx) (es_cons (ed_var (i := 1) rfl hy) es_nil)))) fin)
      · exact out b2 (ed_andV (ed_op (ed_cb (es_cons (ed_var (i := 0) rfl hx) es_nil) (rc_lenT (K := K))) (ed_cb (es_cons (ed_var (i := 1) rfl hy) es_nil) (rc_lenT (K := K))) rd_eqI) (fun ha => allE _ (by have := of_decide_eq_true ha; omega) (ei_zipT (by have := of_decide_eq_true ha; omega) (es_cons (ed_var (i := 0) rfl hx) (es_cons (ed_var (i := 1) rfl hy) es_nil)))) fin)
  · have b1 := s0.keep e1
    have nd : isD y = false := by
      cases y with
      | dict kvs => simp [wide] at wy
      | _ => rfl
    refine q_whenD b1.c (b := isD y) (et_BD (isi1 "dict" _ _ (Ex.refl _) fun K => kit_dictS K y)) (fun hb2 H2 e2 => by rw [nd] at hb2; cases hb2) (fun hb2 H2 e2 => ?_)
    have b2 := b1.keep e2
    refine q_whenD b2.c (b := isI2 y) (et_BD (isi1 "int" _ _ (Ex.refl _) fun K => kit_intS K y)) (fun hb3 H3 e3 => ?_) (fun hb3 H3 e3 => ?_)
    · have b3 := b2.keep e3
      refine out b3 (ed_andV (a := isI2 x) (isi0 "int" _ _ (Ex.refl _) fun K => kit_intS K x) (fun ha => ed_andV (a := isB x == isB y) (ed_op (isi0 "bool" _ _ (Ex.refl _) fun K => kit_boolS K x) (isi1 "bool" _ _ (Ex.refl _) fun K => kit_boolS K y) rd_eqB) (fun ha2 => ed_is (ed_op (ed_var (i := 0) rfl hx) (ed_var (i := 1) rfl hy) (rd_eqD sx sy)) ?_) fun ha2 => ?_) fun ha => ?_)
      · cases y <;> cases x <;> first | rfl | (cases hb3; done) | (cases ha; done) | (cases ha2; done)
      · cases y <;> cases x <;> first | rfl | (cases hb3; done) | (cases ha; done) | (cases ha2; done)
      · cases y <;> cases x <;> first | rfl | (cases hb3; done) | (cases ha; done)
    · have b3 := b2.keep e3
      refine out b3 (ed_andV (a := !isNo x) (ed_notV (ed_isi4 (ed_var (i := 0) rfl hx) fun K => kit_noS K x)) (fun ha => ed_is (ed_op (ed_var (i := 0) rfl hx) (ed_var (i := 1) rfl hy) (rd_eqD sx sy)) ?_) fun ha => ?_)
      · cases y <;> cases x <;> first | rfl | (cases hb3; done) | (cases ha; done) | (cases hb; done) | (cases nd; done)
      · cases y <;> cases x <;> first | rfl | (cases hb3; done) | (cases ha; done) | (cases hb; done) | (cases nd; done)
end
end K50
set_option maxHeartbeats 4000000
namespace K50
open PySem PySem.Spec PyProof.Rows L2 Evl RZ Dl
section
variable {P : Program} {w : World} {K : PySem.W.Frag} {mg : Str → Option Value} {base : Heap}
theorem same_zero {f : Addr} {fd : FuncData} (F : Fun K "_law_same" "_law_same" sSame f fd) : FnOk P w K mg base CX0 1 f fd ["found", "due"] (spP 2 (rSame 0)) := by
  refine F.ok scSame (fun vs H Q E h => spP_len h) (fun cdv A outer s H vs Q E hr h => ?_)
  obtain ⟨Bb, ds, d, e, hv, hn, ⟨x, y, _, hz, _⟩, q⟩ := h
  exact absurd hz (Nat.not_lt_zero _)
theorem ok_same {f : Addr} {fd : FuncData} (F : Fun K "_law_same" "_law_same" sSame f fd) (B : Bl mg) (gS : mg "_law_same" = some (.ref f)) (kS : PySem.W.keepIn K (.ref f) = true) (bS : L2.Binds K fd ["found", "due"] []) :
    ∀ n, FnOk P w K mg base CX0 (n + 1) f fd ["found", "due"] (spP 2 (rSame n))
  | 0 => same_zero F
  | n + 1 => same_step F B (ok_same F B gS kS bS n) gS kS bS
/-! ### the law's order of words -/
def keyD : PyData → PyData
  | .tuple xs => .tuple [.int 2, .tuple (keyAll xs)]
  | .str s => .tuple [.int 1, .str s]
  | .int i => .tuple [.int 0, .int i]
  | d => d
where keyAll : List PyData → List PyData
  | [] => []
  | x :: xs => keyD x :: keyAll xs
theorem keyAll_map : ∀ xs, keyD.keyAll xs = xs.map keyD
  | [] => rfl
  | x :: xs => congrArg (keyD x :: ·) (keyAll_map xs)
/-- words, to a depth, of some width -/
def wordly : PyData → Bool
  | .tuple xs => decide (xs.length ≤ 1000) && wordlyAll xs
  | .str _ => true
  | .int _ => true
  | _ => false
where wordlyAll : List PyData → Bool
  | [] => true
  | x :: xs => wordly x && wordlyAll xs
theorem wordly_mem : ∀ {xs : List PyData} {x : PyData}, wordly.wordlyAll xs = true → x ∈ xs → wordly x = true
  | y :: ys, x, h, hm => by
    have h2 : wordly y = true ∧ wordly.wordlyAll ys = true := by
      have h3 : (wordly y && wordly.wordlyAll ys) = true := h
      simpa using h3
    rcases List.mem_cons.mp hm with rfl | hm
    · exact h2.1
    · exact wordly_mem h2.2 hm
theorem depth_mem : ∀ {xs : List PyData} {x : PyData}, x ∈ xs → PyData.depth x ≤ PyData.depthAll xs
  | y :: ys, x, hm => by
    have z : PyData.depthAll (y :: ys) = max (PyData.depth y) (PyData.depthAll ys) := rfl
    rcases List.mem_cons.mp hm with rfl | hm
    · omega
    · have := depth_mem hm
      omega
def rKey (n : Nat) : List PyData → PyData → Prop := fun ds d => ∃ x, ds = [x] ∧ PyData.depth x < n ∧ wordly x = true ∧ d = keyD x
abbrev nKey : List Str := ["word", "part"]
end
end K50
set_option maxHeartbeats 4000000
namespace Dl
open PySem PySem.W PySem.Calls PySem.Spec PyProof.Rows L2 RZ
section
variable {X : Cx} {A : Around} {E : Value → Shared → Prop} {Pst : PySem.Fin → Shared → Prop} {k : Nat} {f : Addr} {fd : FuncData} {x : Str} {R : List PyData → PyData → Prop}
/-- what holds while the keys are made -/
structure KeyJ (X : Cx) (pins : List (Addr × Obj)) (σ : L2.St) (B H : Hp) (a kS : Addr) (e1 : Nat) (kz : List PyData) (i : Nat) (s' : Shared) : Prop where
  ex : ∃ (Hc : Hp) (kA : Array Value) (e : Nat), Inv X pins σ Hc s' ∧ Evl.Ex H Hc ∧ FpOk X pins Hc a ∧ FpOk X pins Hc kS ∧ s'.heap.get? kS = some (seqObj "list" kA e) ∧ s'.heap.get? a = some (seqObj "list" #[] e1) ∧
    EachIs (fun v d => ∃ u, RelV u v ∧ Tp Hc u d) kA.toList (kz.take i)
theorem call_key {pins : List (Addr × Obj)} {σ : L2.St} {s : Shared} {Hc B : Hp} {u : V} {v : Value} {d d' : PyData} {Q : Value → Shared → Prop} (hA : A.frames = X.A.frames) (hr : Room k A) (F : FnOk X.prog X.w X.K X.mg X.base CX0 k f fd [x] (spP 1 R)) (hb : L2.Binds X.K fd [x] [])
    (I : Inv X pins σ Hc s) (eB : Evl.Ex B Hc) (rv : RelV u v) (ht : Tp B u d) (hR : R [d] d') (q : ∀ (v' : Value) (s2 : Shared) (u' : V) (H2 : Hp), Inv X pins σ H2 s2 → RelV u' v' → Evl.Ex Hc H2 → Tp H2 u' d' → Q v' s2) :
    wpAny (model X.prog X.w) A (call (.ref f) [v]) Q E s := by
  have e0 : Env0 X.prog X.w X.K X.mg X.base A X.stack s Hc := ⟨hA.trans I.ok.frames, I.ok.mod, I.bs, Nat.le_trans I.ok.bsz I.sz, I.stack, I.stkFree, I.hok, I.bare⟩
  have sp : spP 1 R [u] Hc (fun u' H2 => Evl.Ex Hc H2 ∧ Tp H2 u' d') E0 := ⟨B, [d], d', eB, .cons ht .nil, rfl, hR, fun w H2 e2 hw => ⟨e2, Tp.ex (gr_sub eB e2) _ _ hw⟩⟩
  have b := hb s [v] I.kIn rfl
  rw [List.append_nil] at b
  refine wpAny_call (codeAny_mono (F.run A X.stack s Hc ⟨[v], []⟩ [v] [u] _ _ hr e0 b (.cons rv .nil) sp) fun r s' hq => ?_)
  cases r with
  | error e => exact False.elim hq
  | ok fl =>
    cases fl with
    | ret w =>
      obtain ⟨u', H2, I2, r2, ex2, t2⟩ := I.after hq
      exact q w s' u' H2 I2 r2 ex2 t2
    | next => exact False.elim hq
    | brk => exact False.elim hq
    | cont => exact False.elim hq
theorem Tp.rd {pins : List (Addr × Obj)} {σ : L2.St} {s : Shared} {H : Hp} {u : V} {v : Value} {d : PyData} (I : Inv X pins σ H s) (r : RelV u v) (h : Tp H u d) (hn : nd d = true) : ∃ as, Reads s.heap v d as := Dp.reads I d u v (Tp.dp d u hn h) r
theorem sortF_rest {pins : List (Addr × Obj)} {σ : L2.St} {s : Shared} {H B : Hp} {xs : List V} {vs : List Value} {ds : List PyData} {a kS : Addr} {e1 : Nat} {key : PyData → PyData} (hA : A.frames = X.A.frames) (hr : Room k A) (F : FnOk X.prog X.w X.K X.mg X.base CX0 k f fd [x] (spP 1 R)) (hb : L2.Binds X.K fd [x] [])
    (I : Inv X pins σ H s) (fa : FpOk X pins H a) (fk : FpOk X pins H kS) (hka : kS ≠ a) (nk : s.heap.get? kS = some (seqObj "list" #[] 0)) (na : s.heap.get? a = some (seqObj "list" #[] e1))
    (rv : Vals xs vs) (eB : Evl.Ex B H) (ht : TpAll B xs ds) (hR : ∀ d ∈ ds, R [d] (key d)) (hnd : ∀ d ∈ ds, nd (key d) = true) (hal : AllAlike (ds.map key)) (hsk : Sortable (ds.map key)) (hu : ∀ d, d ∈ ds.map key → A.units + d.depth < cLine) (hZ : vs.length ≤ sizeLine)
    (h : ∀ (s' : Shared) (H' : Hp) (out : List Value) (c : Nat), Inv X pins σ H' s' → Evl.Ex H H' → FpOk X pins H' a → s'.heap.get? a = some (seqObj "list" (List.toArray out) c) → KeyedOut false (ds.map key) vs out → Pst (.done (.ret .none)) s') :
    wpAny (model X.prog X.w) A (ksk_rest a (.ref f) false vs.toArray e1 (.ref kS)) Pst E s := by
  have hlx : vs.length = ds.length := by rw [← rv.length, dp_len ht]
  unfold ksk_rest
  refine wpAny_bind (wpAny_rule ?_)
  first
    | rw [List.forIn_toArray]
    | (rw [← Array.forIn_toList]; simp only [List.toList_toArray])
    | rw [← Array.forIn_toList]
  refine wpAny_bind (ksk_fold (fun i s' => KeyJ X pins σ B H a kS e1 (ds.map key) i s') vs 0 s ⟨H, #[], 0, I, Evl.Ex.refl _, fa, fk, nk, na, by rw [List.take_zero]; exact EachIs.nil⟩ ?step ?done)
  case step =>
    rintro j y s' hy ⟨Hc, kA, e, I', ec, fa', fk', nk', na', hk⟩
    simp only [Nat.zero_add] at hk ⊢
    have hj : j < vs.length := (List.getElem?_eq_some_iff.mp hy).1
    obtain ⟨u, hu1, hu2⟩ : ∃ u, xs[j]? = some u ∧ RelV u y := by
      have hlt : j < xs.length := by rw [rv.length]; exact hj
      obtain ⟨w, h1, h2⟩ := rv.get (List.getElem?_eq_getElem hlt)
      rw [hy] at h1
      obtain rfl := Option.some.inj h1
      exact ⟨_, List.getElem?_eq_getElem hlt, h2⟩
    obtain ⟨d, hd, htd⟩ := dp_getV ht hu1
    have hm := List.mem_of_getElem? hd
    refine wpAny_bind (wpAny_attempt ?_)
    have pin1 : Inv X (pins ++ [(kS, seqObj "list" kA e), (a, seqObj "list" #[] e1)]) σ Hc s' := I'.pins_of fun p hp => by
      rcases List.mem_append.mp hp with hp | hp
      · exact I'.pin p (List.mem_append_right _ hp)
      · rcases List.mem_cons.mp hp with rfl | hp
        · exact ⟨nk', fk'.1, fk'.2.1, fk'.2.2.1, fun v q => by cases q⟩
        · obtain rfl := List.mem_singleton.mp hp
          exact ⟨na', fa'.1, fa'.2.1, fa'.2.2.1, fun v q => by cases q⟩
    refine call_key hA hr F hb pin1 (eB.trans ec) hu2 htd (hR d hm) fun v' s2 u' H2 I2 r2 ex2 t2 => ?_
    have p1 := I2.pin (kS, seqObj "list" kA e) (by simp)
    have p2 := I2.pin (a, seqObj "list" #[] e1) (by simp)
    have I3 : Inv X pins σ H2 s2 := I2.pins_of fun p hp => I2.pin p (List.mem_append_right _ (List.mem_append_left _ hp))
    have nk2 : s2.heap.get? kS = some (seqObj "list" kA e) := p1.1
    have na2 : s2.heap.get? a = some (seqObj "list" #[] e1) := p2.1
    have fk2 : FpOk X pins H2 kS := ⟨p1.2.1, fk'.2⟩
    have fa2 : FpOk X pins H2 a := ⟨p2.2.1, fa'.2⟩
    have hz : kA.size ≤ vs.length := by
      have h1 := hk.length
      rw [Array.length_toList, List.length_take] at h1
      omega
    try dsimp only
    have s1 := Heap.SameBut.update s2.heap kS (Obj.mapSeq (·.push v'))
    obtain ⟨c2, hc2⟩ : ∃ c2, (s2.heap.update kS (Obj.mapSeq (·.push v'))).get? kS = some (seqObj "list" (kA.push v') c2) := ⟨_, get?_update_seq nk2 (·.push v')⟩
    have ek : (ds.map key).take (j + 1) = (ds.map key).take j ++ [key d] := by rw [List.take_add_one, List.getElem?_map, hd]; rfl
    have ea : (kA.push v').toList = kA.toList ++ [v'] := by simp
    refine wpAny_bind (listUpdate_at nk2 rfl ?_ (Nat.le_trans hz hZ) (Nat.le_trans (Nat.le_of_eq (Array.size_push ..)) (Nat.succ_le_succ (Nat.le_trans hz hZ))))
    have I4 : Inv X pins σ H2 { s2 with heap := s2.heap.update kS (Obj.mapSeq (·.push v')) } := I3.turned (it := kS) (t' := s2.toks) (fun b o hb q => (s1.2 b hb).trans q) fk2.1 fk2.2.1 fk2.2.2.2.1 fk2.2.2.2.2.1 fk2.2.2.2.2.2
    refine wpAny_pure ⟨rfl, H2, kA.push v', c2, I4, ec.trans ex2, fa2, fk2, hc2, (s1.2 a hka.symm).trans na2, ?_⟩
    rw [ea, ek]
    exact each_snoc (R := fun (v : Value) (d : PyData) => ∃ u, RelV u v ∧ Tp H2 u d) ⟨u', r2, t2⟩ (hk.mono fun v d ⟨u, q1, q2⟩ => ⟨u, q1, Tp.ex ex2 _ _ q2⟩)
  case done =>
    rintro s' ⟨Hc, kA, e, I', ec, fa', fk', nk', na', hk⟩
    have e3 : (ds.map key).take (0 + vs.length) = ds.map key := List.take_of_length_le (by rw [List.length_map]; omega)
    rw [e3] at hk
    have hndz : ∀ d ∈ ds.map key, nd d = true := fun d hd => by
      obtain ⟨b, hb1, rfl⟩ := List.mem_map.mp hd
      exact hnd b hb1
    have hk' : EachIs (fun v k => ∃ as, Reads s'.heap v k as) kA.toList (ds.map key) := (each_mem hk).mono fun v d ⟨⟨u, q1, q2⟩, hm⟩ => Tp.rd I' q1 q2 (hndz d hm)
    have hsz : kA.size = vs.length := by
      have h1 := hk.length
      rw [Array.length_toList, List.length_map] at h1
      omega
    try dsimp only
    refine wpAny_bind (listItems_at nk' rfl ?_)
    obtain ⟨G, g1, g2⟩ := restrict s'.heap fun b => decide (b ≠ kS)
    have gk : ∀ b o, G.get? b = some o → s'.heap.get? b = some o := fun b o q => by
      by_cases hbk : b = kS
      · rw [g2 b (decide_eq_false fun z => z hbk)] at q
        cases q
      · rw [g1 b (decide_eq_true hbk)] at q
        exact q
    refine keyH_end (κ := dataKind s'.heap (ds.map key)) (h₁ := G) (fun b o _ q => gk b o q) (g2 kS (decide_eq_false fun z => z rfl)) nk' na' hka (SortsAt.data hk' hal hsk hu) hsz hZ fun h3 tk3 c k3 n3 => ?_
    refine h _ Hc _ c (I'.turnedL (t' := tk3) (ch := [a, kS]) (fun b o hb q => ?_) fun b hb => ?_) ec fa' n3 ⟨s'.heap, kA.toList, hal, rfl, hk'⟩
    · have n1 : b ≠ a := fun z => hb (by simp [z])
      have n2 : b ≠ kS := fun z => hb (by simp [z])
      exact k3 b o n1 (by rw [g1 b (decide_eq_true n2)]; exact q)
    · rcases List.mem_cons.mp hb with rfl | hb
      · exact fa'
      · rw [List.mem_singleton.mp hb]
        exact fk'
end
end Dl
set_option maxHeartbeats 4000000
namespace Dl
open PySem PySem.W PySem.Calls PySem.Spec PyProof.Rows L2 RZ
section
variable {X : Cx} {pins : List (Addr × Obj)} {σ : L2.St} {H : Hp} {s : Shared} {a : Addr} {o : HO}
/-- an object that is not tracked yet, and no frame's, no pin's, becomes tracked -/
theorem Inv.track (I : Inv X pins σ H s) (fa : FpOk X pins H a) (new : ObjOk X.prog X.w (upd H a o) s.heap a o) : Inv X pins σ (upd H a o) s := by
  obtain ⟨f0, f1, f2, f3, f4, f5⟩ := fa
  have ne0 : ∀ b u, H b = some u → b ≠ a := fun b u e z => by rw [z, f0] at e; cases e
  refine ⟨I.ok, I.os, I.bare, ⟨fun b ob q n hf hx => I.base.keep b ob q n hf hx, fun b ob q n hf hx => I.base.slot b ob q n hf hx, fun b ob q n hx => ?_, I.base.there, fun b xs q => ?_, fun b ob u q => ?_, fun b ps q => ?_⟩, I.loc, I.cell, ?_, fun x c q => ?_, fun p hp => ?_, I.hok.laidN (fun b u q => q) f0 new, I.len⟩
  · have z := I.base.free b ob q n hx
    have nb : b ≠ a := fun e => by
      subst e
      rcases f3 with f3 | f3
      · exact hx f3
      · exact absurd (Nat.lt_of_lt_of_le (Heap.lt_size q) f3) (Nat.lt_irrefl _)
    rw [upd_ne nb]
    exact z
  · have z := I.base.tups b xs q
    rw [upd_ne (ne0 _ _ z)]
    exact z
  · have z := I.base.frzs b ob u q
    rw [upd_ne (ne0 _ _ z)]
    exact z
  · obtain ⟨more, z⟩ := I.base.tbls b ps q
    exact ⟨more, by rw [upd_ne (ne0 _ _ z)]; exact z⟩
  · rw [upd_ne (fun z => f1 z.symm)]
    exact I.free
  · rw [upd_ne (f4 x c q)]
    exact I.freeC x c q
  · obtain ⟨p1, p2, p3⟩ := I.pin p hp
    exact ⟨p1, by rw [upd_ne (f5 p hp)]; exact p2, p3⟩
end
section
variable {X : Cx} {A : Around} {E : Value → Shared → Prop} {Pst : PySem.Fin → Shared → Prop} {k : Nat} {f : Addr} {fd : FuncData} {x : Str} {R : List PyData → PyData → Prop}
theorem sortF_tree {pins : List (Addr × Obj)} {σ : L2.St} {s : Shared} {H B : Hp} {xs : List V} {vs : List Value} {ds : List PyData} {a : Addr} {n : Nat} {key : PyData → PyData} (hA : A.frames = X.A.frames) (hr : Room k A) (F : FnOk X.prog X.w X.K X.mg X.base CX0 k f fd [x] (spP 1 R)) (hb : L2.Binds X.K fd [x] [])
    (I : Inv X pins σ H s) (fa : FpOk X pins H a) (ho : s.heap.get? a = some (seqObj "list" vs.toArray n))
    (rv : Vals xs vs) (eB : Evl.Ex B H) (ht : TpAll B xs ds) (hR : ∀ d ∈ ds, R [d] (key d)) (hnd : ∀ d ∈ ds, nd (key d) = true) (hal : AllAlike (ds.map key)) (hsk : Sortable (ds.map key)) (hu : ∀ d, d ∈ ds.map key → A.units + d.depth < cLine) (hZ : vs.length ≤ sizeLine)
    (h : ∀ (s' : Shared) (H' : Hp) (out : List Value) (c : Nat), Inv X pins σ H' s' → Evl.Ex H H' → FpOk X pins H' a → s'.heap.get? a = some (seqObj "list" (List.toArray out) c) → KeyedOut false (ds.map key) vs out → Pst (.done (.ret .none)) s') :
    wpAny (model X.prog X.w) A (ksk_tree a (.ref f) false) Pst E s := by
  have ha : a < s.heap.objs.size := Heap.lt_size ho
  obtain ⟨e1, ho1⟩ : ∃ e1, (s.heap.update a (Obj.mapSeq fun _ => (#[] : Array Value))).get? a = some (seqObj "list" #[] e1) := ⟨_, get?_update_seq ho fun _ => #[]⟩
  have hkS : ((s.heap.update a (Obj.mapSeq fun _ => (#[] : Array Value))).push (seqObj "tuple" vs.toArray 0)).objs.size = s.heap.objs.size + 1 := by rw [size_push', Heap.size_update]
  unfold ksk_tree
  refine wpAny_bind (listItems_at ho rfl ?_)
  refine wpAny_bind (listUpdate_at ho rfl ?_ (by rw [List.size_toArray]; exact hZ) (Nat.zero_le _))
  refine wpAny_bind (seqEpoch_at ho1 rfl ?_)
  refine wpAny_bind (wpAny_newTuple ?_ (by show vs.length ≤ _; exact hZ))
  refine wpAny_bind (wpAny_newList ?_ (Nat.zero_le _))
  refine wpAny_holding ?_
  have I2 : Inv X pins σ H { s with heap := ((s.heap.update a (Obj.mapSeq fun _ => (#[] : Array Value))).push (seqObj "tuple" vs.toArray 0)).push (seqObj "list" #[] 0) } :=
    I.turned (it := a) (t' := s.toks) (fun b o hb q => sortingHeap_old hb q) fa.1 fa.2.1 fa.2.2.2.1 fa.2.2.2.2.1 fa.2.2.2.2.2
  have fk : FpOk X pins H ((s.heap.update a (Obj.mapSeq fun _ => (#[] : Array Value))).push (seqObj "tuple" vs.toArray 0)).objs.size := I.fpOk (by rw [hkS]; exact Nat.le_succ _) (I.hok.fresh (by rw [hkS]; exact Nat.le_succ _))
  exact sortF_rest (e1 := e1) hA hr F hb I2 fa fk (by rw [hkS]; exact Nat.ne_of_gt (Nat.lt_succ_of_lt ha)) (Heap.get?_push_size _ rfl) (Heap.get?_push_of_some _ (Heap.get?_push_of_some _ ho1)) rv eB ht hR hnd hal hsk hu hZ h
theorem each_of {B : Hp} : ∀ {xs : List V} {vs : List Value} {ds : List PyData}, Vals xs vs → TpAll B xs ds → EachIs (fun (v : Value) (d : PyData) => ∃ u, RelV u v ∧ Tp B u d) vs ds
  | _, _, _, .nil, .nil => .nil
  | _, _, _, .cons r t, .cons a b => .cons ⟨_, r, a⟩ (each_of t b)
theorem of_each {B : Hp} : ∀ {vs : List Value} {ds : List PyData}, EachIs (fun (v : Value) (d : PyData) => ∃ u, RelV u v ∧ Tp B u d) vs ds → ∃ ys, Vals ys vs ∧ TpAll B ys ds
  | _, _, .nil => ⟨[], .nil, .nil⟩
  | _, _, .cons ⟨u, r, a⟩ t => by
    obtain ⟨ys, h1, h2⟩ := of_each t
    exact ⟨u :: ys, .cons r h1, .cons a h2⟩
/-- sorted(xs, key=f), f a def that tells data -/
def rSortF (f : Addr) (R : List PyData → PyData → Prop) : List V → List V → Hp → VK → Prop := fun vs zs H Q => ∃ (a : Addr) (xs : List V) (B : Hp) (ds : List PyData) (key : PyData → PyData), vs = [V.ref a] ∧ zs = [V.ref f] ∧ Evl.Ex B H ∧ B a = some (.lst xs) ∧ TpAll B xs ds ∧
  (∀ d ∈ ds, R [d] (key d)) ∧ (∀ d ∈ ds, nd (key d) = true) ∧ AllAlike (ds.map key) ∧ Sortable (ds.map key) ∧ (∀ d ∈ ds, (key d).depth ≤ 30) ∧ ds.length ≤ 100000 ∧
  ∀ (p : Addr) (H' : Hp) (ys : List V), H p = none → Evl.Ex H H' → H' p = some (.lst ys) → TpAll B ys (ds.mergeSort (dataLe false key)) → Q (.ref p) H'
theorem crk_sortF {k : Nat} (hr : Room (k + 1) X.A) (F : FnOk X.prog X.w X.K X.mg X.base CX0 k f fd [x] (spP 1 R)) (hb : L2.Binds X.K fd [x] []) : CallRK X (.builtin "sorted") [Str.ofString "key"] (rSortF f R) := by
  intro pins s σ H vs zs us ws Q I r rz h
  obtain ⟨a, xs, B, ds, key, rfl, rfl, eB, hBa, ht, hR, hnd, hal, hsk, hdp, hlen, q⟩ := h
  obtain rfl := Vals.ref1 r
  obtain ⟨w1, rfl, ew⟩ := vals1 rz
  obtain rfl : w1 = Value.ref f := ew
  obtain ⟨its, rv, hl, hz⟩ := I.list (Evl.sq_of (eB _ _ hBa))
  have hx := rv.length
  have hd := dp_len ht
  have hZ : its.length ≤ sizeLine := Evl.sz_of (by omega)
  refine sorted_of_sort hl.isList hZ (PyProof.Rows.ksk_s1 _ _) (fun _ => PyProof.Rows.ksk_l1 _ _) fun E' => ?_
  rw [show (([Str.ofString "key"] : List Str).zip [Value.ref f]) = [(Str.ofString "key", Value.ref f)] from rfl, ksk_t1]
  have I1 : Inv X pins σ H { s with heap := copyHeap s.heap its } := I.kept (t' := s.toks) fun b o e => copyHeap_old e
  have fa : FpOk X pins H (s.heap.objs.size + 1) := I.fpOk (Nat.le_succ _) (I.hok.fresh (Nat.le_succ _))
  have hr2 : Room k X.A.in1.in1 := ⟨hr.hd, by have := hr.dp; show X.A.depth + 3 * k + 5 < _; omega, by have := hr.un; show X.A.units + 1 + 1 + 16 * k + 200 < _; omega⟩
  refine sortF_tree (A := X.A.in1.in1) rfl hr2 F hb I1 fa (copyHeap_at s.heap its) rv eB ht hR hnd hal hsk (fun d hd => ?_) hZ fun s' H' out c I2 ex2 fa2 ho2 hko => ⟨rfl, ?_⟩
  · obtain ⟨b, hb1, rfl⟩ := List.mem_map.mp hd
    have := hdp b hb1
    have := hr.un
    show X.A.units + 1 + 1 + _ < _
    omega
  · obtain ⟨ys, h1, h2⟩ := of_each (keyedOut_each key hko (each_of rv ht))
    have hly : ys.length ≤ sizeLine := by
      rw [dp_len h2, List.length_mergeSort]
      exact Evl.sz_of hlen
    exact ⟨.ref _, _, Inv.track (o := .lst ys) I2 fa2 ⟨hly, out, c, h1, ho2⟩, rfl, q _ _ ys (I.hok.fresh (Nat.le_succ _)) (ex2.trans (Evl.Ex.new fa2.1)) upd_same h2⟩
end
end Dl
set_option maxHeartbeats 4000000
namespace Dl
open PySem PySem.W PySem.Spec PyProof.Rows L2 Evl RZ
theorem ed_sort {σ : L2.St} {H : Hp} {te : TE} {f : Addr} {R : List PyData → PyData → Prop} {ds : List PyData} {key : PyData → PyData} (h : EvD te σ H (.list ds))
    (hR : ∀ d ∈ ds, R [d] (key d)) (hnd : ∀ d ∈ ds, nd (key d) = true) (hal : AllAlike (ds.map key)) (hsk : Sortable (ds.map key)) (hdp : ∀ d ∈ ds, (key d).depth ≤ 30) (hl : ds.length ≤ 100000) :
    EvD (tCKw (rSortF f R) (tCons te tNil) (tCons (tC (.ref f)) tNil)) σ H (.list (ds.mergeSort (dataLe false key))) := fun H1 e Q q =>
  h H1 e _ fun v H2 e2 hv => by
    cases hv with
    | lst ha hs => exact ⟨_, _, gr H H1 H2, ds, key, rfl, rfl, gr_sub e e2, ha, hs, hR, hnd, hal, hsk, hdp, hl, fun p H' ys hp e3 hy ht => q _ H' (e2.trans e3) (.lst (gr_new (fresh_back e2 hp) hy) (TpAll.ex (gr_l e3) _ _ ht))⟩
end Dl
namespace K50
open PySem PySem.W PySem.Spec PyProof.Rows L2 Evl RZ Dl
section
variable {P : Program} {w : World} {K : PySem.W.Frag} {mg : Str → Option Value} {base : Heap}
end
/-! ### rows of whole numbers of one length -/
def intsT (ns : List Int) : PyData := .tuple (ns.map PyData.int)
def IntRows (k : Nat) (ds : List PyData) : Prop := ∀ d ∈ ds, ∃ ns : List Int, d = intsT ns ∧ ns.length = k
def keyZ (i : Int) : PyData := .tuple [.int 0, .int i]
theorem keyD_ints (ns : List Int) : keyD (intsT ns) = .tuple [.int 2, .tuple (ns.map keyZ)] := by
  show PyData.tuple [.int 2, .tuple (keyD.keyAll (ns.map PyData.int))] = _
  rw [keyAll_map, List.map_map]
  rfl
theorem alikeZ : ∀ ns ms : List Int, alikeAll (ns.map keyZ) (ms.map keyZ) = true
  | [], _ => by simp [alikeAll]
  | n :: ns, [] => by simp [alikeAll]
  | n :: ns, m :: ms => by
    have ih := alikeZ ns ms
    rw [List.map_cons, List.map_cons, alikeAll, ih, Bool.and_true]
    simp [keyZ, alike, alikeAll]
theorem alike_ints (ns ms : List Int) : alike (keyD (intsT ns)) (keyD (intsT ms)) = true := by
  rw [keyD_ints, keyD_ints]
  simp [alike, alikeAll, alikeZ]
theorem ndZ : ∀ ns : List Int, nd.ndAll (ns.map keyZ) = true
  | [] => rfl
  | n :: ns => by
    show (nd (keyZ n) && nd.ndAll (ns.map keyZ)) = true
    rw [ndZ ns]
    rfl
theorem depZ : ∀ ns : List Int, PyData.depthAll (ns.map keyZ) ≤ 1
  | [] => Nat.zero_le _
  | n :: ns => by
    have h : PyData.depthAll ((n :: ns).map keyZ) = max (PyData.depth (keyZ n)) (PyData.depthAll (ns.map keyZ)) := rfl
    have h2 : PyData.depth (keyZ n) = 1 := rfl
    have := depZ ns
    omega
theorem wordlyI : ∀ ns : List Int, wordly.wordlyAll (ns.map PyData.int) = true
  | [] => rfl
  | n :: ns => by
    show (wordly (.int n) && wordly.wordlyAll (ns.map PyData.int)) = true
    rw [wordlyI ns]
    rfl
theorem wordly_ints {ns : List Int} (h : ns.length ≤ 1000) : wordly (intsT ns) = true := by
  show (decide ((ns.map PyData.int).length ≤ 1000) && wordly.wordlyAll (ns.map PyData.int)) = true
  rw [wordlyI, decide_eq_true (by rw [List.length_map]; exact h)]
  rfl
theorem depth_ints (ns : List Int) : PyData.depth (intsT ns) = 1 := congrArg (· + 1) (depInts ns)
def ascD (ds : List PyData) : List PyData := ds.mergeSort (dataLe false keyD)
def rAsc : List PyData → PyData → Prop := fun ds d => ∃ xs k, ds = [.list xs] ∧ IntRows k xs ∧ k ≤ 1000 ∧ xs.length ≤ 1000 ∧ d = .list (ascD xs)
section
variable {P : Program} {w : World} {K : PySem.W.Frag} {mg : Str → Option Value} {base : Heap}
end
end K50
set_option maxHeartbeats 4000000
namespace PySem
namespace K0K
open PySem.W PySem.Calls PyProof.Rows PySem.HandSPX
section
variable {M : Model} {A : Around} {E : Value → Shared → Prop} {h : Heap} {g : Array GenState} {d : Drawn} {t : Nat} {os : OsState}
variable {nm q : Str} {C N : Addr} {bs bm bmB : List Value} {hdct : Bool} {sn : List Str} {sub : List Value} {ab : Bool} {col : Option Bool} {dd : Option Addr} {k0 k1 k2 k3 k5 : Option Value} {B newId initId : String}
theorem check_newK (F : ExcBaseFacts B newId initId bmB) (hT : ∀ X : String, bm.contains (.type X) = bmB.contains (.type X)) {rest : List Value} {kw : List (Str × Value)} {Q : Unit → Shared → Prop}
    (hC : h.get? C = some (excClassObj nm q C N bs bm hdct sn sub ab col dd k0 k1 k2 k3 k5 newId)) (hq : Q () ⟨h, g, d, t, os⟩) : wpAny M A (checkBuiltinCall newId ⟨.ref C :: rest, kw⟩) Q E ⟨h, g, d, t, os⟩ := by
  have hcont : (Value.ref C :: bm).contains (.type B) = true := by rw [List.contains_cons, hT, F.hasB, Bool.or_true]
  have hstar := F.noStar
  simp only [checkBuiltinCall, F.newKind, F.newSplit, F.newRow]
  repeat (first | refine wpAny_loadPart_at hC ?_ | (refine wpAny_isSubtype_exc hC ?_; rw [hcont]) | refine wpAny_staticBase_exc hC ?_ | refine wpAny_madeBy_exc hC ?_ | simp only [bne_self_eq_false, Bool.false_eq_true, if_false] | wp_step)
  exact hq
end
section
variable {prog : Program} {w : World} {A : Around} {E : Value → Shared → Prop} {R : Result → Shared → Prop} {h : Heap} {g : Array GenState} {d : Drawn} {t : Nat} {os : OsState}
variable {nm q : Str} {C N : Addr} {bs bm bmB : List Value} {hdct : Bool} {sn : List Str} {sub : List Value} {ab : Bool} {col : Option Bool} {dd : Option Addr} {k0 k1 k2 k3 k5 : Option Value} {B newId initId : String}
theorem newK (F : ExcBaseFacts B newId initId bmB) (hT : ∀ X : String, bm.contains (.type X) = bmB.contains (.type X)) {rest : List Value} {kw : List (Str × Value)}
    (hC : h.get? C = some (excClassObj nm q C N bs bm hdct sn sub ab col dd k0 k1 k2 k3 k5 newId))
    (hq : R (.ok (.ret (.ref (h.objs.size + 1)))) ⟨(h.push { cls := .type "tuple", data := .seq rest.toArray }).push
      { cls := .ref C, data := .fields #[.ref h.objs.size, .none, .none, .none, .bool false, .none] }, g, d, t, os⟩) (hrest : rest.length ≤ sizeLine) :
    codeAny (model prog w) A (.builtin newId ⟨.ref C :: rest, kw⟩) R ⟨h, g, d, t, os⟩ := by
  have hends := F.ends
  have hcB : (Value.ref C :: bm).contains (.type B) = true := by rw [List.contains_cons, hT, F.hasB, Bool.or_true]
  have hcA : (Value.ref C :: bm).contains (.type "AttributeError") = false := by rw [List.contains_cons, hT, F.noAttr]; rfl
  have hcN : (Value.ref C :: bm).contains (.type "NameError") = false := by rw [List.contains_cons, hT, F.noName]; rfl
  refine codeAny_builtinAt F.entry ?_
  unfold Builtin.«BaseException.__new__»
  refine wpAt_bind ?_
  show wpAt _ _ _ (stack >>= _) _ _ _
  refine wpAt_bind (wpAt_stack fun p below => wpAt_of_wpAny ?_)
  wp_walk
  refine wpAt_of_wpAny ?_
  rw [F.owner]
  repeat (first | with_reducible refine wpAny_madeHere_exc F.canon hC ?_ | with_reducible refine wpAny_loadPart_at hC ?_ | (with_reducible refine wpAny_isSubtype_exc hC ?_; first | rw [hcB] | rw [hcA] | rw [hcN]) | wp_step)
  show R _ _
  rw [Heap.size_push]
  exact hq
theorem type_callK (F : ExcBaseFacts B newId initId bmB) (hT : ∀ X : String, bm.contains (.type X) = bmB.contains (.type X)) {rest : List Value} {kw : List (Str × Value)} {fI : Addr} {Q : Fin → Shared → Prop}
    (hC : h.get? C = some (excClassObj nm q C N bs bm hdct sn sub ab col dd k0 k1 k2 k3 k5 newId))
    (hi : W.Looks (model prog w) h (typeLookup (.ref C) "__init__") (some (.ref fI))) (hb : ∀ self, W.Looks (model prog w) h (bindSpecial (.ref fI) self) (.ref fI, [self])) (hrest : rest.length ≤ sizeLine)
    (hq : codeAny (model prog w) A (.call (.ref fI) ⟨.ref (h.objs.size + 1) :: rest, kw⟩)
      (fun r s' => match r with | .ok (.ret v) => v = .none ∧ Q (.done (.ret (.ref (h.objs.size + 1)))) s' | .ok _ => False | .error e => E e s')
      ⟨(h.push (W.kdv_tup rest)).push (excO C h.objs.size), g, d, t, os⟩) :
    wpAny (model prog w) A (Builtin.«type.__call__» ⟨.ref C :: rest, kw⟩) Q E ⟨h, g, d, t, os⟩ := by
  repeat (first | with_reducible refine wpAny_loadPart_at hC ?_ | with_reducible refine wpAny_madeBy_exc hC ?_ | wp_step)
  refine codeAny_call_builtin_code (Code.quiet_builtin _ F.quiet) (check_newK F hT hC ?_)
  refine newK F hT hC ?_ hrest
  show wpAny _ _ _ _ _ _
  have k : ∀ b o, h.get? b = some o → ((h.push (W.kdv_tup rest)).push (excO C h.objs.size)).get? b = some o := fun b o e => Heap.get?_push_of_some _ (Heap.get?_push_of_some _ e)
  have hC₁ := k _ _ hC
  have hget : ((h.push (W.kdv_tup rest)).push (excO C h.objs.size)).get? (h.objs.size + 1) = some (excO C h.objs.size) := by heap_get
  have hcC : (Value.ref C :: bm).contains (.ref C) = true := by simp
  have i1 := hi.keeps k
  have b1 := (hb (.ref (h.objs.size + 1))).keeps k
  unfold isInstance
  repeat (first | with_reducible refine wpAny_loadPart_at hget ?_ | (with_reducible refine wpAny_isSubtype_exc hC₁ ?_; rw [hcC]) | wp_step)
  show wpAny _ _ (typeLookup (.ref C) _) _ _ _
  refine i1.at ?_
  refine wpAny_holding (wpAny_bind (b1.at ?_))
  refine wpAny_bind (wpAny_call (codeAny_mono hq fun r s' z => ?_))
  rcases r with e | (v | _ | _ | _) <;> first | exact z | exact z.elim | skip
  obtain ⟨rfl, z⟩ := z
  first
    | exact wpAny_pure (wpAny_pure z)
    | (wp_walk; exact z)
theorem check_type_callK {M : Model} {rest : List Value} {kw : List (Str × Value)} {Q : Unit → Shared → Prop} (hC : h.get? C = some (excClassObj nm q C N bs bm hdct sn sub ab col dd k0 k1 k2 k3 k5 newId))
    (hq : Q () ⟨h, g, d, t, os⟩) : wpAny M A (checkBuiltinCall "type.__call__" ⟨.ref C :: rest, kw⟩) Q E ⟨h, g, d, t, os⟩ := by
  have f3 := tc_sub
  have hT : (⟨h, g, d, t, os⟩ : Shared).TypeIs (.ref C) "type" := ⟨_, hC, rfl⟩
  simp only [checkBuiltinCall, tc_kind, tc_split]
  repeat (any_goals (first | assumption | with_reducible refine wpAny_loadPart_at hC ?_ | with_reducible refine wpAny_onRaise ?_ | with_reducible refine wpAny_map ?_ | wp_step))
theorem call_ownK (F : ExcBaseFacts B newId initId bmB) (hT : ∀ X : String, bm.contains (.type X) = bmB.contains (.type X)) {rest : List Value} {kw : List (Str × Value)} {fI : Addr}
    (hC : h.get? C = some (excClassObj nm q C N bs bm hdct sn sub ab col dd k0 k1 k2 k3 k5 newId))
    (hi : W.Looks (model prog w) h (typeLookup (.ref C) "__init__") (some (.ref fI))) (hb : ∀ self, W.Looks (model prog w) h (bindSpecial (.ref fI) self) (.ref fI, [self])) (hrest : rest.length ≤ sizeLine)
    (hq : codeAny (model prog w) (A.under (.builtin "type.__call__" ⟨.ref C :: rest, kw⟩)) (.call (.ref fI) ⟨.ref (h.objs.size + 1) :: rest, kw⟩) (W.InitBack (h.objs.size + 1) R)
      ⟨(h.push (W.kdv_tup rest)).push (excO C h.objs.size), g, d, t, os⟩) :
    codeAny (model prog w) A (.call (.ref C) ⟨rest, kw⟩) R ⟨h, g, d, t, os⟩ := by
  have f1 := tc_lookup
  have f2 := tc_bind (.ref C)
  have hTy : (⟨h, g, d, t, os⟩ : Shared).TypeIs (.ref C) "type" := ⟨_, hC, rfl⟩
  refine codeAny_of_tree ?_
  show wpAny _ _ (callAny (.ref C) _) _ _ _
  repeat (any_goals (first | assumption | with_reducible refine wpAny_loadPart_at hC ?_ | wp_step))
  refine ⟨rfl, ?_⟩
  refine codeAny_call_builtin_at (Code.quiet_builtin _ (by decide +kernel)) entry_typeCall (check_type_callK hC (type_callK F hT hC hi hb hrest ?_))
  refine codeAny_mono hq fun r s' z => ?_
  rcases r with e | (v | _ | _ | _) <;> exact z
end
end K0K
end PySem
set_option maxHeartbeats 4000000
namespace K0
open PySem PySem.Spec PyProof.Rows L2
/-! ### exceptions of an own class, as values -/
section
variable {X : Cx}
theorem run_oex {pins : List (Addr × Obj)} {σ : L2.St} {H : Hp} {s : Shared} {Q : VK} {us us2 : List Value} {kw : List (Str × Value)} {vs : List V} {C fI : Addr} {k : Nat} {fd : FuncData} {ps : List Str} {sp : Sp} (T : OexC X.K C)
    (iC : PySem.W.findIn X.K (.ref C) "__init__" = some (some (.ref fI))) (tI : PySem.W.typeIn X.K (.ref fI) = some (.type "function")) (F1 : FnOk X.prog X.w X.K X.mg X.base CX0 k fI fd ps sp) (hr : Room (k + 1) X.A)
    (hb : ∀ (s : Shared) (a : Addr), X.K.In s.heap → BindsTo s fd ⟨.ref a :: us, kw⟩ (ps.zip (.ref a :: us2))) (I : Inv X pins σ H s) (r : Vals vs us2) (hz : us.length ≤ 1000)
    (h : ∀ a, H a = none → sp (.ref a :: vs) (upd H a (exo a C none)) (fun v H2 => v = .non ∧ Q (.ref a) H2) E0) :
    wpAny (model X.prog X.w) X.A (call (.ref C) us kw) (EP X pins σ Q) X.xe s := by
  obtain ⟨nm, q, N, bs, bm, sn, sub, ab, col, dd, k0, k1, k2, k3, k5, hC, hbm⟩ := T.cls
  obtain ⟨hp, g, dr, tk, os⟩ := s
  have hsz : hp.objs.size ≤ hp.objs.size + 1 := Nat.le_succ _
  have hn : H (hp.objs.size + 1) = none := I.hok.fresh hsz
  have hq := h (hp.objs.size + 1) hn
  have kk : ∀ b o, hp.get? b = some o → ((hp.push (PySem.W.kdv_tup us)).push (PySem.HandSPX.excO C hp.objs.size)).get? b = some o := fun b o e => Heap.get?_push_of_some _ (Heap.get?_push_of_some _ e)
  have hget : ((hp.push (PySem.W.kdv_tup us)).push (PySem.HandSPX.excO C hp.objs.size)).get? (hp.objs.size + 1) = some (PySem.HandSPX.excO C hp.objs.size) := by heap_get
  have I2 : Inv X pins σ (upd H (hp.objs.size + 1) (exo (hp.objs.size + 1) C none)) ⟨(hp.push (PySem.W.kdv_tup us)).push (PySem.HandSPX.excO C hp.objs.size), g, dr, tk, os⟩ :=
    I.laid (t' := tk) (a := hp.objs.size + 1) (o := exo (hp.objs.size + 1) C none) (h' := (hp.push (PySem.W.kdv_tup us)).push (PySem.HandSPX.excO C hp.objs.size)) kk hsz (exo_ok hget)
  have r2 : Vals (V.ref (hp.objs.size + 1) :: vs) (Value.ref (hp.objs.size + 1) :: us2) := .cons rfl r
  have hus : us.length ≤ sizeLine := by
    rw [sizeLine_eq]
    omega
  refine wpAny_call (PySem.K0K.call_ownK F.excBase_ValueError (fun Y => PySem.HandSPX.refsVE_contains Y bm hbm) (I.kIn _ _ hC) (PySem.W.looks_findIn I.kIn iC) (fun self => PySem.W.bind_fn I.kIn self tI) hus
    (codeAny_mono (F1.run _ X.stack _ _ ⟨Value.ref (hp.objs.size + 1) :: us, kw⟩ (Value.ref (hp.objs.size + 1) :: us2) _ _ E0 (hr.make C us kw) (I2.env0.make C us kw) (hb _ _ I2.kIn) r2 hq) fun r s' hq' => ?_))
  cases r with
  | error er => exact False.elim hq'
  | ok fl =>
    cases fl with
    | ret u =>
      obtain ⟨v, H2, I3, rv, ev, q2⟩ := I2.after hq'
      subst ev
      exact ⟨rv, .ref (hp.objs.size + 1), H2, I3, rfl, q2⟩
    | next => exact False.elim hq'
    | brk => exact False.elim hq'
    | cont => exact False.elim hq'
/-- C(e, ..) -/
def tOex (C : Addr) (sp : Sp) (ta : TA) : TE := fun σ H Q => ta σ H fun vs H1 => vs.length ≤ 1000 ∧ ∀ a, H1 a = none → sp (.ref a :: vs) (upd H1 a (exo a C none)) (fun v H2 => v = .non ∧ Q (.ref a) H2) E0
theorem pe_oex {x : Str} {C fI : Addr} {k : Nat} {fd : FuncData} {ps : List Str} {sp : Sp} {e : Expr} {es : List Expr} {ta : TA} {p pos : Pos} (T : OexC X.K C) (iC : PySem.W.findIn X.K (.ref C) "__init__" = some (some (.ref fI)))
    (tI : PySem.W.typeIn X.K (.ref fI) = some (.type "function")) (F1 : FnOk X.prog X.w X.K X.mg X.base CX0 k fI fd ps sp) (hr : Room (k + 1) X.A) (hb : Binds X.K fd ps []) (hg : Gl X x) (hm : X.mg x = some (.ref C)) (ha : PA X (e :: es) ta)
    (hdb : (x == ("__debug__" : Str)) = false := by decide) (he : starEach (e :: es) X.env = (false, eval e X.env) :: starEach es X.env := by rfl) (hpl : (backTo pos (starEach es X.env)).any (·.1) = false := by rfl) :
    PE X (.Call (.Name x p) (e :: es) [] pos) (tOex C sp ta) := by
  refine ⟨fun pins s σ H Q I h => ?_⟩
  refine wpAny_Call_Name_kw (ld_glob I hg hm ?_ hdb)
  refine PySem.W.callWith_K (h₀ := X.base) I.ok.mod.kin T.kC (thn (ha.run pos pins s σ H _ I h) fun us s1 ⟨vs, H1, I1, r1, hz, q1⟩ => ⟨I1.kIn, ?_⟩) he hpl
  show wpAny _ _ (call (.ref C) us) _ _ _
  obtain ⟨hp, g, dr, tk, os⟩ := s1
  have hlen : ∀ a : Addr, (Value.ref a :: us).length = ps.length := fun a => by
    have z := F1.len _ _ _ _ (q1 (hp.objs.size + 1) (I1.hok.fresh (Nat.le_succ _)))
    rw [← z, List.length_cons, List.length_cons, r1.length]
  refine run_oex T iC tI F1 hr (fun s a X1 => ?_) I1 r1 (by rw [← r1.length]; exact hz) q1
  have b := hb s (Value.ref a :: us) X1 (by rw [List.append_nil]; exact hlen a)
  rw [List.append_nil] at b
  exact b
/-- C(f = e, ..) -/
def tOexK (C : Addr) (sp : Sp) (n : Nat) (g : List V → List V) (tk : TA) : TE := fun σ H Q => tk σ H fun zs H1 => zs.length = n ∧ ∀ a, H1 a = none → sp (.ref a :: g zs) (upd H1 a (exo a C none)) (fun v H2 => v = .non ∧ Q (.ref a) H2) E0
theorem pe_oexK {x : Str} {C fI : Addr} {k : Nat} {fd : FuncData} {ps ks : List Str} {sp : Sp} {kws : List Keyword} {tk : TA} {p pos : Pos} {g : {α : Type} → List α → List α} (T : OexC X.K C) (iC : PySem.W.findIn X.K (.ref C) "__init__" = some (some (.ref fI)))
    (tI : PySem.W.typeIn X.K (.ref fI) = some (.type "function")) (F1 : FnOk X.prog X.w X.K X.mg X.base CX0 k fI fd ps sp) (hr : Room (k + 1) X.A)
    (hb : ∀ (s : Shared) (a : Addr) (ws : List Value), X.K.In s.heap → ws.length = ks.length → BindsTo s fd ⟨[.ref a], ks.zip ws⟩ (ps.zip (.ref a :: g ws))) (hgv : ∀ {zs : List V} {ws : List Value}, Vals zs ws → Vals (g zs) (g ws))
    (hg : Gl X x) (hm : X.mg x = some (.ref C)) (hkw : PK X kws tk)
    (hall : (backToKw pos (keywordEach kws X.env)).all (·.1.isSome) = true := by rfl) (hks : (backToKw pos (keywordEach kws X.env)).filterMap (·.1) = ks := by rfl) (hdb : (x == ("__debug__" : Str)) = false := by decide)
    (hpl : ((backTo pos (starEach [] X.env)).any (·.1) || (backToKw pos (keywordEach kws X.env)).any (·.1.isNone)) = false := by rfl) :
    PE X (.Call (.Name x p) [] kws pos) (tOexK C sp ks.length g tk) := by
  refine ⟨fun pins s σ H Q I h => ?_⟩
  refine wpAny_Call_Name_kw (ld_glob I hg hm ?_ hdb)
  refine PySem.W.callWith_KW0 (h₀ := X.base) I.ok.mod.kin T.kC hall ?_ hpl
  refine thn (hkw.run pos pins s σ H _ I h) fun ws s2 ⟨zs, H2, I2, rz, l2, q2⟩ => ⟨I2.kIn, ?_⟩
  rw [hks]
  exact run_oex (us := []) T iC tI F1 hr (fun s a X1 => hb s a ws X1 (rz.length.symm.trans l2)) I2 (hgv rz) (Nat.zero_le _) q2
/-- C(), a class without an __init__ of its own -/
def tOex0 (C : Addr) : TE := fun _ H Q => ∀ a, H a = none → Q (.ref a) (upd H a (exo a C none))
theorem pe_oex0 {C : Addr} {bmB : List Value} {B newId initId : String} {x : Str} {p pos : Pos} (F : ExcBaseFacts B newId initId bmB) (q : PySem.W.excIn X.K C bmB newId = true) (gC : X.mg x = some (.ref C)) (kC : PySem.W.keepIn X.K (.ref C) = true) (hg : Gl X x)
    (hdb : (x == ("__debug__" : Str)) = false := by decide) : PE X (.Call (.Name x p) [] [] pos) (tOex0 C) := by
  refine ⟨fun pins s σ H Q I h => ?_⟩
  refine wpAny_Call_Name_kw (ld_glob I hg gC ?_ hdb)
  refine PySem.W.callWith_K0 I.kIn kC ?_
  show wpAny _ _ (call (.ref C) []) _ _ _
  obtain ⟨bm, N, nm, qn, bs, hdct, sn, sub, ab, col, dd, k0, k1, k2, k3, k5, mN, hC, hN, hni, T⟩ := exc_obj I.kIn q
  refine wpAny_call_exc_subT F T hC hN hni (fun h' a hm => ?_) (by show 0 ≤ sizeLine; exact Nat.zero_le _)
  have hn : H a = none := I.hok.gone hm.new
  obtain ⟨t, ht, _, _⟩ := hm.there
  exact ⟨.ref a, upd H a (exo a C none), I.laidN hm.keeps hm.new hn (exo_ok ht), rfl, h a hn⟩
/-- e.f of such an exception -/
def tExoF (K : PySem.W.Frag) (n : Str) (te : TE) : TE := fun σ H Q => te σ H fun x H1 => ∃ (a C dx : Addr) (fs : List (Str × V)) (v : V), x = .ref a ∧ H1 a = some (exo a C (some dx)) ∧ H1 dx = some (exd dx fs) ∧ fs.lookup n = some v ∧ XfC K C ∧ PySem.W.findIn K (.ref C) n = some none ∧ Q v H1
theorem pe_exoF {e : Expr} {te : TE} {pos : Pos} {n : Str} (he : PE X e te) (hb : attributeBase e n X.env (eval e X.env) = eval e X.env := by rfl) : PE X (.Attribute e n pos) (tExoF X.K n te) := by
  refine ⟨fun pins s σ H Q I h => ?_⟩
  refine attr_of hb (thn (he.run pins s σ H _ I h) fun u s1 hh => ?_)
  obtain ⟨x, H1, I1, rx, a, C, dx, fs, v, ex, ea, ed, l, T, hno, q⟩ := hh
  subst ex
  obtain rfl : u = Value.ref a := rx
  obtain ⟨t1, ho⟩ := exo_at I1.hok ea
  obtain ⟨mA, hns1, hr⟩ := exd_at I1.hok ed
  obtain ⟨od, hod, hl⟩ := lookIn_ns hns1
  obtain ⟨u, hu, ru⟩ := RelO.some_of (v := v) (o := mA n) (by rw [← l]; exact hr n)
  have J : PySem.W.InstAt s1.heap a { cls := .ref C, dict := some dx, data := .fields #[.ref t1, .none, .none, .none, .bool false, .none] } C (some od) := ⟨ho, rfl, rfl, hod⟩
  exact HandSPX.exc_get I1.kIn J T.ga T.gg T.exC (PySem.W.findObj_own T.hdC hno rfl (by rw [hl, hu])) (handed_of ru) ⟨v, H1, I1.tok _, ru, q⟩
/-- isinstance(e, c), e such an exception -/
def rIsX (K : PySem.W.Frag) : List V → Hp → VK → Prop := fun xs H Q => ∃ (a C : Addr) (d : Option Addr) (c : V) (cv : Value) (b : Bool), xs = [.ref a, c] ∧ H a = some (exo a C d) ∧ (∀ dx, d = some dx → ∃ fs, H dx = some (exd dx fs)) ∧ ExcC K C ∧ (∀ u, RelV c u → u = cv) ∧
  PySem.W.kitOne K (.ref C) cv = some b ∧ Q (.bl b) H
theorem call_isX : CallR X (.builtin "isinstance") (rIsX X.K) := by
  intro pins s σ H xs us Q I r h
  obtain ⟨a, C, d, c, cv, b, rfl, ea, hd, T, hcv, e, q⟩ := h
  obtain ⟨u1, u2, rfl, r1, r2⟩ := vals2 r
  obtain rfl : u1 = Value.ref a := r1
  have ec := hcv _ r2
  subst ec
  obtain ⟨t1, ho⟩ := exo_at I.hok ea
  have hcl : (PySem.W.clsIn X.K C).isSome = true := by
    obtain ⟨cd, hc, _⟩ := PySem.W.any_some T.hd
    rw [hc] <;> rfl
  have J : ∃ od, PySem.W.InstAt s.heap a { cls := .ref C, dict := d, data := .fields #[.ref t1, .none, .none, .none, .bool false, .none] } C od := by
    cases d with
    | none => exact ⟨none, ho, rfl, rfl, trivial⟩
    | some dx =>
      obtain ⟨fs, ed⟩ := hd dx rfl
      obtain ⟨mA, ⟨oD, es, ep, e1, e2⟩, _⟩ := exd_at I.hok ed
      exact ⟨some oD, ho, rfl, rfl, e1⟩
  obtain ⟨od, J⟩ := J
  exact PySem.W.kia_one (PySem.W.kitx_exc (ox := { cls := .ref C, dict := d, data := .fields #[.ref t1, .none, .none, .none, .bool false, .none] }) (od := od) hcl T.hg T.hk T.hs T.ha T.hn T.ht T.hm) I.kIn J e (fun z => nomatch z) fun tk => ⟨.bl b, H, I.kept (t' := tk) fun _ _ z => z, rfl, q⟩
end
end K0
set_option maxHeartbeats 4000000
namespace K0
open PySem PySem.Spec PyProof.Rows L2 LamX NdefX
/-! ### lambdas as values: no captured names -/
structure LS where
  qual : Str
  params : Arguments
  body : Expr
  scope : Scope
def LamO (f : Addr) (L : LS) (c : Addr) : HO := .ext fun h => ∃ pm ctv : Value, h.get? f = some (PySem.W.kla_obj "<lambda>" L.qual L.params L.body L.scope [] pm c ctv)
theorem lamO_ne {f c : Addr} {L : LS} (ps : Array Value) : LamO f L c ≠ .tbl ps := fun z => by
  unfold LamO at z
  cases z
theorem lamO_at {P : Program} {w : World} {H : Hp} {h : Heap} {f c : Addr} {L : LS} (hok : HOk P w H h) (e : H f = some (LamO f L c)) : ∃ pm ctv : Value, h.get? f = some (PySem.W.kla_obj "<lambda>" L.qual L.params L.body L.scope [] pm c ctv) := by
  obtain ⟨z, _, _⟩ := hok f _ e
  exact z
section
variable {X : Cx} {pins : List (Addr × Obj)} {σ : L2.St} {H : Hp} {s : Shared}
theorem inv_lam {L : LS} {c : Addr} {o : Obj} {t' : Nat} {pm ctv : Value} (I : Inv X pins σ H s) (ho : o = PySem.W.kla_obj "<lambda>" L.qual L.params L.body L.scope [] pm c ctv) :
    Inv X pins σ (upd H s.heap.objs.size (LamO s.heap.objs.size L c)) { s with heap := s.heap.push o, toks := t' } := by
  subst ho
  refine I.laid (a := s.heap.objs.size) (fun b u e => Heap.get?_push_of_some _ e) (Nat.le_refl _) ?_
  have e : (s.heap.push (PySem.W.kla_obj "<lambda>" L.qual L.params L.body L.scope [] pm c ctv)).get? s.heap.objs.size = some (PySem.W.kla_obj "<lambda>" L.qual L.params L.body L.scope [] pm c ctv) := Heap.get?_push_size _ rfl
  exact ⟨⟨pm, ctv, e⟩, ⟨_, e⟩, fun h1 h2 ⟨p, t, z⟩ st => ⟨p, t, st _ z⟩⟩
/-- the lambda is made: its code object is new, or found in the table -/
theorem lam_mk {T : List (Addr × Str)} {c P : Addr} {params : Arguments} {body : Expr} {scope : Scope} {pos : Pos} {E : Value → Shared → Prop} {Q : Value → Shared → Prop} (I : Inv X pins σ H s) (TB : TabB X.base X.mg c P) (hcode : X.env.code = .ref c)
    (hm : (P, X.env.qual ++ "<lambda>") ∈ T) (hu : ∀ p ∈ T, p.1 = P → p.2 = X.env.qual ++ "<lambda>") (hT : Tabs T H) (hdef : defaultsOf params X.env = ([], [])) (hnf : ∀ y ∈ scope.names, y.2 ≠ .free) (hcl : cloFrom X.env.cells scope.names [] = [])
    (h : ∀ (f c' : Addr) (H1 : Hp) (s' : Shared), Inv X pins σ H1 s' → ExtN H H1 → Tabs T H1 → H f = none → H1 f = some (LamO f ⟨X.env.qual ++ "<lambda>", params, body, scope⟩ c') → H1 c' = some (CodeO c' (X.env.qual ++ "<lambda>")) → Q (.ref f) s') :
    wpAny (model X.prog X.w) X.A (eval (.Lambda params body scope pos) X.env) Q E s := by
  obtain ⟨ps, hP, ht, ha⟩ := hT _ hm
  refine PySem.W.kla_eval hdef ?_
  have hfree : ∀ y ∈ scope.names, y.2 = .free → ∃ c, X.env.cells.lookup y.1 = some c := fun y hy e => absurd e (hnf y hy)
  have bP : s.heap.BuiltinsAt X.mg P := TB.bm.keeps I.bk
  have hP' : s.heap.get? P = some { cls := .none, data := .fields ps } := I.hok P _ hP
  cases hc : codeAmong pos ps.toList with
  | none =>
    refine PySem.W.kla_makeFunction (mg := X.mg) (c := c) (P := P) (ps := ps) (closure_ok hfree) I.ok.glob (I.mod.glob.keeps I.bk) hcode (TB.code.keeps I.bk) hP' ht hc TB.gP bP fun c' ctv h' tk hx hge hlt hrec htb => ?_
    obtain ⟨c2, oc, vs, t, e2, hoc, hd, hv⟩ := hrec
    cases e2
    have nC : H c' = none := I.hok.fresh hge
    have I1 := inv_table (t' := tk) (more := #[rawInt pos.line, rawInt pos.col, .ref c']) (h' := h') I hP (fun b o hb e => hx b o hb e) htb hge ⟨oc, vs, t, hoc, hd, hv⟩
    have hE : ExtN H (upd (upd H P (.tbl (ps ++ #[rawInt pos.line, rawInt pos.col, .ref c']))) c' (CodeO c' (X.env.qual ++ "<lambda>"))) := fun b o e n => by
      rw [upd_ne (ne_of_none e nC), upd_ne (fun z => n ps (Option.some.inj (e.symm.trans (by rw [z]; exact hP))))]
      exact e
    have eL : (ps ++ #[rawInt pos.line, rawInt pos.col, .ref c']).toList = ps.toList ++ [rawInt pos.line, rawInt pos.col, .ref c'] := by simp
    have T1 : Tabs T (upd (upd H P (.tbl (ps ++ #[rawInt pos.line, rawInt pos.col, .ref c']))) c' (CodeO c' (X.env.qual ++ "<lambda>"))) := fun p hp => by
      by_cases hb : p.1 = P
      · rw [hu p hp hb, hb]
        refine ⟨_, by rw [upd_ne (ne_of_none hP nC), upd_same], by rw [eL]; exact PySem.TriplesOk_snoc _ _ _ _ ht, fun p' cv hcv => ?_⟩
        rw [eL] at hcv
        rcases among_app _ ht hcv with z | z
        · obtain ⟨c0, e1, e2⟩ := ha p' cv z
          exact ⟨c0, e1, hE _ _ e2 codeO_ne⟩
        · exact ⟨c', z, upd_same⟩
      · obtain ⟨ps', a1, a2, a3⟩ := hT p hp
        refine ⟨ps', by rw [upd_ne (ne_of_none a1 nC), upd_ne hb]; exact a1, a2, fun p' cv hcv => ?_⟩
        obtain ⟨c0, e1, e2⟩ := a3 p' cv hcv
        exact ⟨c0, e1, hE _ _ e2 codeO_ne⟩
    have nF := I1.hok.fresh (Nat.le_refl _)
    have I2 := inv_lam (L := ⟨X.env.qual ++ "<lambda>", params, body, scope⟩) (c := c') (t' := tk) (pm := (X.mg "__name__").getD .none) (ctv := ctv) (o := PySem.W.kla_obj "<lambda>" (X.env.qual ++ "<lambda>") params body scope (cloFrom X.env.cells scope.names []) ((X.mg "__name__").getD .none) c' ctv) I1 (by rw [hcl])
    refine h h'.objs.size c' _ _ I2 (fun b o e n => ?_) (T1.ext fun b o e => ?_) (I.hok.fresh (Nat.le_trans hge (Nat.le_of_lt hlt))) upd_same ?_
    · have e1 := hE b o e n
      exact (upd_ne (ne_of_none e1 nF)).trans e1
    · exact (upd_ne (ne_of_none e nF)).trans e
    · exact (upd_ne (Nat.ne_of_lt hlt)).trans upd_same
  | some cv =>
    obtain ⟨c', e, hco⟩ := ha pos cv hc
    subst e
    refine PySem.W.kla_makeFunctionHit (mg := X.mg) (c := c) (P := P) (ps := ps) (closure_ok hfree) I.ok.glob (I.mod.glob.keeps I.bk) hcode (TB.code.keeps I.bk) hP' ht hc bP fun ctv h' tk hx hsz => ?_
    have I1 : Inv X pins σ H { s with heap := h', toks := tk } := I.kept hx
    have nF : H h'.objs.size = none := I1.hok.fresh (Nat.le_refl _)
    have I2 := inv_lam (L := ⟨X.env.qual ++ "<lambda>", params, body, scope⟩) (c := c') (t' := tk) (pm := (X.mg "__name__").getD .none) (ctv := ctv) (o := PySem.W.kla_obj "<lambda>" (X.env.qual ++ "<lambda>") params body scope (cloFrom X.env.cells scope.names []) ((X.mg "__name__").getD .none) c' ctv) I1 (by rw [hcl])
    refine h h'.objs.size c' _ _ I2 (fun b o e n => ?_) (hT.ext fun b o e => ?_) nF upd_same ?_
    · exact (upd_ne (ne_of_none e nF)).trans e
    · exact (upd_ne (ne_of_none e nF)).trans e
    · exact (upd_ne (ne_of_none hco nF)).trans hco
/-- a lambda's value -/
def tLamV (T : List (Addr × Str)) (L : LS) : TE := fun _ H Q => Tabs T H ∧ ∀ (f c' : Addr) (H1 : Hp), ExtN H H1 → Tabs T H1 → H f = none → H1 f = some (LamO f L c') → H1 c' = some (CodeO c' L.qual) → Q (.ref f) H1
theorem pe_lamV {T : List (Addr × Str)} {c P : Addr} {params : Arguments} {body : Expr} {scope : Scope} {pos : Pos} (TB : TabB X.base X.mg c P) (hcode : X.env.code = .ref c) (hm : (P, X.env.qual ++ "<lambda>") ∈ T) (hu : ∀ p ∈ T, p.1 = P → p.2 = X.env.qual ++ "<lambda>")
    (hdef : defaultsOf params X.env = ([], [])) (hnf : ∀ y ∈ scope.names, y.2 ≠ .free) (hcl : cloFrom X.env.cells scope.names [] = []) :
    PE X (.Lambda params body scope pos) (tLamV T ⟨X.env.qual ++ "<lambda>", params, body, scope⟩) := by
  refine ⟨fun pins s σ H Q I h => ?_⟩
  obtain ⟨hT, h⟩ := h
  exact lam_mk I TB hcode hm hu hT hdef hnf hcl fun f c' H1 s' I1 eN T1 hf e1 e2 => ⟨.ref f, H1, I1, rfl, h f c' H1 eN T1 hf e1 e2⟩
end
/-! ### its promise -/
abbrev nfOf (L : LS) (c : Addr) : NF := ⟨"<lambda>", L.qual, L.params, [], L.scope, [], c⟩
structure LOk (P : Program) (w : World) (K : PySem.W.Frag) (mg : Str → Option Value) (base : Heap) (k : Nat) (L : LS) (n : Nat) (sp : Sp) : Prop where
  len : ∀ vs H Q E, sp vs H Q E → vs.length = n
  run : ∀ (A : Around) (outer : List Env) (s : Shared) (H : Hp) (us : List Value) (vs : List V) (Q : VK) (f c : Addr), Room k A → Env0 P w K mg base A outer s H → H f = some (LamO f L c) → H c = some (CodeO c L.qual) →
    Vals vs us → sp vs H Q E0 → codeAny (model P w) A (.call (.ref f) ⟨us, []⟩) (CR CX0 outer P w H s Q E0) s
theorem cells0 {h : Heap} {H : Hp} : CellsAt [] [] [] h H := ⟨rfl, fun y c e => by simp at e, fun x y c e => by simp at e, fun i y e => by simp at e⟩
section
variable {P : Program} {w : World} {K : PySem.W.Frag} {mg : Str → Option Value} {base : Heap} {N ps : List Str} {L : LS} {k : Nat} {sp : Sp}
theorem lok_of (S : NScope N ps [] L.scope) (hb : ∀ (pm cv ctv : Value) (us : List Value), us.length = ps.length → bindArgs (PySem.W.kla_fn "<lambda>" L.qual L.params L.body L.scope [] pm cv ctv) ⟨us, []⟩ = pure (ps.zip us)) (len : ∀ vs H Q E, sp vs H Q E → vs.length = ps.length)
    (hbody : ∀ (A : Around) (outer : List Env) (s : Shared) (H : Hp) (vs : List V) (Q : VK) (f c : Addr), Room k (A.deeper (envF (nfOf L c) f s.heap.objs.size)) → sp vs H Q E0 →
      ∃ t, PE (ncx CX0 P w K mg base N (nfOf L c) f A outer s H E0) L.body t ∧ t (startF N vs []) H Q) : LOk P w K mg base (k + 1) L ps.length sp := by
  refine ⟨len, fun A outer s H us vs Q f c hr e0 hf hc r hsp => ?_⟩
  have hl := len _ _ _ _ hsp
  have lim : s.heap.NoLimit := e0.mod.nolimit.keeps fun b o e => (e0.bs b o e).1
  obtain ⟨pm, ctv, ho⟩ := lamO_at e0.hok hf
  refine PySem.W.kla_callFunE hr.depth ho rfl S.co S.gen rfl (codeO_at e0.hok hc) ?_
  rw [hb pm (.ref c) ctv us (by rw [← r.length]; exact hl)]
  refine wpAny_pure (wpAny_newFunctionEnv S.nocell (fun ⟨n, _⟩ hy => S.par n (List.of_mem_zip hy).1) (fun h₁ hns hsb => ⟨lim.fresh _ hsb, ?_⟩) S.kind)
  show codeAny _ _ (.expr L.body (envF (nfOf L c) f s.heap.objs.size)) _ _
  have kp : ∀ b o, s.heap.get? b = some o → h₁.get? b = some o := fun b o e => hsb.extBut b o (Nat.ne_of_lt (Heap.lt_size e)) (Heap.get?_push_of_some _ e)
  obtain ⟨t, ht, hq⟩ := hbody A outer s H vs Q f c (hr.deeper _) hsp
  have I : Inv (ncx CX0 P w K mg base N (nfOf L c) f A outer s H E0) [] (startF N vs []) H { s with heap := h₁, toks := s.toks + (ps.zip us).length } := inv_startN (F := nfOf L c) (fr := []) S hr.hd e0 hl r cells0 hns kp
  refine PySem.W.kla_codeExpr (wpAny_mono (ht.run [] _ (startF N vs []) H Q I hq) (fun v s' hs => ?_) fun e s' hs => hs)
  obtain ⟨w', H', J', rv, q⟩ := hs
  exact ⟨w', H', J'.os, J'.bare, J'.base, J'.hok, rv, q⟩
end
section
variable {X : Cx} {i k n : Nat} {x : Str} {sp : Sp} {t : TA} {e : Expr} {es : List Expr} {p pos : Pos}
theorem lamAt_of {pins : List (Addr × Obj)} {σ : L2.St} {H : Hp} {s : Shared} {f c : Addr} {L : LS} (I : Inv X pins σ H s) (e : H f = some (LamO f L c)) : PySem.W.FnAt f s.heap := by
  obtain ⟨pm, ctv, ho⟩ := lamO_at I.hok e
  exact ⟨_, _, _, _, ho⟩
def tLamC (P : Program) (w : World) (K : PySem.W.Frag) (mg : Str → Option Value) (base : Heap) (k i : Nat) (t : TA) : TE := fun σ H Q => ∃ (f c : Addr) (L : LS) (n : Nat) (sp : Sp), σ[i]? = some (some (.ref f)) ∧ H f = some (LamO f L c) ∧ LOk P w K mg base k L n sp ∧
  t σ H fun vs H1 => H1 f = some (LamO f L c) ∧ H1 c = some (CodeO c L.qual) ∧ sp vs H1 Q E0
theorem pe_lamC (hr : Room k X.A) (hN : X.N[i]? = some x) (hv : Vis X.env.scope x) (ha : PA X (e :: es) t)
    (hd : (x == ("__debug__" : Str)) = false := by decide) (hcd : (x == ("__classdict__" : Str)) = false := by decide)
    (he : starEach (e :: es) X.env = (false, eval e X.env) :: starEach es X.env := by rfl) (hpl : (backTo pos (starEach es X.env)).any (·.1) = false := by rfl) :
    PE X (.Call (.Name x p) (e :: es) [] pos) (tLamC X.prog X.w X.K X.mg X.base k i t) := by
  refine ⟨fun pins s σ H Q I h => ?_⟩
  obtain ⟨f, c, L, n, sp, hs, hf, ok, ht⟩ := h
  refine wpAny_Call_Name_kw (thn ((pe_var (pos := p) hN hv hd hcd).run pins s σ H (fun v H1 => v = .ref f ∧ H1 = H) I ⟨.ref f, hs, rfl, rfl⟩) fun u s1 ⟨v, H1, I1, r1, q1⟩ => ?_)
  obtain ⟨ev, eH⟩ := q1
  subst ev
  rw [eH] at I1
  obtain rfl : u = Value.ref f := r1
  refine PySem.W.callWith_F (first := []) (lamAt_of I1 hf) (thn (ha.run pos pins s1 σ H _ I1 ht) fun us s2 ⟨vs, H2, I2, r, h1, h2, q⟩ => ⟨lamAt_of I2 h1, ?_⟩) he hpl
  show wpAny _ _ (call (.ref f) us) _ _ _
  refine wpAny_call (codeAny_mono (ok.run X.A X.stack s2 H2 us vs Q f c hr I2.env0 h1 h2 r q) fun r s' hq => ?_)
  cases r with
  | error e => exact False.elim hq
  | ok fl =>
    cases fl with
    | ret u => exact I2.after hq
    | next => exact False.elim hq
    | brk => exact False.elim hq
    | cont => exact False.elim hq
end
end K0
set_option maxHeartbeats 1000000
namespace Mx
open PySem PySem.W PySem.SeqAt PySem.Calls PyProof.Rows
section
variable {prog : Program} {w : World} {A : Around} {E : Value → Shared → Prop} {s : Shared}
theorem oneLt_c {f : Bool} {x y : PyData} {a b : Value} {as bs : List Addr} {Q : Bool → Shared → Prop} (hf : f = true → ∃ i, x = .int i) (ra : Reads s.heap a x as) (rb : Reads s.heap b y bs) (hx : pln x = true) (hy : pln y = true) (hc : cmpb x y = true)
    (hu : A.units + min x.depth y.depth < cLine) (hq : Q (dataLt x y) s) : wpAny (model prog w) A (oneLt' f a b) Q E s := by
  cases f with
  | false =>
    rw [oneLt'_eq, if_neg Bool.false_ne_true]
    exact wpAny_bind (rcLt_c x y A s a b as bs ra rb hx hy hc hu prog w E _ (wpAny_truthy_bool hq))
  | true =>
    obtain ⟨i, rfl⟩ := hf rfl
    cases y with
    | int j =>
      cases ra
      cases rb
      rw [dataLt_int] at hq
      exact oneLt_int hq
    | _ => simp [cmpb] at hc
theorem katLex_c {b fin : Bool} {Q : Bool → Shared → Prop} : ∀ (xs ys : List PyData) (i : Nat) (vs ws : List Value) (as bs : List Addr), ReadsAll s.heap vs xs as → ReadsAll s.heap ws ys bs → plnAll xs = true → plnAll ys = true → cmpbAll xs ys = true →
    A.units + min (PyData.depthAll xs) (PyData.depthAll ys) < cLine → (b = true → i = 0 → ∀ x r, xs = x :: r → ∃ n, x = .int n) → fin = decide (xs.length < ys.length) → Q (lx (keyToksAll xs) (keyToksAll ys)) s → KatLex prog w A b fin Q (vs.zip ws) i s
  | [], [], i, _, _, _, _, ra, rb, _, _, _, _, _, hf, hq => by
    cases ra
    cases rb
    rw [lt_end0] at hq
    have e : fin = false := hf.trans (decide_eq_false (Nat.lt_irrefl _))
    rw [e]
    exact kat_nil hq
  | [], y :: ys, i, _, _, _, _, ra, rb, _, _, _, _, _, hf, hq => by
    cases ra
    rw [lt_end1] at hq
    have e : fin = true := hf.trans (decide_eq_true (Nat.succ_pos _))
    rw [e, List.zip_nil_left]
    exact kat_nil hq
  | x :: xs, [], i, _, _, _, _, ra, rb, _, _, _, _, _, hf, hq => by
    cases rb
    rw [lt_end2] at hq
    have e : fin = false := hf.trans (decide_eq_false (Nat.not_lt_zero _))
    rw [e, List.zip_nil_right]
    exact kat_nil hq
  | x :: xs, y :: ys, i, _, _, _, _, ra, rb, hx, hy, hc, hu, hb, hf, hq => by
    have hd : fin = decide (xs.length < ys.length) := by rw [hf]; simp
    cases ra with
    | cons r rs =>
      cases rb with
      | cons t ts =>
        rw [List.zip_cons_cons]
        refine kat_cons (eqAt_plain x y A s _ _ _ _ r t (pln_plain x (plnAll_cons hx).1) (pln_plain y (plnAll_cons hy).1) (room_head hu) prog w _ _ ?_)
        cases e : PyData.eqv x y with
        | true =>
          obtain rfl := (pln_eqv x y (plnAll_cons hx).1 (plnAll_cons hy).1).mp e
          rw [lt_yes] at hq
          exact kat_yes (katLex_c xs ys (i + 1) _ _ _ _ rs ts (plnAll_cons hx).2 (plnAll_cons hy).2 (cmpbAll_yes hc e) (room_tail hu) (fun _ z => absurd z (Nat.succ_ne_zero i)) hd hq)
        | false =>
          rw [lt_no (plnAll_cons hx).1 (plnAll_cons hy).1 (cmpbAll_no hc e) e] at hq
          refine kat_no (oneLt_c (fun z => ?_) r t (plnAll_cons hx).1 (plnAll_cons hy).1 (cmpbAll_no hc e) (room_head hu) hq)
          rw [Bool.and_eq_true, beq_iff_eq] at z
          exact hb z.1 z.2 x xs rfl
theorem dk_some {g : Heap} {ds : List PyData} (hp : ∀ d ∈ ds, pln d = true) {v : Value} {d : PyData} {as : List Addr} (hd : d ∈ ds) (r : Reads g v d as) : (dataKind g ds).keyOf v = some (keyToks d) := by
  have q : ∃ d, d ∈ ds ∧ ∃ as, Reads g v d as := ⟨d, hd, as, r⟩
  have e : (dataKind g ds).keyOf v = some (keyToks q.choose) := by
    unfold dataKind
    exact dif_pos q
  obtain ⟨h1, bs, h2⟩ := q.choose_spec
  rw [e, pln_one _ d v _ _ (hp _ h1) (hp _ hd) h2 r]
/-- keys that are compared as far as they are alike, each with a number ahead -/
structure Mixed (ds : List PyData) : Prop where
  pl : ∀ d ∈ ds, pln d = true
  cm : ∀ d ∈ ds, ∀ e ∈ ds, cmpb d e = true
  fi : ∀ d ∈ ds, ∃ (i : Int) (r : List PyData), d = .tuple (.int i :: r)
theorem sortsAt_c {vs : List Value} {ds : List PyData} (e : EachIs (fun v d => ∃ as, Reads s.heap v d as) vs ds) (M : Mixed ds) (hu : ∀ d, d ∈ ds → A.units + d.depth < cLine) : SortsAt prog w A s (dataKind s.heap ds) vs := by
  have room : ∀ {d d' : PyData}, d ∈ ds → A.units + min d.depth d'.depth < cLine := fun {d d'} hd => Nat.lt_of_le_of_lt (Nat.add_le_add_left (Nat.min_le_left _ _) _) (hu d hd)
  constructor
  · intro v hv
    obtain ⟨d, hd, as, r⟩ := e.left v hv
    exact ⟨_, dk_some M.pl hd r⟩
  · obtain ⟨fs, t1, t2, t3⟩ := each_katTups e fun d hd => by
      obtain ⟨i, r, q⟩ := M.fi d hd
      exact ⟨_, _, q⟩
    refine ⟨tuples' (Value.type "int" != Value.type "tuple"), fun E x y a b Q ha hb hq => ?_, fun h2 E Q hq => ?_⟩
    · obtain ⟨d, as, hd, ra, rfl⟩ := dataKind_inv ha
      obtain ⟨d', as', hd', rb, rfl⟩ := dataKind_inv hb
      have hr := room (d' := d') hd
      have hc := M.cm d hd d' hd'
      have p1 := M.pl d hd
      have p2 := M.pl d' hd'
      obtain ⟨i, r1, rfl⟩ := M.fi d hd
      obtain ⟨j, r2, rfl⟩ := M.fi d' hd'
      have hq2 : Q (dataLt (.tuple (.int i :: r1)) (.tuple (.int j :: r2))) s := hq
      rw [dataLt_tuple] at hq2
      cases ra with
      | @tuple l o xs n _ _ a1 a2 a3 a4 =>
        cases rb with
        | @tuple l2 o2 ys n2 _ _ b1 b2 b3 b4 =>
          have n1 : xs.size = (PyData.int i :: r1).length := by simpa using ReadsAll.length _ _ _ a4
          have n3 : ys.size = (PyData.int j :: r2).length := by simpa using ReadsAll.length _ _ _ b4
          refine kat_lt a1 a3 b1 b3 (katLex_c _ _ 0 _ _ _ _ a4 b4 (pln_tup p1) (pln_tup p2) (by simpa [cmpb] using hc) (by have q := room_in hr; omega) (fun _ _ x r ex => ?_) (by rw [n1, n3]) hq2)
          exact ⟨i, (List.cons.inj ex).1.symm⟩
    · refine kat_kind (T := Value.type "int") t1 (by omega) (fun f hf => ?_) (by decide +kernel) hq
      obtain ⟨x, r, as, m1, m2⟩ := t3 f hf
      obtain ⟨i, r2, q⟩ := M.fi _ m1
      injection q with q
      injection q with q _
      subst q
      exact looks_reads m2
/-- what sorting by such keys leaves -/
def KOut (kz : List PyData) (vs out : List Value) : Prop := ∃ g ks, out = sortVals (dataKind g kz) false ks vs ∧ EachIs (fun v k => ∃ as, Reads g v k as) ks kz
theorem kout_each {β : Type} {R : Value → β → Prop} {bs : List β} {vs out : List Value} (k : β → PyData) (h : KOut (bs.map k) vs out) (M : Mixed (bs.map k)) (hR : EachIs R vs bs) : EachIs R out (bs.mergeSort (dataLe false k)) := by
  obtain ⟨g, ks, rfl, hk⟩ := h
  have hk2 : EachIs (fun v d => (dataKind g (bs.map k)).keyOf v = some (keyToks d)) ks (bs.map k) := (each_mem hk).mono fun _ _ ⟨⟨_, r⟩, hd⟩ => dk_some M.pl hd r
  exact sortVals_each (κ := dataKind g (bs.map k)) (fun b => keyToks (k b)) hR (each_of_map k hk2)
end
end Mx
namespace Dl
open PySem PySem.W PySem.Calls PySem.Spec PyProof.Rows L2 RZ LamX K0 Mx
section
variable {X : Cx} {A : Around} {E : Value → Shared → Prop} {Pst : PySem.Fin → Shared → Prop} {σ : L2.St}
/-- what a call of the key does, amid any pins -/
def KeyCall (X : Cx) (A : Around) (σ : L2.St) (B H : Hp) (f : Value) (ds : List PyData) (key : PyData → PyData) : Prop := ∀ (pins : List (Addr × Obj)) (s : Shared) (Hc : Hp) (u : V) (v : Value) (d : PyData) (E : Value → Shared → Prop) (Q : Value → Shared → Prop), Inv X pins σ Hc s → Evl.Ex H Hc → RelV u v → Tp B u d → d ∈ ds →
  (∀ (v' : Value) (s2 : Shared) (u' : V) (H2 : Hp), Inv X pins σ H2 s2 → RelV u' v' → Evl.Ex Hc H2 → Tp H2 u' (key d) → Q v' s2) → wpAny (model X.prog X.w) A (call f [v]) Q E s
theorem sortC_rest {pins : List (Addr × Obj)} {s : Shared} {H B : Hp} {xs : List V} {vs : List Value} {ds : List PyData} {a kS : Addr} {e1 : Nat} {key : PyData → PyData} {f : Value} (F : KeyCall X A σ B H f ds key)
    (I : Inv X pins σ H s) (fa : FpOk X pins H a) (fk : FpOk X pins H kS) (hka : kS ≠ a) (nk : s.heap.get? kS = some (seqObj "list" #[] 0)) (na : s.heap.get? a = some (seqObj "list" #[] e1))
    (rv : Vals xs vs) (eB : Evl.Ex B H) (ht : TpAll B xs ds) (hnd : ∀ d ∈ ds, nd (key d) = true) (M : Mixed (ds.map key)) (hu : ∀ d, d ∈ ds.map key → A.units + d.depth < cLine) (hZ : vs.length ≤ sizeLine)
    (h : ∀ (s' : Shared) (H' : Hp) (out : List Value) (c : Nat), Inv X pins σ H' s' → Evl.Ex H H' → FpOk X pins H' a → s'.heap.get? a = some (seqObj "list" (List.toArray out) c) → KOut (ds.map key) vs out → Pst (.done (.ret .none)) s') :
    wpAny (model X.prog X.w) A (ksk_rest a f false vs.toArray e1 (.ref kS)) Pst E s := by
  have hlx : vs.length = ds.length := by rw [← rv.length, dp_len ht]
  unfold ksk_rest
  refine wpAny_bind (wpAny_rule ?_)
  first
    | rw [List.forIn_toArray]
    | (rw [← Array.forIn_toList]; simp only [List.toList_toArray])
    | rw [← Array.forIn_toList]
  refine wpAny_bind (ksk_fold (fun i s' => KeyJ X pins σ B H a kS e1 (ds.map key) i s') vs 0 s ⟨H, #[], 0, I, Evl.Ex.refl _, fa, fk, nk, na, by rw [List.take_zero]; exact EachIs.nil⟩ ?step ?done)
  case step =>
    rintro j y s' hy ⟨Hc, kA, e, I', ec, fa', fk', nk', na', hk⟩
    simp only [Nat.zero_add] at hk ⊢
    have hj : j < vs.length := (List.getElem?_eq_some_iff.mp hy).1
    obtain ⟨u, hu1, hu2⟩ : ∃ u, xs[j]? = some u ∧ RelV u y := by
      have hlt : j < xs.length := by rw [rv.length]; exact hj
      obtain ⟨w, h1, h2⟩ := rv.get (List.getElem?_eq_getElem hlt)
      rw [hy] at h1
      obtain rfl := Option.some.inj h1
      exact ⟨_, List.getElem?_eq_getElem hlt, h2⟩
    obtain ⟨d, hd, htd⟩ := dp_getV ht hu1
    have hm := List.mem_of_getElem? hd
    refine wpAny_bind (wpAny_attempt ?_)
    have pin1 : Inv X (pins ++ [(kS, seqObj "list" kA e), (a, seqObj "list" #[] e1)]) σ Hc s' := I'.pins_of fun p hp => by
      rcases List.mem_append.mp hp with hp | hp
      · exact I'.pin p (List.mem_append_right _ hp)
      · rcases List.mem_cons.mp hp with rfl | hp
        · exact ⟨nk', fk'.1, fk'.2.1, fk'.2.2.1, fun v q => by cases q⟩
        · obtain rfl := List.mem_singleton.mp hp
          exact ⟨na', fa'.1, fa'.2.1, fa'.2.2.1, fun v q => by cases q⟩
    refine F _ s' Hc u y d _ _ pin1 ec hu2 htd hm fun v' s2 u' H2 I2 r2 ex2 t2 => ?_
    have p1 := I2.pin (kS, seqObj "list" kA e) (by simp)
    have p2 := I2.pin (a, seqObj "list" #[] e1) (by simp)
    have I3 : Inv X pins σ H2 s2 := I2.pins_of fun p hp => I2.pin p (List.mem_append_right _ (List.mem_append_left _ hp))
    have nk2 : s2.heap.get? kS = some (seqObj "list" kA e) := p1.1
    have na2 : s2.heap.get? a = some (seqObj "list" #[] e1) := p2.1
    have fk2 : FpOk X pins H2 kS := ⟨p1.2.1, fk'.2⟩
    have fa2 : FpOk X pins H2 a := ⟨p2.2.1, fa'.2⟩
    have hz : kA.size ≤ vs.length := by
      have h1 := hk.length
      rw [Array.length_toList, List.length_take] at h1
      omega
    try dsimp only
    have s1 := Heap.SameBut.update s2.heap kS (Obj.mapSeq (·.push v'))
    obtain ⟨c2, hc2⟩ : ∃ c2, (s2.heap.update kS (Obj.mapSeq (·.push v'))).get? kS = some (seqObj "list" (kA.push v') c2) := ⟨_, get?_update_seq nk2 (·.push v')⟩
    have ek : (ds.map key).take (j + 1) = (ds.map key).take j ++ [key d] := by rw [List.take_add_one, List.getElem?_map, hd]; rfl
    have ea : (kA.push v').toList = kA.toList ++ [v'] := by simp
    refine wpAny_bind (listUpdate_at nk2 rfl ?_ (Nat.le_trans hz hZ) (Nat.le_trans (Nat.le_of_eq (Array.size_push ..)) (Nat.succ_le_succ (Nat.le_trans hz hZ))))
    have I4 : Inv X pins σ H2 { s2 with heap := s2.heap.update kS (Obj.mapSeq (·.push v')) } := I3.turned (it := kS) (t' := s2.toks) (fun b o hb q => (s1.2 b hb).trans q) fk2.1 fk2.2.1 fk2.2.2.2.1 fk2.2.2.2.2.1 fk2.2.2.2.2.2
    refine wpAny_pure ⟨rfl, H2, kA.push v', c2, I4, ec.trans ex2, fa2, fk2, hc2, (s1.2 a hka.symm).trans na2, ?_⟩
    rw [ea, ek]
    exact each_snoc (R := fun (v : Value) (d : PyData) => ∃ u, RelV u v ∧ Tp H2 u d) ⟨u', r2, t2⟩ (hk.mono fun v d ⟨u, q1, q2⟩ => ⟨u, q1, Tp.ex ex2 _ _ q2⟩)
  case done =>
    rintro s' ⟨Hc, kA, e, I', ec, fa', fk', nk', na', hk⟩
    have e3 : (ds.map key).take (0 + vs.length) = ds.map key := List.take_of_length_le (by rw [List.length_map]; omega)
    rw [e3] at hk
    have hndz : ∀ d ∈ ds.map key, nd d = true := fun d hd => by
      obtain ⟨b, hb1, rfl⟩ := List.mem_map.mp hd
      exact hnd b hb1
    have hk' : EachIs (fun v k => ∃ as, Reads s'.heap v k as) kA.toList (ds.map key) := (each_mem hk).mono fun v d ⟨⟨u, q1, q2⟩, hm⟩ => Tp.rd I' q1 q2 (hndz d hm)
    have hsz : kA.size = vs.length := by
      have h1 := hk.length
      rw [Array.length_toList, List.length_map] at h1
      omega
    try dsimp only
    refine wpAny_bind (listItems_at nk' rfl ?_)
    obtain ⟨G, g1, g2⟩ := restrict s'.heap fun b => decide (b ≠ kS)
    have gk : ∀ b o, G.get? b = some o → s'.heap.get? b = some o := fun b o q => by
      by_cases hbk : b = kS
      · rw [g2 b (decide_eq_false fun z => z hbk)] at q
        cases q
      · rw [g1 b (decide_eq_true hbk)] at q
        exact q
    refine keyH_end (κ := dataKind s'.heap (ds.map key)) (h₁ := G) (fun b o _ q => gk b o q) (g2 kS (decide_eq_false fun z => z rfl)) nk' na' hka (sortsAt_c hk' M hu) hsz hZ fun h3 tk3 c k3 n3 => ?_
    refine h _ Hc _ c (I'.turnedL (t' := tk3) (ch := [a, kS]) (fun b o hb q => ?_) fun b hb => ?_) ec fa' n3 ⟨s'.heap, kA.toList, rfl, hk'⟩
    · have n1 : b ≠ a := fun z => hb (by simp [z])
      have n2 : b ≠ kS := fun z => hb (by simp [z])
      exact k3 b o n1 (by rw [g1 b (decide_eq_true n2)]; exact q)
    · rcases List.mem_cons.mp hb with rfl | hb
      · exact fa'
      · rw [List.mem_singleton.mp hb]
        exact fk'
theorem sortC_tree {pins : List (Addr × Obj)} {s : Shared} {H B : Hp} {xs : List V} {vs : List Value} {ds : List PyData} {a : Addr} {n : Nat} {key : PyData → PyData} {f : Value} (F : KeyCall X A σ B H f ds key)
    (I : Inv X pins σ H s) (fa : FpOk X pins H a) (ho : s.heap.get? a = some (seqObj "list" vs.toArray n))
    (rv : Vals xs vs) (eB : Evl.Ex B H) (ht : TpAll B xs ds) (hnd : ∀ d ∈ ds, nd (key d) = true) (M : Mixed (ds.map key)) (hu : ∀ d, d ∈ ds.map key → A.units + d.depth < cLine) (hZ : vs.length ≤ sizeLine)
    (h : ∀ (s' : Shared) (H' : Hp) (out : List Value) (c : Nat), Inv X pins σ H' s' → Evl.Ex H H' → FpOk X pins H' a → s'.heap.get? a = some (seqObj "list" (List.toArray out) c) → KOut (ds.map key) vs out → Pst (.done (.ret .none)) s') :
    wpAny (model X.prog X.w) A (ksk_tree a f false) Pst E s := by
  have ha : a < s.heap.objs.size := Heap.lt_size ho
  obtain ⟨e1, ho1⟩ : ∃ e1, (s.heap.update a (Obj.mapSeq fun _ => (#[] : Array Value))).get? a = some (seqObj "list" #[] e1) := ⟨_, get?_update_seq ho fun _ => #[]⟩
  have hkS : ((s.heap.update a (Obj.mapSeq fun _ => (#[] : Array Value))).push (seqObj "tuple" vs.toArray 0)).objs.size = s.heap.objs.size + 1 := by rw [size_push', Heap.size_update]
  unfold ksk_tree
  refine wpAny_bind (listItems_at ho rfl ?_)
  refine wpAny_bind (listUpdate_at ho rfl ?_ (by rw [List.size_toArray]; exact hZ) (Nat.zero_le _))
  refine wpAny_bind (seqEpoch_at ho1 rfl ?_)
  refine wpAny_bind (wpAny_newTuple ?_ (by show vs.length ≤ _; exact hZ))
  refine wpAny_bind (wpAny_newList ?_ (Nat.zero_le _))
  refine wpAny_holding ?_
  have I2 : Inv X pins σ H { s with heap := ((s.heap.update a (Obj.mapSeq fun _ => (#[] : Array Value))).push (seqObj "tuple" vs.toArray 0)).push (seqObj "list" #[] 0) } :=
    I.turned (it := a) (t' := s.toks) (fun b o hb q => sortingHeap_old hb q) fa.1 fa.2.1 fa.2.2.2.1 fa.2.2.2.2.1 fa.2.2.2.2.2
  have fk : FpOk X pins H ((s.heap.update a (Obj.mapSeq fun _ => (#[] : Array Value))).push (seqObj "tuple" vs.toArray 0)).objs.size := I.fpOk (by rw [hkS]; exact Nat.le_succ _) (I.hok.fresh (by rw [hkS]; exact Nat.le_succ _))
  exact sortC_rest (e1 := e1) F I2 fa fk (by rw [hkS]; exact Nat.ne_of_gt (Nat.lt_succ_of_lt ha)) (Heap.get?_push_size _ rfl) (Heap.get?_push_of_some _ (Heap.get?_push_of_some _ ho1)) rv eB ht hnd M hu hZ h
end
/-- sorted(xs, key=f), f a lambda that tells data -/
def rSortLam (P : Program) (w : World) (K : PySem.W.Frag) (mg : Str → Option Value) (base : Heap) (k : Nat) : List V → List V → Hp → VK → Prop := fun vs zs H Q => ∃ (a f c : Addr) (L : LS) (xs : List V) (B : Hp) (ds : List PyData) (R : List PyData → PyData → Prop) (key : PyData → PyData), vs = [V.ref a] ∧ zs = [V.ref f] ∧ Evl.Ex B H ∧ B a = some (.lst xs) ∧ TpAll B xs ds ∧
  H f = some (LamO f L c) ∧ H c = some (CodeO c L.qual) ∧ LOk P w K mg base k L 1 (spP 1 R) ∧
  (∀ d ∈ ds, R [d] (key d)) ∧ (∀ d ∈ ds, nd (key d) = true) ∧ Mixed (ds.map key) ∧ (∀ d ∈ ds, (key d).depth ≤ 30) ∧ ds.length ≤ 100000 ∧
  ∀ (p : Addr) (H' : Hp) (ys : List V), H p = none → Evl.Ex H H' → H' p = some (.lst ys) → TpAll B ys (ds.mergeSort (dataLe false key)) → Q (.ref p) H'
section
variable {X : Cx}
theorem call_lamK {pins : List (Addr × Obj)} {σ : L2.St} {s : Shared} {Hc B : Hp} {u : V} {v : Value} {d d' : PyData} {A : Around} {E : Value → Shared → Prop} {Q : Value → Shared → Prop} {k : Nat} {f c : Addr} {L : LS} {R : List PyData → PyData → Prop} (hA : A.frames = X.A.frames) (hr : Room k A)
    (ok : LOk X.prog X.w X.K X.mg X.base k L 1 (spP 1 R)) (hf : Hc f = some (LamO f L c)) (hc : Hc c = some (CodeO c L.qual))
    (I : Inv X pins σ Hc s) (eB : Evl.Ex B Hc) (rv : RelV u v) (ht : Tp B u d) (hR : R [d] d') (q : ∀ (v' : Value) (s2 : Shared) (u' : V) (H2 : Hp), Inv X pins σ H2 s2 → RelV u' v' → Evl.Ex Hc H2 → Tp H2 u' d' → Q v' s2) :
    wpAny (model X.prog X.w) A (call (.ref f) [v]) Q E s := by
  have e0 : Env0 X.prog X.w X.K X.mg X.base A X.stack s Hc := ⟨hA.trans I.ok.frames, I.ok.mod, I.bs, Nat.le_trans I.ok.bsz I.sz, I.stack, I.stkFree, I.hok, I.bare⟩
  have sp : spP 1 R [u] Hc (fun u' H2 => Evl.Ex Hc H2 ∧ Tp H2 u' d') E0 := ⟨B, [d], d', eB, .cons ht .nil, rfl, hR, fun w H2 e2 hw => ⟨e2, Tp.ex (gr_sub eB e2) _ _ hw⟩⟩
  refine wpAny_call (codeAny_mono (ok.run A X.stack s Hc [v] [u] _ f c hr e0 hf hc (.cons rv .nil) sp) fun r s' hq => ?_)
  cases r with
  | error e => exact False.elim hq
  | ok fl =>
    cases fl with
    | ret w =>
      obtain ⟨u', H2, I2, r2, ex2, t2⟩ := I.after hq
      exact q w s' u' H2 I2 r2 ex2 t2
    | next => exact False.elim hq
    | brk => exact False.elim hq
    | cont => exact False.elim hq
theorem crk_sortLam {k : Nat} (hr : Room (k + 1) X.A) : CallRK X (.builtin "sorted") [Str.ofString "key"] (rSortLam X.prog X.w X.K X.mg X.base k) := by
  intro pins s σ H vs zs us ws Q I r rz h
  obtain ⟨a, f, c0, L, xs, B, ds, R, key, rfl, rfl, eB, hBa, ht, hf, hco, ok, hR, hnd, M, hdp, hlen, q⟩ := h
  obtain rfl := Vals.ref1 r
  obtain ⟨w1, rfl, ew⟩ := vals1 rz
  obtain rfl : w1 = Value.ref f := ew
  obtain ⟨its, rv, hl, hz⟩ := I.list (Evl.sq_of (eB _ _ hBa))
  have hx := rv.length
  have hd := dp_len ht
  have hZ : its.length ≤ sizeLine := Evl.sz_of (by omega)
  refine sorted_of_sort hl.isList hZ (PyProof.Rows.ksk_s1 _ _) (fun _ => PyProof.Rows.ksk_l1 _ _) fun E' => ?_
  rw [show (([Str.ofString "key"] : List Str).zip [Value.ref f]) = [(Str.ofString "key", Value.ref f)] from rfl, ksk_t1]
  have I1 : Inv X pins σ H { s with heap := copyHeap s.heap its } := I.kept (t' := s.toks) fun b o e => copyHeap_old e
  have fa : FpOk X pins H (s.heap.objs.size + 1) := I.fpOk (Nat.le_succ _) (I.hok.fresh (Nat.le_succ _))
  have hr2 : Room k X.A.in1.in1 := ⟨hr.hd, by have := hr.dp; show X.A.depth + 3 * k + 5 < _; omega, by have := hr.un; show X.A.units + 1 + 1 + 16 * k + 200 < _; omega⟩
  refine sortC_tree (A := X.A.in1.in1) (f := .ref f) (fun pn s2 Hc u v d E Q I2 e2 ru tu hm kk => call_lamK rfl hr2 ok (e2 _ _ hf) (e2 _ _ hco) I2 (eB.trans e2) ru tu (hR d hm) kk) I1 fa (copyHeap_at s.heap its) rv eB ht hnd M (fun d hd => ?_) hZ fun s' H' out c I2 ex2 fa2 ho2 hko => ⟨rfl, ?_⟩
  · obtain ⟨b, hb1, rfl⟩ := List.mem_map.mp hd
    have := hdp b hb1
    have := hr.un
    show X.A.units + 1 + 1 + _ < _
    omega
  · obtain ⟨ys, h1, h2⟩ := of_each (kout_each key hko M (each_of rv ht))
    have hly : ys.length ≤ sizeLine := by
      rw [dp_len h2, List.length_mergeSort]
      exact Evl.sz_of hlen
    exact ⟨.ref _, _, Inv.track (o := .lst ys) I2 fa2 ⟨hly, out, c, h1, ho2⟩, rfl, q _ _ ys (I.hok.fresh (Nat.le_succ _)) (ex2.trans (Evl.Ex.new fa2.1)) upd_same h2⟩
end
end Dl
set_option maxHeartbeats 4000000
namespace Dn
open PySem PySem.Spec
/-! ### a dict with keys of any words: the entries, by what the keys are -/
abbrev Ent := NestedKey × Value × Value
def entN (w : World) (x : Ent) : DictEntry := ⟨x.1.hash w, x.2.1, x.2.2⟩
def Raw (w : World) (h : Heap) (d : Addr) (xs : List Ent) : Prop := ∃ o es ep, h.get? d = some o ∧ o.ExactDict ∧ o.data = .dict es ep ∧ es.toList = xs.map (entN w)
def isK (h : Heap) (k : NestedKey) (v : Value) : Prop := NestedIs h k v ∧ k.depth ≤ 8
def look (xs : List Ent) (k : NestedKey) : Option Value := (xs.find? fun x => decide (x.1 = k)).map (·.2.2)
theorem look_at {xs : List Ent} (hn : (xs.map (·.1)).Nodup) : ∀ {j : Nat} {k : NestedKey} {u v : Value}, xs[j]? = some (k, u, v) → look xs k = some v := by
  induction xs with
  | nil => intro j k u v h; simp at h
  | cons x rest ih =>
    intro j k u v h
    rw [List.map_cons, List.nodup_cons] at hn
    cases j with
    | zero =>
      simp only [List.getElem?_cons_zero, Option.some.injEq] at h
      subst h
      simp [look]
    | succ j =>
      simp only [List.getElem?_cons_succ] at h
      have hm : k ∈ rest.map (·.1) := List.mem_map.mpr ⟨_, List.mem_of_getElem? h, rfl⟩
      have hne : ¬ x.1 = k := fun e => hn.1 (e ▸ hm)
      have z := ih hn.2 h
      simpa [look, List.find?_cons, hne] using z
theorem look_none {xs : List Ent} {k : NestedKey} (h : k ∉ xs.map (·.1)) : look xs k = none := by
  unfold look
  rw [List.find?_eq_none.mpr]
  · rfl
  · intro x hx e
    exact h (List.mem_map.mpr ⟨x, hx, of_decide_eq_true e⟩)
theorem key_unique {xs : List Ent} (hn : (xs.map (·.1)).Nodup) {i j : Nat} {k : NestedKey} {p q : Value × Value} (hi : xs[i]? = some (k, p)) (hj : xs[j]? = some (k, q)) : i = j := by
  have a : (xs.map (·.1))[i]? = some k := by rw [List.getElem?_map, hi]; rfl
  have b : (xs.map (·.1))[j]? = some k := by rw [List.getElem?_map, hj]; rfl
  exact (List.getElem?_inj (List.getElem?_eq_some_iff.mp a).1 hn).mp (a.trans b.symm)
section
variable {prog : Program} {w : World} {A : Around} {E : Value → Shared → Prop} {s : Shared} {d : Addr} {o : Obj} {es : Array DictEntry} {ep : Nat} {xs : List Ent} {k : NestedKey} {kv : Value}
theorem ent_at (he : es.toList = xs.map (entN w)) (j : Nat) : es[j]? = (xs[j]?).map (entN w) := by rw [← Array.getElem?_toList, he, List.getElem?_map]
theorem ent_size (he : es.toList = xs.map (entN w)) : es.size = xs.length := by rw [← Array.length_toList, he, List.length_map]
theorem eqb {k' : NestedKey} {u v : Value} {Q : Bool → Shared → Prop} (hu : A.units + 8 < cLine) (hx : isK s.heap k u) (hy : isK s.heap k' v) (h : Q (decide (k = k')) s) : wpAny (model prog w) A (eqBool u v) Q E s :=
  eqAt_key k k' A s _ _ hx.1 hy.1 (by have := hx.2; omega) _ _ _ _ (by rw [← NestedKey.decide_eq]; exact h)
/-- the places that a search goes through -/
def plc (es : Array DictEntry) (w : World) (k : NestedKey) : List Nat := placesWithHash es.size (fun i => es[i]?.map (·.hash)) (k.hash w)
theorem mem_plc (he : es.toList = xs.map (entN w)) {i : Nat} : i ∈ plc es w k ↔ ∃ k' u v, xs[i]? = some (k', u, v) ∧ k'.hash w = k.hash w := by
  unfold plc placesWithHash
  rw [List.mem_filter, List.mem_range]
  show i < es.size ∧ (Option.map (fun x : DictEntry => x.hash) es[i]? == some (NestedKey.hash w k)) = true ↔ _
  rw [ent_at he i, ent_size he]
  constructor
  · rintro ⟨h1, h2⟩
    obtain ⟨⟨k', u, v⟩, hx⟩ : ∃ y, xs[i]? = some y := ⟨_, List.getElem?_eq_getElem h1⟩
    rw [hx] at h2
    exact ⟨k', u, v, hx, by simpa [entN] using h2⟩
  · rintro ⟨k', u, v, hx, hh⟩
    refine ⟨(List.getElem?_eq_some_iff.mp hx).1, ?_⟩
    rw [hx]
    simp [entN, hh]
theorem nodup_plc : (plc es w k).Nodup := by
  unfold plc placesWithHash
  exact List.nodup_range.filter _
theorem quiet_mayTell {stored : List Value} {Q : Bool → Shared → Prop} (hk : isK s.heap k kv) (hst : ∀ v ∈ stored, ∃ k', isK s.heap k' v) (h : Q false s) : wpAny (model prog w) A (tableMayTell kv stored) Q E s := by
  unfold tableMayTell
  split
  · exact wpAny_pure h
  · refine wpAny_bind (quiet_key k kv 8 s hk.1 hk.2 A E _ ?_)
    simp only [Bool.not_true, Bool.false_eq_true, if_false]
    refine wpAny_bind ?_
    refine wpAny_forIn_list _ (fun rest r s' => s' = s ∧ r = (none, ()) ∧ ∀ v ∈ rest, ∃ k', isK s.heap k' v) _ ?_ ?_ _ _ ⟨rfl, rfl, hst⟩
    · rintro x rest r s' ⟨rfl, rfl, hr⟩
      obtain ⟨k', hb⟩ := hr x List.mem_cons_self
      refine wpAny_bind (quiet_key k' x 8 s' hb.1 hb.2 A E _ ?_)
      simp only [Bool.not_true, Bool.false_eq_true, if_false]
      exact wpAny_pure ⟨rfl, rfl, fun v hv => hr v (List.mem_cons_of_mem _ hv)⟩
    · rintro r s' ⟨rfl, rfl, _⟩
      exact wpAny_pure h
theorem wp_ite {α : Type} {c : Prop} [Decidable c] {a b : Sem α} {Q : α → Shared → Prop} (h1 : c → wpAny (model prog w) A a Q E s) (h2 : ¬ c → wpAny (model prog w) A b Q E s) : wpAny (model prog w) A (if c then a else b) Q E s := by
  by_cases h : c
  · rw [if_pos h]; exact h1 h
  · rw [if_neg h]; exact h2 h
theorem find_n {Q : Option Nat → Shared → Prop} (hu : A.units + 8 < cLine) (hk : isK s.heap k kv) (ho : s.heap.get? d = some o) (hd : o.data = .dict es ep) (he : es.toList = xs.map (entN w)) (his : ∀ x ∈ xs, isK s.heap x.1 x.2.1) (hn : (xs.map (·.1)).Nodup)
    (hnone : k ∉ xs.map (·.1) → Q none s) (hsome : ∀ j u v, xs[j]? = some (k, u, v) → Q (some j) s) : wpAny (model prog w) A (dictFind d kv (k.hash w)) Q E s := by
  have mx : ∀ {e : DictEntry}, e ∈ es → ∃ x ∈ xs, e = entN w x := fun {e} hin => by
    have h : e ∈ xs.map (entN w) := he ▸ Array.mem_toList_iff.mpr hin
    obtain ⟨x, hx, rfl⟩ := List.mem_map.mp h
    exact ⟨x, hx, rfl⟩
  have hst : ∀ v ∈ (plc es w k).filterMap (fun i => es[i]?.map (·.key)), ∃ k', isK s.heap k' v := by
    intro v hv
    obtain ⟨i, _, hi⟩ := List.mem_filterMap.mp hv
    cases hei : es[i]? with
    | none => rw [hei] at hi; cases hi
    | some e =>
      rw [hei] at hi
      obtain rfl : e.key = v := by simpa using hi
      obtain ⟨x, hx, rfl⟩ := mx (Array.mem_of_getElem? hei)
      exact ⟨x.1, his x hx⟩
  have hany : ¬ (es.any fun e => e.key == kv && e.hash != k.hash w) = true := by
    rw [← Array.any_toList, List.any_eq_true]
    rintro ⟨e, hin, hc⟩
    obtain ⟨x, hx, rfl⟩ := mx (Array.mem_toList_iff.mp hin)
    simp only [entN, Bool.and_eq_true, beq_iff_eq, bne_iff_ne, ne_eq] at hc
    obtain ⟨ha, hb⟩ := hc
    have z := his x hx
    rw [ha] at z
    exact hb (by rw [NestedIs.inj _ _ _ z.1 hk.1])
  have hinit : ∀ j u v, xs[j]? = some (k, u, v) → j ∈ plc es w k := fun j u v h => (mem_plc he).mpr ⟨k, u, v, h, rfl⟩
  have hempty : (∀ (j : Nat) (u v : Value), xs[j]? = some (k, u, v) → False) → k ∉ xs.map (·.1) := fun h hm => by
    obtain ⟨x, hx, e⟩ := List.mem_map.mp hm
    obtain ⟨j, hj⟩ := List.mem_iff_getElem?.mp hx
    obtain ⟨x1, x2, x3⟩ := x
    subst e
    exact h j x2 x3 hj
  unfold dictFind
  try with_reducible refine wpAny_holding ?_
  refine wpAny_bind (wpAny_dictEntries ho hd ?_)
  dsimp only
  have p1 : ∀ R : Sem (Option Nat), wpAny (model prog w) A R Q E s → wpAny (model prog w) A (match kv with
      | .str z _ => if (es.all fun e => isExactStrKey e.key) = true then foundByValue d kv es z else R
      | _ => R) Q E s := fun R hR => by
    split
    · rename_i z t
      split
      · -- all are texts
        rename_i hall
        have hkz : k = .text z := by
          cases hk.1
          rfl
        unfold foundByValue
        cases hf : es.findIdx? (fun e => e.key.isStr z) with
        | none =>
          refine wpAny_pure (hnone fun hm => ?_)
          obtain ⟨x, hx, e⟩ := List.mem_map.mp hm
          have hin : entN w x ∈ es := by
            rw [← Array.mem_toList_iff, he]
            exact List.mem_map_of_mem hx
          have h2 := Array.findIdx?_eq_none_iff.mp hf _ hin
          have h3 := (his x hx).1
          rw [e, hkz] at h3
          cases h4 : x.2.1 with
          | str a b =>
            rw [h4] at h3
            cases h3
            simp [entN, h4, Value.isStr] at h2
          | _ => rw [h4] at h3; cases h3
        | some i =>
          obtain ⟨hlt, hp, _⟩ := Array.findIdx?_eq_some_iff_getElem.mp hf
          obtain ⟨⟨k', u, v⟩, hx⟩ : ∃ y, xs[i]? = some y := ⟨_, List.getElem?_eq_getElem (by rw [← ent_size he]; exact hlt)⟩
          have hei : es[i]? = some (entN w (k', u, v)) := by rw [ent_at he i, hx]; rfl
          have hei2 : es[i] = entN w (k', u, v) := by
            rw [Array.getElem?_eq_getElem hlt] at hei
            exact Option.some.inj hei
          have hi := his _ (List.mem_of_getElem? hx)
          have hkk : k' = k := by
            rw [hei2] at hp
            have h3 := hi.1
            cases u with
            | str a b =>
              have h5 : (Value.str a b).isStr z = true := hp
              cases h3
              rw [hkz]
              simp [Value.isStr] at h5
              rw [h5]
            | _ => simp [entN, Value.isStr] at hp
          simp only [hei]
          refine wpAny_bind (wpAny_dictEpoch ho hd (wpAny_bind (eqb hu hi hk (wpAny_bind (wpAny_dictEpoch ho hd ?_)))))
          show wpAny _ _ (if (ep != ep) = true then _ else _) _ E _
          rw [if_neg (by simp), decide_eq_true hkk]
          subst hkk
          exact wpAny_bind (wpAny_rule (wpAny_pure (hsome i u v hx)))
      · exact hR
    · exact hR
  refine p1 _ ?_
  -- one step: a place that is looked at
  have step : ∀ x, x ∈ plc es w k → ∃ k' u v, xs[x]? = some (k', u, v) ∧ es[x]? = some (entN w (k', u, v)) ∧ ((entN w (k', u, v)).hash == k.hash w) = true ∧ isK s.heap k' u := fun x hx => by
    obtain ⟨k', u, v, h1, h2⟩ := (mem_plc he).mp hx
    exact ⟨k', u, v, h1, by rw [ent_at he x, h1]; rfl, by simp [entN, h2], his _ (List.mem_of_getElem? h1)⟩
  refine wp_ite (fun _ => ?_) fun _ => ?_
  · -- all by value
    unfold dictWalkPlain
    refine wpAny_bind ?_
    refine wpAny_forIn_list _ (fun rest b s' => s' = s ∧ b = (none, ()) ∧ (∀ i ∈ rest, i ∈ plc es w k) ∧ ∀ (j : Nat) (u v : Value), xs[j]? = some (k, u, v) → j ∈ rest) _ ?_ ?_ _ _ ⟨rfl, rfl, fun i hi => hi, hinit⟩
    · rintro x rest b s' ⟨rfl, rfl, hp, hr⟩
      obtain ⟨k', u, v, h1, h2, h3, h4⟩ := step x (hp x List.mem_cons_self)
      simp only [h2]
      rw [if_pos h3]
      refine wpAny_bind (wpAny_dictEpoch ho hd (wpAny_bind (eqb hu h4 hk (wpAny_bind (wpAny_dictEpoch ho hd ?_)))))
      show wpAny _ _ (if (ep != ep) = true then _ else _) _ E _
      rw [if_neg (by simp)]
      by_cases hkk : k' = k
      · rw [decide_eq_true hkk]
        subst hkk
        exact wpAny_bind (wpAny_rule (wpAny_pure (wpAny_pure (hsome x u v h1))))
      · rw [decide_eq_false hkk]
        refine wpAny_bind (wpAny_rule (wpAny_pure ⟨rfl, rfl, fun i hi => hp i (List.mem_cons_of_mem _ hi), fun j u2 v2 hj => ?_⟩))
        rcases List.mem_cons.mp (hr j u2 v2 hj) with e | e
        · subst e
          rw [h1] at hj
          cases hj
          exact absurd rfl hkk
        · exact e
    · rintro b s' ⟨rfl, rfl, _, hr⟩
      exact wpAny_pure (hnone (hempty fun j u v h => absurd (hr j u v h) List.not_mem_nil))
  · have p2 : ∀ U R : Sem (Option Nat), wpAny (model prog w) A R Q E s → wpAny (model prog w) A (match kv with
        | .ref _ => if (es.any fun e => e.key == kv && e.hash != k.hash w) = true then U else R
        | _ => R) Q E s := fun U R hR => by
      cases kv with
      | ref a =>
        show wpAny _ _ (if (es.any fun e => e.key == Value.ref a && e.hash != k.hash w) = true then U else R) Q E s
        rw [if_neg hany]
        exact hR
      | _ => exact hR
    refine p2 _ _ ?_
    have loop : ∀ t : Bool, t = false → True := fun _ _ => trivial
    refine wp_ite (fun _ => ?_) fun _ => ?_ <;> (first | refine wpAny_bind (wpAny_pure ?_) | refine wpAny_bind (quiet_mayTell hk hst ?_)) <;> (
      rw [if_neg (by simp)]
      refine wpAny_bind ?_
      refine wpAny_forIn_list _ (fun rest b s' => s' = s ∧ ∃ hit, b = (none, hit) ∧ (∀ i ∈ rest, i ∈ plc es w k) ∧ rest.Nodup ∧ ((hit = none ∧ ∀ (j : Nat) (u v : Value), xs[j]? = some (k, u, v) → j ∈ rest) ∨ ∃ j u v, hit = some j ∧ xs[j]? = some (k, u, v) ∧ j ∉ rest)) _ ?_ ?_ _ _
        ⟨rfl, none, rfl, fun i hi => hi, nodup_plc, .inl ⟨rfl, hinit⟩⟩
      · rintro x rest b s' ⟨rfl, hit, rfl, hp, hnd, hH⟩
        obtain ⟨k', u, v, h1, h2, h3, h4⟩ := step x (hp x List.mem_cons_self)
        have hp' : ∀ i ∈ rest, i ∈ plc es w k := fun i hi => hp i (List.mem_cons_of_mem _ hi)
        have hnd' := (List.nodup_cons.mp hnd).2
        have hxr := (List.nodup_cons.mp hnd).1
        simp only [h2]
        rw [if_pos h3]
        refine wpAny_bind (wpAny_dictEpoch ho hd (wpAny_bind (eqb hu h4 hk (wpAny_bind (wpAny_dictEpoch ho hd ?_)))))
        show wpAny _ _ (if (ep != ep) = true then _ else _) _ E _
        rw [if_neg (by simp)]
        by_cases hkk : k' = k
        · rw [decide_eq_true hkk]
          subst hkk
          rcases hH with ⟨rfl, _⟩ | ⟨j, u2, v2, rfl, hj, hjr⟩
          · simp only [Option.isSome_none, Bool.false_eq_true, if_false, if_true]
            refine wpAny_bind (wpAny_rule (wp_ite (fun _ => wpAny_pure (wpAny_pure (hsome x u v h1))) fun _ => wpAny_pure ⟨rfl, some x, rfl, hp', hnd', .inr ⟨x, u, v, rfl, h1, hxr⟩⟩))
          · exact absurd (key_unique hn hj h1) (fun e => hjr (by rw [e]; exact List.mem_cons_self))
        · rw [decide_eq_false hkk]
          have hH' : (hit = none ∧ ∀ (j : Nat) (u v : Value), xs[j]? = some (k, u, v) → j ∈ rest) ∨ ∃ j u v, hit = some j ∧ xs[j]? = some (k, u, v) ∧ j ∉ rest := by
            rcases hH with ⟨rfl, hr⟩ | ⟨j, u2, v2, rfl, hj, hjr⟩
            · refine .inl ⟨rfl, fun j u2 v2 hj => ?_⟩
              rcases List.mem_cons.mp (hr j u2 v2 hj) with e | e
              · subst e
                rw [h1] at hj
                cases hj
                exact absurd rfl hkk
              · exact e
            · exact .inr ⟨j, u2, v2, rfl, hj, fun h => hjr (List.mem_cons_of_mem _ h)⟩
          simp only [Bool.false_eq_true, if_false, Bool.false_and]
          refine wpAny_bind (wpAny_rule ?_)
          exact wpAny_pure ⟨rfl, hit, rfl, hp', hnd', hH'⟩
      · rintro b s' ⟨rfl, hit, rfl, _, _, hH⟩
        rcases hH with ⟨rfl, hr⟩ | ⟨j, u, v, rfl, hj, _⟩
        · exact wpAny_pure (hnone (hempty fun j u v h => absurd (hr j u v h) List.not_mem_nil))
        · exact wpAny_pure (hsome j u v hj))
end
end Dn
set_option maxHeartbeats 4000000
namespace Dn
open PySem PySem.Spec
theorem Raw.typeIs {w : World} {s : Shared} {d : Addr} {xs : List Ent} (h : Raw w s.heap d xs) : s.TypeIs (.ref d) "dict" := let ⟨o, _, _, ho, hc, _⟩ := h; ⟨o, ho, hc.1⟩
theorem Raw.noDict {w : World} {h : Heap} {d : Addr} {xs : List Ent} (m : Raw w h d xs) : ∀ b, Value.ref d = .ref b → ∃ ob, h.get? b = some ob ∧ ob.dict = none := fun b e => by
  injection e with e
  subst e
  exact let ⟨o, _, _, ho, hc, _⟩ := m; ⟨o, ho, hc.2.1⟩
theorem look_some {xs : List Ent} (hn : (xs.map (·.1)).Nodup) {k : NestedKey} (h : k ∈ xs.map (·.1)) : ∃ (j : Nat) (u v : Value), xs[j]? = some (k, u, v) ∧ look xs k = some v := by
  obtain ⟨x, hx, e⟩ := List.mem_map.mp h
  obtain ⟨j, hj⟩ := List.mem_iff_getElem?.mp hx
  obtain ⟨x1, x2, x3⟩ := x
  subst e
  exact ⟨j, x2, x3, hj, look_at hn hj⟩
section
variable {prog : Program} {w : World} {A : Around} {E : Value → Shared → Prop} {s : Shared} {d : Addr} {xs : List Ent} {k : NestedKey} {kv dv : Value}
theorem get_n {Q : Option Value → Shared → Prop} (hu : A.units + 8 < cLine) (hk : isK s.heap k kv) (m : Raw w s.heap d xs) (his : ∀ x ∈ xs, isK s.heap x.1 x.2.1) (hn : (xs.map (·.1)).Nodup) (h : Q (look xs k) { s with toks := s.toks + k.draws }) :
    wpAny (model prog w) A (dictGet d kv) Q E s := by
  obtain ⟨o, es, ep, ho, _, hd, he⟩ := m
  unfold dictGet
  try with_reducible refine wpAny_holding ?_
  refine wpAny_bind (pyHash_key k kv A s _ hk.1 (by have := hk.2; omega) (wpAny_bind (find_n (s := { s with toks := s.toks + k.draws }) hu hk ho hd he his hn (fun hno => ?_) fun j u v hj => ?_)))
  · rw [look_none hno] at h
    exact wpAny_pure h
  · rw [look_at hn hj] at h
    refine wpAny_bind (wpAny_dictEntries (s := { s with toks := s.toks + k.draws }) ho hd ?_)
    rw [ent_at he j, hj]
    exact wpAny_pure h
theorem setDefault_n {Q : Value → Shared → Prop} (hu : A.units + 8 < cLine) (hk : isK s.heap k kv) (m : Raw w s.heap d xs) (his : ∀ x ∈ xs, isK s.heap x.1 x.2.1) (hn : (xs.map (·.1)).Nodup) (hsz : xs.length ≤ sizeLine)
    (h1 : ∀ v, look xs k = some v → Q v { s with toks := s.toks + k.draws })
    (h2 : k ∉ xs.map (·.1) → ∀ h', Raw w h' d (xs ++ [(k, kv, dv)]) → Heap.SameBut d s.heap h' → Q dv { s with heap := h', toks := s.toks + k.draws }) :
    wpAny (model prog w) A (dictSetDefault d kv dv) Q E s := by
  obtain ⟨o, es, ep, ho, hc, hd, he⟩ := m
  unfold dictSetDefault
  try with_reducible refine wpAny_holding ?_
  refine wpAny_bind (pyHash_key k kv A s _ hk.1 (by have := hk.2; omega) ?_)
  refine wpAny_bind (find_n (s := { s with toks := s.toks + k.draws }) hu hk ho hd he his hn (fun hno => ?_) fun j u v hj => ?_)
  · refine wpAny_bind (wpAny_rule (wpAny_bind (wpAny_updateDictKeys (hz := by have e := ent_size he; omega) (s := { s with toks := s.toks + k.draws }) ho hd (wpAny_pure (h2 hno _ ⟨_, _, ep + 1, Heap.get?_update_self _ ho (Obj.isFreed_of_dict (Obj.data_mapDictKeys hd _)),
      hc.mapDictKeys _, Obj.data_mapDictKeys hd _, ?_⟩ (Heap.SameBut.update ..))))))
    simp [he, entN]
  · refine wpAny_bind (wpAny_dictEntries (s := { s with toks := s.toks + k.draws }) ho hd ?_)
    rw [ent_at he j, hj]
    exact wpAny_bind (wpAny_rule (wpAny_pure (h1 v (look_at hn hj))))
theorem meets_setdefault (hd : (d == sysModules) = false) :
    MeetsIn prog w (Builtin.«dict.setdefault» ⟨[.ref d, kv, dv], []⟩) (fun A R s => A.in1.units + 8 < cLine ∧ ∃ k xs, isK s.heap k kv ∧ Raw w s.heap d xs ∧ (∀ x ∈ xs, isK s.heap x.1 x.2.1) ∧ (xs.map (·.1)).Nodup ∧ xs.length ≤ sizeLine ∧
      (∀ v, look xs k = some v → R (.ok (.ret v)) { s with toks := s.toks + k.draws }) ∧
      (k ∉ xs.map (·.1) → ∀ h', Raw w h' d (xs ++ [(k, kv, dv)]) → Heap.SameBut d s.heap h' → R (.ok (.ret dv)) { s with heap := h', toks := s.toks + k.draws })) :=
  .of_wp fun A R s ⟨hu, k, xs, hk, m, his, hn, hz, h1, h2⟩ => by
    unfold Builtin.«dict.setdefault»
    refine wpAny_bind ?_
    unfold Builtin.Dict.keyAndDefault
    refine wpAny_bind (wpAny_notOrdered_dict m.typeIs ?_)
    show wpAny _ _ (pure (d, kv, some dv)) _ _ s
    refine wpAny_pure ?_
    show wpAny _ _ (if (d == sysModules) = true then _ else (dictSetDefault d kv dv >>= _)) _ _ s
    rw [if_neg (by rw [hd]; exact Bool.false_ne_true)]
    exact wpAny_bind (setDefault_n hu hk m his hn hz (fun v hv => wpAny_pure ⟨v, rfl, h1 v hv⟩) fun hno h' m' hs => wpAny_pure ⟨dv, rfl, h2 hno h' m' hs⟩)
theorem call_setdefault_n {Q : Value → Shared → Prop} (hu : A.in1.units + 8 < cLine) (hd : (d == sysModules) = false) (hk : isK s.heap k kv) (m : Raw w s.heap d xs) (his : ∀ x ∈ xs, isK s.heap x.1 x.2.1) (hn : (xs.map (·.1)).Nodup) (hsz : xs.length ≤ sizeLine)
    (h1 : ∀ v, look xs k = some v → Q v { s with toks := s.toks + k.draws })
    (h2 : k ∉ xs.map (·.1) → ∀ h', Raw w h' d (xs ++ [(k, kv, dv)]) → Heap.SameBut d s.heap h' → Q dv { s with heap := h', toks := s.toks + k.draws }) :
    wpAny (model prog w) A (call (.builtin "dict.setdefault") [.ref d, kv, dv]) Q E s :=
  call_meetsIn F.slot_dict_setdefault m.typeIs F.entry_dict_setdefault (F.args_dict_setdefault_3 _ _ _) (meets_setdefault hd) ⟨hu, k, xs, hk, m, his, hn, hsz, h1, h2⟩
theorem getItem_n {v : Value} {Q : Value → Shared → Prop} (hu : A.in1.units + 8 < cLine) (hk : isK s.heap k kv) (m : Raw w s.heap d xs) (his : ∀ x ∈ xs, isK s.heap x.1 x.2.1) (hn : (xs.map (·.1)).Nodup) (hv : look xs k = some v)
    (h : Q v { s with toks := s.toks + k.draws }) : wpAny (model prog w) A (getItem (.ref d) kv) Q E s := by
  unfold getItem
  try with_reducible refine wpAny_holding ?_
  refine wpAny_bind (wpAny_sequenceKey m.typeIs (by decide) ?_)
  refine wpAny_bind (wpAny_callSpecial?_slot (name := Str.ofString "__getitem__") m.typeIs slot_dict_getitem
    (wpAny_call_entry slot_dict_getitem m.typeIs entry_dict_getitem ?_ (args_dict_getitem _ _)))
  show wpAny _ _ (dictGet d kv >>= _) _ _ s
  refine wpAny_bind (get_n hu hk m his hn ?_)
  rw [hv]
  exact wpAny_pure ⟨v, rfl, wpAny_pure h⟩
end
end Dn
set_option maxHeartbeats 4000000
namespace Dl
open PySem PySem.Spec PyProof.Rows L2 Evl RZ Dn
/-! ### data that can be keys -/
mutual
def nk : PyData → Option NestedKey
  | .none => some .none
  | .bool b => some (.num (if b = true then 1 else 0))
  | .int i => some (.num i)
  | .str x => some (.text x)
  | .tuple ds => (nkAll ds).map .tup
  | _ => none
def nkAll : List PyData → Option (List NestedKey)
  | [] => some []
  | d :: ds => match nk d, nkAll ds with
    | some k, some ks => some (k :: ks)
    | _, _ => none
end
section
variable {X : Cx} {pins : List (Addr × Obj)} {σ : L2.St} {H : Hp} {s : Shared}
mutual
theorem Tp.nested (I : Inv X pins σ H s) : ∀ (d : PyData) (u : V) (v : Value) (k : NestedKey), Tp H u d → nk d = some k → RelV u v → NestedIs s.heap k v
  | .none, _, v, k, h, e, r => by
    cases h
    cases (Option.some.inj (by simpa [nk] using e) : NestedKey.none = k)
    cases (show v = Value.none from r)
    exact .none
  | .bool b, _, v, k, h, e, r => by
    cases h
    have e2 : NestedKey.num (if b = true then 1 else 0) = k := by simpa [nk] using e
    subst e2
    cases (show v = Value.bool b from r)
    exact .bool rfl
  | .int i, _, v, k, h, e, r => by
    cases h
    have e2 : NestedKey.num i = k := by simpa [nk] using e
    subst e2
    obtain ⟨t, rfl⟩ := (show ∃ t, v = Value.int i t from r)
    exact .int i t
  | .str x, _, v, k, h, e, r => by
    cases h
    have e2 : NestedKey.text x = k := by simpa [nk] using e
    subst e2
    obtain ⟨t, rfl⟩ := (show ∃ t, v = Value.str x t from r)
    exact .text x t
  | .tuple ds, _, v, k, h, e, r => by
    cases h with
    | tup ha hs =>
      obtain ⟨z, its, rv, o, h1, h2, n, h3⟩ := I.hok _ _ ha
      cases (show v = Value.ref _ from r)
      cases e2 : nkAll ds with
      | none => simp [nk, e2] at e
      | some ks =>
        have e3 : NestedKey.tup ks = k := by simpa [nk, e2] using e
        subst e3
        exact .tup h1 h2 h3 (by simpa using TpAll.nested I ds _ _ ks hs e2 rv)
  | .list _, _, _, _, _, e, _ => by simp [nk] at e
  | .dict _, _, _, _, _, e, _ => by simp [nk] at e
theorem TpAll.nested (I : Inv X pins σ H s) : ∀ (ds : List PyData) (us : List V) (vs : List Value) (ks : List NestedKey), TpAll H us ds → nkAll ds = some ks → Vals us vs → NestedAll s.heap ks vs
  | [], _, _, ks, h, e, r => by
    cases h
    cases r
    have e2 : ([] : List NestedKey) = ks := by simpa [nkAll] using e
    subst e2
    exact .nil
  | d :: ds, _, _, ks, h, e, r => by
    cases h with
    | cons h1 h2 =>
      cases r with
      | cons r1 r2 =>
        cases e1 : nk d with
        | none => simp [nkAll, e1] at e
        | some k1 =>
          cases e2 : nkAll ds with
          | none => simp [nkAll, e1, e2] at e
          | some ks2 =>
            have e3 : k1 :: ks2 = ks := by simpa [nkAll, e1, e2] using e
            subst e3
            exact .cons (Tp.nested I d _ _ k1 h1 e1 r1) (TpAll.nested I ds _ _ ks2 h2 e2 r2)
end
end
/-! ### a dict of any words in a heap -/
abbrev KVs := List (NestedKey × V × V)
abbrev PairsN : KVs → List Ent → Prop := Paired fun p q => p.1 = q.1 ∧ RelV p.2.1 q.2.1 ∧ RelV p.2.2 q.2.2
def phiD (w : World) (a : Addr) (ks : KVs) (h : Heap) : Prop := (a == sysModules) = false ∧ ks.length ≤ sizeLine ∧ ∃ xs, PairsN ks xs ∧ Raw w h a xs
def DkO (w : World) (a : Addr) (ks : KVs) : HO := .ext (phiD w a ks)
def DkAt (w : World) (H : Hp) (a : Addr) (ks : KVs) : Prop := H a = some (DkO w a ks) ∨ (ks = [] ∧ H a = some (.dK []))
theorem phi_ok {P : Program} {w : World} {H : Hp} {h : Heap} {a : Addr} {ks : KVs} (p : phiD w a ks h) : ObjOk P w H h a (DkO w a ks) := by
  refine ⟨p, ?_, ?_⟩
  · obtain ⟨_, _, xs, _, o, _, _, ho, _⟩ := p
    exact ⟨o, ho⟩
  · rintro h1 h2 ⟨p1, p2, xs, p3, o, es, ep, ho, r⟩ k
    exact ⟨p1, p2, xs, p3, o, es, ep, k o ho, r⟩
theorem dk_raw {P : Program} {w : World} {H : Hp} {h : Heap} {a : Addr} {ks : KVs} (ok : HOk P w H h) (e : DkAt w H a ks) : phiD w a ks h := by
  rcases e with e | ⟨rfl, e⟩
  · exact (ok a _ e).1
  · obtain ⟨z, hd, vs, rel, o, es, ep, ho, hc, hdt, _, hp, _⟩ := dk_of ok e
    cases rel
    have hl : es.toList = [] := by
      have := hp.length
      exact List.length_eq_zero_iff.mp this
    exact ⟨hd, Nat.zero_le _, [], .nil, o, es, ep, ho, hc, hdt, hl⟩
theorem dk_mut {w : World} {H : Hp} {a : Addr} {ks : KVs} (e : DkAt w H a ks) : Mut (H a) := by
  rcases e with e | ⟨_, e⟩ <;> (rw [e]; trivial)
def lookV (ks : KVs) (k : NestedKey) : Option V := (ks.find? fun x => decide (x.1 = k)).map (·.2.2)
theorem pairs_look {k : NestedKey} : ∀ {ks : KVs} {xs : List Ent}, PairsN ks xs → (lookV ks k = none ∧ look xs k = none) ∨ ∃ y v, lookV ks k = some y ∧ look xs k = some v ∧ RelV y v
  | _, _, .nil => .inl ⟨rfl, rfl⟩
  | _, _, .cons (a := p) (b := q) ⟨h1, h2, h3⟩ t => by
    by_cases e : p.1 = k
    · have e2 : q.1 = k := h1 ▸ e
      exact .inr ⟨p.2.2, q.2.2, by simp [lookV, e], by simp [look, e2], h3⟩
    · have e2 : ¬ q.1 = k := fun z => e (h1.trans z)
      rcases pairs_look (k := k) t with ⟨a, b⟩ | ⟨y, v, a, b, c⟩
      · exact .inl ⟨by simpa [lookV, List.find?_cons, e] using a, by simpa [look, List.find?_cons, e2] using b⟩
      · exact .inr ⟨y, v, by simpa [lookV, List.find?_cons, e] using a, by simpa [look, List.find?_cons, e2] using b, c⟩
theorem pairs_keys : ∀ {ks : KVs} {xs : List Ent}, PairsN ks xs → xs.map (·.1) = ks.map (·.1)
  | _, _, .nil => rfl
  | _, _, .cons ⟨h1, _, _⟩ t => by rw [List.map_cons, List.map_cons, h1, pairs_keys t]
theorem pairs_snoc {p : NestedKey × V × V} {q : Ent} (h : p.1 = q.1 ∧ RelV p.2.1 q.2.1 ∧ RelV p.2.2 q.2.2) : ∀ {ks : KVs} {xs : List Ent}, PairsN ks xs → PairsN (ks ++ [p]) (xs ++ [q])
  | _, _, .nil => .cons h .nil
  | _, _, .cons a t => .cons a (pairs_snoc h t)
/-- the keys are tracked -/
def KeysAt (B : Hp) (ks : KVs) : Prop := ∀ p ∈ ks, ∃ d, Tp B p.2.1 d ∧ nk d = some p.1 ∧ p.1.depth ≤ 8
section
variable {X : Cx} {pins : List (Addr × Obj)} {σ : L2.St} {H B : Hp} {s : Shared}
theorem keys_is (I : Inv X pins σ H s) (e : Ex B H) {ks : KVs} {xs : List Ent} (hk : KeysAt B ks) (r : PairsN ks xs) : ∀ x ∈ xs, isK s.heap x.1 x.2.1 := by
  unfold PairsN at r
  induction r with
  | nil => exact fun x hx => nomatch hx
  | @cons p q ps qs h t ih =>
    intro x hx
    obtain ⟨h1, h2, h3⟩ := h
    rcases List.mem_cons.mp hx with rfl | hx
    · obtain ⟨d, a, b, c⟩ := hk p List.mem_cons_self
      rw [← h1]
      exact ⟨Tp.nested I d _ _ _ (Tp.ex e _ _ a) b h2, c⟩
    · exact ih (fun p hp => hk p (List.mem_cons_of_mem _ hp)) x hx
/-- d.setdefault(u, v) -/
def rSetD (w : World) : V → List V → Hp → VK → Prop := fun x vs H Q => ∃ a ks B u v du k, x = .ref a ∧ vs = [u, v] ∧ DkAt w H a ks ∧ Ex B H ∧ Tp B u du ∧ nk du = some k ∧ k.depth ≤ 8 ∧ KeysAt B ks ∧ (ks.map (·.1)).Nodup ∧ ks.length < sizeLine ∧
  (∀ y, lookV ks k = some y → Q y H) ∧ (lookV ks k = none → Q v (upd H a (DkO w a (ks ++ [(k, u, v)]))))
theorem pairs_len {ks : KVs} {xs : List Ent} (r : PairsN ks xs) : xs.length = ks.length := (Paired.length r).symm
theorem mt_setD (hu : X.A.in1.units + 8 < cLine) : MtR X "dict.setdefault" (rSetD X.w) := by
  intro pins s σ H x vs v us Q I rx rs h
  obtain ⟨a, ks, B, u, w1, du, k, rfl, rfl, hD, eB, hTu, hnk, hdp, hK, hN, hsz, q1, q2⟩ := h
  obtain ⟨uv, dv, rfl, r1, r2⟩ := Vals.two rs
  cases (show v = Value.ref a from rx)
  obtain ⟨hd, hz, xs, hp, hr⟩ := dk_raw I.hok hD
  have his := keys_is I eB hK hp
  have hk : isK s.heap k uv := ⟨Tp.nested I du u uv k (Tp.ex eB _ _ hTu) hnk r1, hdp⟩
  have hnod : (xs.map (·.1)).Nodup := by rw [pairs_keys hp]; exact hN
  have hlen := pairs_len hp
  refine call_setdefault_n hu hd hk hr his hnod (by omega) (fun y hy => ?_) fun hno h' hr' hs => ?_
  · rcases pairs_look (k := k) hp with ⟨_, b⟩ | ⟨y', v', a1, b1, c1⟩
    · rw [hy] at b; cases b
    · rw [hy] at b1
      cases b1
      exact ⟨y', H, I.tok _, c1, q1 y' a1⟩
  · have hl : lookV ks k = none := by
      rcases pairs_look (k := k) hp with ⟨a1, _⟩ | ⟨y', v', a1, b1, c1⟩
      · exact a1
      · rw [look_none hno] at b1; cases b1
    have hph : phiD X.w a (ks ++ [(k, u, w1)]) h' := ⟨hd, by rw [List.length_append]; simp; omega, _, pairs_snoc ⟨rfl, r1, r2⟩ hp, hr'⟩
    refine ⟨w1, _, d_write I (dk_mut hD) hs ?_ (phi_ok hph), r2, q2 hl⟩
    obtain ⟨o, _, _, ho, _⟩ := hr'
    exact ⟨o, ho⟩
end
end Dl
namespace Dl
open PySem PySem.Spec PyProof.Rows L2 Evl RZ Dn
section
variable {prog : Program} {w : World} {A : Around} {E : Value → Shared → Prop} {s : Shared} {d : Addr} {xs : List Ent}
theorem Dn_dictRaw {h : Heap} (m : Raw w h d xs) : ∃ es ep, h.DictRaw d es ep ∧ es.size = xs.length := by
  obtain ⟨o, es, ep, ho, hc, hd, he⟩ := m
  exact ⟨es, ep, ⟨o, ho, hc, hd⟩, ent_size he⟩
theorem len_body_n {Q : Value → Shared → Prop} (hd : (d == sysModules) = false) (m : Raw w s.heap d xs) (hfit : (xs.length : Int) < 2 ^ 63) (h : Q (.int xs.length (s.toks + 1)) { s with toks := s.toks + 1 + 1 }) :
    wpAny (model prog w) A (Builtin.«len» ⟨[.ref d], []⟩) (fun fin s' => ∃ r, fin = .done (.ret r) ∧ Q r s') E s := by
  obtain ⟨es, ep, hr, hs⟩ := Dn_dictRaw m
  unfold Builtin.«len»
  refine wpAny_bind (m := oneArg "len" _) (wpAny_pure ?_)
  refine wpAny_bind (m := callSpecial? (.ref d) (Str.ofString "__len__")) (wpAny_callSpecial?_slot (name := Str.ofString "__len__") m.typeIs F.slot_dict_len (call_len_raw hd hr ?_))
  show wpAny _ _ _ _ _ { s with toks := s.toks + 1 }
  rw [hs]
  refine wpAny_bind (wpAny_holding (wpAny_pure ?_))
  refine wpAny_bind (wpAny_letGo ?_)
  show wpAny _ _ (if ((xs.length : Nat) : Int) < 0 then _ else _) _ _ _
  rw [if_neg (by omega)]
  show wpAny _ _ (if ((xs.length : Nat) : Int) ≥ 2 ^ 63 then _ else _) _ _ _
  rw [if_neg (by omega)]
  exact wpAny_bind (wpAny_mkInt (wpAny_pure ⟨_, rfl, h⟩))
theorem call_len_n {Q : Value → Shared → Prop} (hd : (d == sysModules) = false) (m : Raw w s.heap d xs) (hfit : (xs.length : Int) < 2 ^ 63) (h : Q (.int xs.length (s.toks + 1)) { s with toks := s.toks + 1 + 1 }) :
    wpAny (model prog w) A (call (.builtin "len") [.ref d]) Q E s :=
  Calls.call_function_entry kind_len plain_len entry_len (args_len1 _) (len_body_n hd m hfit h)
end
section
variable {X : Cx}
def rLenD (w : World) : List V → Hp → VK → Prop := fun vs H Q => ∃ a ks, vs = [.ref a] ∧ DkAt w H a ks ∧ Q (.int ks.length) H
theorem cr_lenD : CallR X (.builtin "len") (rLenD X.w) := by
  intro pins s σ H vs us Q I r h
  obtain ⟨a, ks, rfl, hD, q⟩ := h
  obtain ⟨u, rfl, rx⟩ := vals1 r
  cases rx
  obtain ⟨hd, hz, xs, hp, hr⟩ := dk_raw I.hok hD
  have hlen := pairs_len hp
  have hz2 : xs.length < 2 ^ 63 := by rw [hlen]; rw [sizeLine_eq] at hz; omega
  refine call_len_n hd hr (by omega) ⟨.int ks.length, H, I.tok _, ⟨s.toks + 1, by rw [hlen]⟩, q⟩
variable {o e : Expr} {es : List Expr} {to ti : TE} {t : TA} {apos cpos pos : Pos} {i : Expr}
def tSetD (w : World) (to : TE) (t : TA) : TE := fun σ H Q => to σ H fun x H1 => (∃ a ks, x = .ref a ∧ DkAt w H1 a ks) ∧ t σ H1 fun xs H2 => rSetD w x xs H2 Q
theorem dkAt_type {pins : List (Addr × Obj)} {σ : L2.St} {H : Hp} {s : Shared} {a : Addr} {ks : KVs} (I : Inv X pins σ H s) (h : DkAt X.w H a ks) : s.TypeIs (.ref a) "dict" ∧ ∀ b, Value.ref a = .ref b → ∃ ob, s.heap.get? b = some ob ∧ ob.dict = none := by
  obtain ⟨_, _, xs, _, hr⟩ := dk_raw I.hok h
  exact ⟨hr.typeIs, hr.noDict⟩
theorem pe_setD (hu : X.A.in1.units + 8 < cLine) (ho : PE X o to) (ha : PA X (e :: es) t)
    (hbase : attributeBase o "setdefault" X.env (eval o X.env) = eval o X.env := by rfl)
    (hfew : ((backTo cpos (starEach (e :: es) X.env)).all (fun x => !x.1) && (backToKw cpos (keywordEach [] X.env)).all (fun x => x.1.isSome)
      && decide ((e :: es).length + ([] : List Keyword).length + (if ([] : List Keyword).isEmpty then 0 else 1) < 30)) = true := by rfl)
    (hline : (apos.endLine == cpos.line) = true := by rfl) (hs : starEach (e :: es) X.env = (false, eval e X.env) :: starEach es X.env := by rfl) (hplain : (backTo cpos (starEach es X.env)).any (·.1) = false := by rfl) :
    PE X (.Call (.Attribute o "setdefault" apos) (e :: es) [] cpos) (tSetD X.w to t) := by
  refine ⟨fun pins s σ H Q I h => ?_⟩
  refine wpAny_Call_method_late hbase hfew hline rfl (thn (ho.run pins s σ H _ I h) fun v s1 ⟨x, H1, I1, r1, ⟨a, ks, ex, hD⟩, q1⟩ => ?_)
  subst ex
  cases (show v = Value.ref a from r1)
  obtain ⟨h1, h2⟩ := dkAt_type I1 hD
  refine ⟨"dict", "dict.setdefault", PySem.F.plainAttrs_dict, PySem.F.slot_dict_setdefault, PySem.F.type_dict_setdefault, h1, h2, ?_⟩
  have hA := ha.run cpos pins s1 σ H1 _ I1 q1
  rw [hs] at hA ⊢
  refine Calls.callWith_builtin (by show (false || (backTo cpos (starEach es X.env)).any (·.1)) = false; rw [hplain] <;> rfl) (Calls.evalArgs_plain ?_)
  exact thn hA fun us s2 ⟨vs, H2, I2, r2, q2⟩ => mt_setD hu pins s2 σ H2 (.ref a) vs (.ref a) us Q I2 rfl r2 q2
/-- d[y], there -/
def tGetN (w : World) (td ty : TE) : TE := fun σ H Q => td σ H fun x H1 => ty σ H1 fun y H2 => ∃ a ks B du k v, x = .ref a ∧ DkAt w H2 a ks ∧ Ex B H2 ∧ Tp B y du ∧ nk du = some k ∧ k.depth ≤ 8 ∧ KeysAt B ks ∧ (ks.map (·.1)).Nodup ∧ lookV ks k = some v ∧ Q v H2
theorem pe_getN (hu : X.A.units + 9 < cLine) (ho : PE X o to) (hi : PE X i ti) (hs : NoSl i) : PE X (.Subscript o i pos) (tGetN X.w to ti) := by
  refine ⟨fun pins s σ H Q I h => ?_⟩
  refine subD_of PySem.F.slot_dict_getitem.lookup hs (thn (ho.run pins s σ H _ I h) fun u s1 ⟨x, H1, I1, rx, q1⟩ => thn (hi.run pins s1 σ H1 _ I1 q1) fun iv s2 ⟨y, H2, I2, ry, a, ks, B, du, k, v, ex, hD, eB, hTy, hnk, hdp, hK, hN, hl, q2⟩ => ?_)
  subst ex
  obtain rfl : u = Value.ref a := rx
  obtain ⟨hd, hz, xs, hp, hr⟩ := dk_raw I2.hok hD
  have hnod : (xs.map (·.1)).Nodup := by rw [pairs_keys hp]; exact hN
  rcases pairs_look (k := k) hp with ⟨a1, _⟩ | ⟨y', v', a1, b1, c1⟩
  · rw [hl] at a1; cases a1
  · rw [hl] at a1
    cases a1
    exact ⟨(dkAt_type I2 hD).1, getItem_n (A := X.A) (by rw [Around.in1_units]; omega) ⟨Tp.nested I2 du y iv k (Tp.ex eB _ _ hTy) hnk ry, hdp⟩ hr (keys_is I2 eB hK hp) hnod b1 ⟨v, H2, I2.tok _, c1, q2⟩⟩
end
end Dl
set_option maxHeartbeats 4000000
namespace Dl
open PySem PySem.Spec PyProof.Rows L2 Evl RZ Dn
/-! ### the numbers of keys as they first stand -/
def addK (acc : List NestedKey) (k : NestedKey) : List NestedKey := if k ∈ acc then acc else acc ++ [k]
def onceK (ks : List NestedKey) : List NestedKey := ks.foldl addK []
def numK (ks : List NestedKey) (k : NestedKey) : Nat := (onceK ks).idxOf k
theorem onceK_take {ks : List NestedKey} {i : Nat} {k : NestedKey} (h : ks[i]? = some k) : onceK (ks.take (i + 1)) = addK (onceK (ks.take i)) k := by
  unfold onceK
  rw [List.take_add_one, h]
  show List.foldl _ [] (ks.take i ++ [k]) = _
  rw [List.foldl_append]
  rfl
theorem addK_mem {acc : List NestedKey} {k x : NestedKey} : x ∈ addK acc k ↔ x ∈ acc ∨ x = k := by
  unfold addK
  split
  · rename_i h
    exact ⟨.inl, fun z => z.elim id fun e => e ▸ h⟩
  · rw [List.mem_append, List.mem_singleton]
theorem addK_nodup {acc : List NestedKey} {k : NestedKey} (h : acc.Nodup) : (addK acc k).Nodup := by
  unfold addK
  split
  · exact h
  · rename_i hn
    rw [List.nodup_append]
    refine ⟨h, by simp, fun a ha b hb e => ?_⟩
    rw [List.mem_singleton.mp hb] at e
    exact hn (e ▸ ha)
theorem foldK_mem : ∀ (ks acc : List NestedKey) (x : NestedKey), x ∈ ks.foldl addK acc ↔ x ∈ acc ∨ x ∈ ks
  | [], acc, x => by simp
  | k :: ks, acc, x => by
    rw [List.foldl_cons, foldK_mem ks, addK_mem, List.mem_cons, or_assoc]
theorem onceK_mem {ks : List NestedKey} {x : NestedKey} : x ∈ onceK ks ↔ x ∈ ks := by
  unfold onceK
  rw [foldK_mem]
  simp
theorem onceK_len (ks : List NestedKey) : (onceK ks).length ≤ ks.length := by
  have h : ∀ (ks acc : List NestedKey), (ks.foldl addK acc).length ≤ acc.length + ks.length := by
    intro ks
    induction ks with
    | nil => intro acc; exact Nat.le_refl _
    | cons k ks ih =>
      intro acc
      have h1 := ih (addK acc k)
      have h2 : (addK acc k).length ≤ acc.length + 1 := by
        unfold addK
        split
        · omega
        · rw [List.length_append]; exact Nat.le_refl _
      rw [List.foldl_cons, List.length_cons]
      omega
  have := h ks []
  simpa [onceK] using this
theorem onceK_nodup (ks : List NestedKey) : (onceK ks).Nodup := by
  have h : ∀ (ks acc : List NestedKey), acc.Nodup → (ks.foldl addK acc).Nodup := by
    intro ks
    induction ks with
    | nil => intro acc ha; exact ha
    | cons k ks ih => intro acc ha; exact ih _ (addK_nodup ha)
  exact h ks [] List.nodup_nil
theorem nkAll_get : ∀ {ds : List PyData} {ks : List NestedKey} {i : Nat} {d : PyData}, nkAll ds = some ks → ds[i]? = some d → ∃ k, ks[i]? = some k ∧ nk d = some k
  | [], ks, i, d, _, h => by simp at h
  | e :: ds, ks, i, d, h, hd => by
    cases e1 : nk e with
    | none => simp [nkAll, e1] at h
    | some k1 =>
      cases e2 : nkAll ds with
      | none => simp [nkAll, e1, e2] at h
      | some ks2 =>
        have e3 : k1 :: ks2 = ks := by simpa [nkAll, e1, e2] using h
        subst e3
        cases i with
        | zero =>
          simp at hd
          subst hd
          exact ⟨k1, rfl, e1⟩
        | succ i =>
          obtain ⟨k, a, b⟩ := nkAll_get (i := i) e2 (by simpa using hd)
          exact ⟨k, by simpa using a, b⟩
theorem nkAll_len : ∀ {ds : List PyData} {ks : List NestedKey}, nkAll ds = some ks → ks.length = ds.length
  | [], ks, h => by
    have e : [] = ks := by simpa [nkAll] using h
    subst e
    rfl
  | e :: ds, ks, h => by
    cases e1 : nk e with
    | none => simp [nkAll, e1] at h
    | some k1 =>
      cases e2 : nkAll ds with
      | none => simp [nkAll, e1, e2] at h
      | some ks2 =>
        have e3 : k1 :: ks2 = ks := by simpa [nkAll, e1, e2] using h
        subst e3
        rw [List.length_cons, List.length_cons, nkAll_len e2]
/-- the values are the places -/
def Placed (n : Nat) : KVs → Prop
  | [] => True
  | p :: ks => p.2.2 = .int (n : Nat) ∧ Placed (n + 1) ks
theorem placed_snoc {k : NestedKey} {u : V} : ∀ {ks : KVs} {n : Nat}, Placed n ks → Placed n (ks ++ [(k, u, .int ((n + ks.length : Nat) : Int))])
  | [], n, _ => ⟨rfl, trivial⟩
  | p :: ks, n, h => by
    refine ⟨h.1, ?_⟩
    have e : n + (p :: ks).length = n + 1 + ks.length := by rw [List.length_cons]; omega
    rw [e]
    exact placed_snoc h.2
theorem placed_look {k : NestedKey} : ∀ {ks : KVs} {n : Nat}, Placed n ks → k ∈ ks.map (·.1) → lookV ks k = some (.int ((n + (ks.map (·.1)).idxOf k : Nat) : Int))
  | [], _, _, h => by simp at h
  | p :: ks, n, h, hm => by
    by_cases e : p.1 = k
    · have z : ((p :: ks).map (·.1)).idxOf k = 0 := by
        rw [List.map_cons, List.idxOf_cons, e]
        simp
      rw [z]
      simp [lookV, e, h.1]
    · have hm2 : k ∈ ks.map (·.1) := by
        rw [List.map_cons] at hm
        rcases List.mem_cons.mp hm with q | q
        · exact absurd q.symm e
        · exact q
      have ih := placed_look h.2 hm2
      have z : ((p :: ks).map (·.1)).idxOf k = (ks.map (·.1)).idxOf k + 1 := by
        rw [List.map_cons, List.idxOf_cons]
        have q : (p.1 == k) = false := decide_eq_false e
        rw [q]
        rfl
      have z2 : n + ((p :: ks).map (·.1)).idxOf k = n + 1 + (ks.map (·.1)).idxOf k := by rw [z]; omega
      rw [z2]
      simpa [lookV, List.find?_cons, e] using ih
theorem lookV_none {k : NestedKey} : ∀ {ks : KVs}, k ∉ ks.map (·.1) → lookV ks k = none
  | [], _ => rfl
  | p :: ks, h => by
    rw [List.map_cons, List.mem_cons, not_or] at h
    have e : ¬ p.1 = k := fun z => h.1 z.symm
    simpa [lookV, List.find?_cons, e] using lookV_none h.2
theorem DkAt.ex {w : World} {H H' : Hp} {a : Addr} {ks : KVs} (e : Ex H H') (h : DkAt w H a ks) : DkAt w H' a ks := by
  rcases h with h | ⟨h1, h⟩
  · exact .inl (e _ _ h)
  · exact .inr ⟨h1, e _ _ h⟩
theorem DkAt.some {w : World} {H : Hp} {a : Addr} {ks : KVs} (h : DkAt w H a ks) : H a ≠ none := by
  rcases h with h | ⟨_, h⟩ <;> (rw [h]; exact Option.some_ne_none _)
theorem KeysAt.ex {B B' : Hp} {ks : KVs} (e : Ex B B') (h : KeysAt B ks) : KeysAt B' ks := fun p hp => by
  obtain ⟨d, a, b, c⟩ := h p hp
  exact ⟨d, Tp.ex e _ _ a, b, c⟩
/-- an own dict -/
structure OwnD (w : World) (H1 B Hc : Hp) (p : Addr) (ks : KVs) : Prop where
  a : H1 p = none
  b : B p = none
  c : DkAt w Hc p ks
  d : KeysAt B ks
theorem OwnD.step {w : World} {H1 B Hc Hn : Hp} {p : Addr} {ks : KVs} (h : OwnD w H1 B Hc p ks) (c : Ex B Hc) (e : Ex Hc Hn) : OwnD w H1 (gr B Hc Hn) Hn p ks := ⟨h.a, gr_off h.b h.c.some, h.c.ex e, h.d.ex (gr_ex c)⟩
theorem fz_bs {H H1 B Hc : Hp} {p : Addr} (s : Bs H H1 B Hc) (h1 : H1 p = none) (h2 : B p = none) : Bs H H1 (fz B Hc p) Hc ∧ Ex B (fz B Hc p) := by
  have e : Ex B (fz B Hc p) := fun b o z => by
    unfold fz
    rw [if_neg (ne_of_none z h2)]
    exact z
  refine ⟨⟨s.a, s.b.trans e, fun b o z => ?_, fun b o z => ?_⟩, e⟩
  · unfold fz at z
    split at z
    · rename_i q
      rw [q]
      exact z
    · exact s.c b o z
  · unfold fz at z
    split at z
    · rename_i q
      rw [q]
      exact gr_new h1 z
    · exact s.d b o z
end Dl
set_option maxHeartbeats 4000000
namespace Dl
open PySem PySem.Spec PyProof.Rows L2 Evl RZ
theorem roomS {k : Nat} {A : Around} (r : Room k A) : A.in1.units + 8 < cLine := by rw [Around.in1_units]; have := r.un; omega
theorem roomG {k : Nat} {A : Around} (r : Room k A) : A.units + 9 < cLine := by have := r.un; omega
end Dl
namespace K50
open PySem PySem.Spec PyProof.Rows L2 Evl RZ Dl Dn
/-! ### the numbers of lots -/
def numsD (ks : List NestedKey) : List PyData := ks.map fun k => .int ((numK ks k : Nat) : Int)
def rNums : List PyData → PyData → Prop := fun ds d => ∃ xs ks, ds = [.list xs] ∧ nkAll xs = some ks ∧ (∀ k ∈ ks, k.depth ≤ 8) ∧ xs.length ≤ 1000 ∧ d = .list (numsD ks)
abbrev nNums : List Str := ["lots", "known", "lot"]
def nkD (d : PyData) : NestedKey := (nk d).getD .none
theorem nums_map : ∀ {xs : List PyData} {ks ls : List NestedKey}, nkAll xs = some ks → xs.map (fun d => PyData.int ((numK ls (nkD d) : Nat) : Int)) = ks.map fun k => .int ((numK ls k : Nat) : Int)
  | [], ks, ls, h => by
    have e : [] = ks := by simpa [nkAll] using h
    subst e
    rfl
  | e :: ds, ks, ls, h => by
    cases e1 : nk e with
    | none => simp [nkAll, e1] at h
    | some k1 =>
      cases e2 : nkAll ds with
      | none => simp [nkAll, e1, e2] at h
      | some ks2 =>
        have e3 : k1 :: ks2 = ks := by simpa [nkAll, e1, e2] using h
        subst e3
        rw [List.map_cons, List.map_cons, nums_map e2]
        have z : nkD e = k1 := by unfold nkD; rw [e1]; rfl
        rw [z]
section
variable {P : Program} {w : World} {K : PySem.W.Frag} {mg : Str → Option Value} {base : Heap}
end
end K50
set_option maxHeartbeats 4000000
namespace K50
open PySem PySem.W PySem.Spec PyProof.Rows L2 Evl RZ Dl Dn
/-! ### the roads to a place, in order -/
def toP (p : Int) : PyData → Bool
  | .tuple (_ :: .int b :: _) => decide (b = p)
  | _ => false
def inD (rs : List PyData) (p : Int) : List PyData := ascD (rs.filter (toP p))
def rIn : List PyData → PyData → Prop := fun ds d => ∃ rs p, ds = [.list rs, .int p] ∧ IntRows 4 rs ∧ rs.length ≤ 1000 ∧ d = .list (inD rs p)
abbrev nIn : List Str := ["roads", "place", "road"]
theorem four {d : PyData} {k : Nat} (h : ∃ ns : List Int, d = intsT ns ∧ ns.length = k) (hk : k = 4) : ∃ a b c e : Int, d = intsT [a, b, c, e] := by
  obtain ⟨ns, rfl, hl⟩ := h
  subst hk
  match ns, hl with
  | [a, b, c, e], _ => exact ⟨a, b, c, e, rfl⟩
theorem rows_filter {k : Nat} {ds : List PyData} {f : PyData → Bool} (h : IntRows k ds) : IntRows k (ds.filter f) := fun d hd => h d (List.mem_filter.mp hd).1
theorem asc_mem {ds : List PyData} {d : PyData} : d ∈ ascD ds ↔ d ∈ ds := List.mem_mergeSort
theorem asc_len (ds : List PyData) : (ascD ds).length = ds.length := List.length_mergeSort ds
theorem in_rows {rs : List PyData} {p : Int} (h : IntRows 4 rs) : IntRows 4 (inD rs p) := fun d hd => h d (List.mem_filter.mp (asc_mem.mp hd)).1
section
variable {P : Program} {w : World} {K : PySem.W.Frag} {mg : Str → Option Value} {base : Heap}
end
end K50
set_option maxHeartbeats 4000000
namespace Dl
open PySem PySem.Spec PyProof.Rows L2 Evl RZ Dn
/-! ### when data can be keys -/
theorem nkAll_ok {m : Nat} : ∀ {xs : List PyData}, (∀ x ∈ xs, ∃ k, nk x = some k ∧ k.depth ≤ m) → ∃ ks, nkAll xs = some ks ∧ (∀ k ∈ ks, k.depth ≤ m) ∧ NestedKey.depthAll ks ≤ m
  | [], _ => ⟨[], rfl, (fun k hk => nomatch hk), Nat.zero_le _⟩
  | x :: xs, h => by
    obtain ⟨k, h1, h2⟩ := h x List.mem_cons_self
    obtain ⟨ks, h3, h4, h5⟩ := nkAll_ok (xs := xs) fun y hy => h y (List.mem_cons_of_mem _ hy)
    refine ⟨k :: ks, by simp [nkAll, h1, h3], fun j hj => ?_, ?_⟩
    · rcases List.mem_cons.mp hj with rfl | hj
      · exact h2
      · exact h4 j hj
    · show max k.depth (NestedKey.depthAll ks) ≤ m
      omega
theorem nk_tup {m : Nat} {xs : List PyData} (h : ∀ x ∈ xs, ∃ k, nk x = some k ∧ k.depth ≤ m) : ∃ k, nk (.tuple xs) = some k ∧ k.depth ≤ m + 1 := by
  obtain ⟨ks, h1, h2, h3⟩ := nkAll_ok h
  exact ⟨.tup ks, by simp [nk, h1], Nat.succ_le_succ h3⟩
theorem nk_int (i : Int) (m : Nat) : ∃ k, nk (.int i) = some k ∧ k.depth ≤ m := ⟨.num i, rfl, Nat.zero_le _⟩
theorem nk_ints (ns : List Int) (m : Nat) : ∃ k, nk (.tuple (ns.map PyData.int)) = some k ∧ k.depth ≤ m + 1 := nk_tup fun x hx => by
  obtain ⟨i, _, rfl⟩ := List.mem_map.mp hx
  exact nk_int i m
theorem g_four {i j k l : Nat} {K : PySem.W.Frag} {x : V} {a b c d : PyData} {σ : L2.St} {B Hx : Hp} {kk : L2.St → Hp → Prop} (hx : Tp B x (.tuple [a, b, c, d])) (e : Ex B Hx)
    (h : ∀ v w y z, Tp B v a → Tp B w b → Tp B y c → Tp B z d → kk ((((σ.set i (some v)).set j (some w)).set k (some y)).set l (some z)) Hx) :
    gTup K 4 (gCons (gName i) (gCons (gName j) (gCons (gName k) (gCons (gName l) gNil)))) x σ Hx kk := by
  cases hx with
  | tup ha hs =>
    cases hs with
    | cons h1 hs =>
      cases hs with
      | cons h2 hs =>
        cases hs with
        | cons h3 hs =>
          cases hs with
          | cons h4 hs =>
            cases hs
            exact ⟨_, _, rfl, st_of (e _ _ ha), rfl, _, _, rfl, _, _, rfl, _, _, rfl, _, _, rfl, rfl, h _ _ _ _ h1 h2 h3 h4⟩
end Dl
namespace K50
open PySem PySem.W PySem.Spec PyProof.Rows L2 Evl RZ Dl Dn
/-! ### the classes of a net -/
def numsI (xs : List PyData) : List Int := match nkAll xs with
  | some ks => ks.map fun k => ((numK ks k : Nat) : Int)
  | none => []
theorem numsI_of {xs : List PyData} {ks : List NestedKey} (h : nkAll xs = some ks) : (numsI xs).map PyData.int = numsD ks := by
  unfold numsI numsD
  rw [h, List.map_map]
  rfl
theorem numsI_len {xs : List PyData} {ks : List NestedKey} (h : nkAll xs = some ks) : (numsI xs).length = xs.length := by
  unfold numsI
  rw [h, List.length_map, nkAll_len h]
/-- what is heard by a road, by the classes c -/
def heardD (c : List Int) : PyData → PyData
  | .tuple [.int a, _, .int o, .int t] => intsT [t, o, c.getD a.toNat 0]
  | d => d
def lotD (c : List Int) (rs : List PyData) (i : Nat) : PyData := .tuple [.int (c.getD i 0), .tuple (ascD ((inD rs (i : Int)).map (heardD c)))]
def lotsD (c : List Int) (rs : List PyData) : List PyData := (List.range c.length).map (lotD c rs)
def stepC (rs : List PyData) (c : List Int) : List Int := numsI (lotsD c rs)
def clsC (rs : List PyData) (ss : List PyData) : Nat → List Int
  | 0 => numsI ss
  | n + 1 => stepC rs (clsC rs ss n)
/-- roads among so many places -/
def RoadsIn (n : Nat) (rs : List PyData) : Prop := ∀ r ∈ rs, ∃ a b o t : Int, r = intsT [a, b, o, t] ∧ 0 ≤ a ∧ a < n
theorem roads_rows {n : Nat} {rs : List PyData} (h : RoadsIn n rs) : IntRows 4 rs := fun r hr => by
  obtain ⟨a, b, o, t, e, _⟩ := h r hr
  exact ⟨_, e, rfl⟩
theorem in_roads {n : Nat} {rs : List PyData} {p : Int} (h : RoadsIn n rs) : RoadsIn n (inD rs p) := fun d hd => h d (List.mem_filter.mp (asc_mem.mp hd)).1
theorem in_len (rs : List PyData) (p : Int) : (inD rs p).length ≤ rs.length := by
  unfold inD
  rw [asc_len]
  exact List.length_filter_le _ _
theorem heard_rows {n : Nat} {rs : List PyData} {c : List Int} (h : RoadsIn n rs) : IntRows 3 (rs.map (heardD c)) := fun d hd => by
  obtain ⟨r, hr, rfl⟩ := List.mem_map.mp hd
  obtain ⟨a, b, o, t, rfl, _⟩ := h r hr
  exact ⟨_, rfl, rfl⟩
theorem lots_nk {n : Nat} {rs : List PyData} {c : List Int} (h : RoadsIn n rs) : ∃ ks, nkAll (lotsD c rs) = some ks ∧ ∀ k ∈ ks, k.depth ≤ 8 := by
  obtain ⟨ks, h1, h2, _⟩ := nkAll_ok (m := 8) (xs := lotsD c rs) fun x hx => by
    obtain ⟨i, _, rfl⟩ := List.mem_map.mp hx
    unfold lotD
    refine nk_tup (m := 7) fun y hy => ?_
    simp only [List.mem_cons, List.not_mem_nil, or_false] at hy
    rcases hy with rfl | rfl
    · exact nk_int _ _
    · refine nk_tup (m := 6) fun z hz => ?_
      obtain ⟨ns, rfl, _⟩ := heard_rows (in_roads h) z (asc_mem.mp hz)
      exact nk_ints ns 5
  exact ⟨ks, h1, h2⟩
theorem getD_at {c : List Int} {i : Nat} (h : i < c.length) : c[i]? = some (c.getD i 0) := by
  rw [List.getD_eq_getElem?_getD, List.getElem?_eq_getElem h]
  rfl
theorem lots_len (c : List Int) (rs : List PyData) : (lotsD c rs).length = c.length := by simp [lotsD]
theorem step_len {n : Nat} {rs : List PyData} {c : List Int} (h : RoadsIn n rs) : (stepC rs c).length = c.length := by
  obtain ⟨ks, h1, _⟩ := lots_nk (c := c) h
  unfold stepC
  rw [numsI_len h1, lots_len]
theorem cls_len {n : Nat} {rs ss : List PyData} {ks : List NestedKey} (h : RoadsIn n rs) (hs : nkAll ss = some ks) : ∀ m, (clsC rs ss m).length = ss.length
  | 0 => numsI_len hs
  | m + 1 => by
    show (stepC rs (clsC rs ss m)).length = _
    rw [step_len h, cls_len h hs m]
def rClasses : List PyData → PyData → Prop := fun ds d => ∃ ss rs n ks, ds = [.list ss, .list rs, .int n] ∧ nkAll ss = some ks ∧ (∀ k ∈ ks, k.depth ≤ 8) ∧ ss.length ≤ 1000 ∧ RoadsIn ss.length rs ∧ rs.length ≤ 1000 ∧ 0 ≤ n ∧ n ≤ 1000 ∧ d = .list ((clsC rs ss n.toNat).map PyData.int)
abbrev nCls : List Str := ["signs", "roads", "rounds", "found", "turn", "lots", "place", "number", "heard", "one", "other", "out", "into"]
section
variable {P : Program} {w : World} {K : PySem.W.Frag} {mg : Str → Option Value} {base : Heap}
end
end K50
set_option maxHeartbeats 4000000
namespace K50
open PySem PySem.W PySem.Spec PyProof.Rows L2 Evl RZ Dl Dn
/-! ### the net of a ring -/
def backT : PyData → PyData
  | .tuple [a, b, c, d] => .tuple [b, a, d, c]
  | d => d
def rBack : List PyData → PyData → Prop := fun ds z => ∃ a b c d, ds = [.tuple [a, b, c, d]] ∧ z = .tuple [b, a, d, c]
def nxt (n : Nat) (i : Nat) : Nat := (i + 1) % n
def roadR (es : List Int) (i : Nat) : PyData := intsT [(i : Int), ((nxt es.length i : Nat) : Int), es.getD i 0, 1 - es.getD (nxt es.length i) 0]
def netPair (es : List Int) (i : Nat) : List PyData := [roadR es i, backT (roadR es i)]
def netR (es : List Int) : List PyData := (List.range es.length).flatMap (netPair es)
def rNet : List PyData → PyData → Prop := fun ds d => ∃ ss es, ds = [.list ss, .list (es.map PyData.int), .int (ss.length : Int)] ∧ es.length = ss.length ∧ ss.length ≤ 400 ∧ d = .tuple [.list ss, .list (netR es)]
abbrev nNet : List Str := ["signs", "senses", "last", "roads", "many", "place", "far", "road"]
theorem fmod_nat {a n : Nat} (h : 0 < n) : ((a : Int)).fmod (n : Int) = ((a % n : Nat) : Int) := by
  rw [Int.fmod_eq_emod_of_nonneg _ (by omega)]
  rfl
section
variable {P : Program} {w : World} {K : PySem.W.Frag} {mg : Str → Option Value} {base : Heap}
end
end K50
set_option maxHeartbeats 4000000
namespace Dl
open PySem PySem.Spec PyProof.Rows L2 Evl RZ
/-! ### the greatest of whole numbers -/
def maxI : List Int → Int
  | [] => 0
  | [x] => x
  | x :: y :: r => max x (maxI (y :: r))
theorem maxI_is : ∀ (ns : List Int), ns ≠ [] → maxI ns ∈ ns ∧ ∀ y ∈ ns, y ≤ maxI ns
  | [], h => absurd rfl h
  | [x], _ => ⟨List.mem_singleton.mpr rfl, fun y hy => by rw [List.mem_singleton.mp hy]; exact Int.le_refl _⟩
  | x :: y :: r, _ => by
    obtain ⟨h1, h2⟩ := maxI_is (y :: r) (List.cons_ne_nil _ _)
    show max x (maxI (y :: r)) ∈ _ ∧ _
    refine ⟨?_, fun z hz => ?_⟩
    · rcases Int.le_total x (maxI (y :: r)) with h | h
      · rw [Int.max_eq_right h]
        exact List.mem_cons_of_mem _ h1
      · rw [Int.max_eq_left h]
        exact List.mem_cons_self
    · show z ≤ max x (maxI (y :: r))
      rcases List.mem_cons.mp hz with rfl | hz
      · exact Int.le_max_left _ _
      · exact Int.le_trans (h2 z hz) (Int.le_max_right _ _)
theorem maxI_eq {ns : List Int} {m : Int} (h : m ∈ ns) (h2 : ∀ y ∈ ns, y ≤ m) : maxI ns = m := by
  have hne : ns ≠ [] := fun e => by rw [e] at h; exact absurd h List.not_mem_nil
  obtain ⟨a, b⟩ := maxI_is ns hne
  exact Int.le_antisymm (h2 _ a) (b _ h)
theorem rc_max {K : PySem.W.Frag} {ns : List Int} (hne : ns ≠ []) : RCD (rMax K) [.list (ns.map PyData.int)] (.int (maxI ns)) := fun H H1 vs e h Q q => by
  cases h with
  | cons a b =>
    cases b
    cases a with
    | lst ha hs =>
      have z := ints_of hs
      subst z
      exact ⟨_, ns, rfl, sq_of (e _ _ ha), List.length_pos_iff.mpr hne, fun m h1 h2 => by rw [← maxI_eq h1 h2]; exact q _ H1 (Ex.refl H1) (.int _)⟩
end Dl
namespace K50
open PySem PySem.W PySem.Spec PyProof.Rows L2 Evl RZ Dl Dn
/-! ### the classes for ever -/
def Stable (rs ss : List PyData) (m : Nat) : Prop := maxI (clsC rs ss (m + 1)) = maxI (clsC rs ss m)
def rStable : List PyData → PyData → Prop := fun ds d => ∃ ss rs ks m, ds = [.tuple [.list ss, .list rs]] ∧ nkAll ss = some ks ∧ (∀ k ∈ ks, k.depth ≤ 8) ∧ ss ≠ [] ∧ ss.length ≤ 1000 ∧ RoadsIn ss.length rs ∧ rs.length ≤ 1000 ∧ m < 1000 ∧ Stable rs ss m ∧ (∀ j < m, ¬ Stable rs ss j) ∧
  d = .tuple [.list ((clsC rs ss m).map PyData.int), .int (m : Int)]
abbrev nStable : List Str := ["net", "signs", "roads", "found", "rounds", "later"]
section
variable {P : Program} {w : World} {K : PySem.W.Frag} {mg : Str → Option Value} {base : Heap}
end
end K50
set_option maxHeartbeats 4000000
namespace K50
open PySem PySem.W PySem.Spec PyProof.Rows L2 Evl RZ Dl Dn
theorem zip_mem : ∀ {as bs : List PyData} {d : PyData}, d ∈ zipD as bs → ∃ a b, d = .tuple [a, b] ∧ a ∈ as ∧ b ∈ bs
  | [], bs, d, h => by cases bs <;> exact absurd h List.not_mem_nil
  | a :: as, [], d, h => absurd h List.not_mem_nil
  | a :: as, b :: bs, d, h => by
    rcases List.mem_cons.mp h with h | h
    · exact ⟨a, b, h, List.mem_cons_self, List.mem_cons_self⟩
    · obtain ⟨a', b', h1, h2, h3⟩ := zip_mem h
      exact ⟨a', b', h1, List.mem_cons_of_mem _ h2, List.mem_cons_of_mem _ h3⟩
/-! ### whether doors lead on -/
def aheadB (es ds : List Int) : List Bool := (ds.zip es).map fun p => decide (p.1 = p.2)
def rAhead : List PyData → PyData → Prop := fun xs d => ∃ es ds : List Int, xs = [.list (es.map PyData.int), .list (ds.map PyData.int)] ∧ es.length = ds.length ∧ es.length ≤ 1000 ∧ d = .list ((aheadB es ds).map PyData.bool)
abbrev nAhead : List Str := ["senses", "doors", "door", "sense"]
def eqP : PyData → PyData
  | .tuple [.int a, .int b] => .bool (decide (a = b))
  | d => d
theorem ahead_map : ∀ (ds es : List Int), (zipD (ds.map PyData.int) (es.map PyData.int)).map eqP = (aheadB es ds).map PyData.bool
  | [], es => by cases es <;> rfl
  | d :: ds, [] => rfl
  | d :: ds, e :: es => by
    show eqP (.tuple [.int d, .int e]) :: (zipD (ds.map PyData.int) (es.map PyData.int)).map eqP = _
    rw [ahead_map ds es]
    rfl
section
variable {P : Program} {w : World} {K : PySem.W.Frag} {mg : Str → Option Value} {base : Heap}
end
/-! ### the first pair that bars -/
def bars (es cs : List Int) (a b : Nat) : Prop := cs.getD a 0 = cs.getD b 0 ∧ es.getD a 0 ≠ es.getD b 0
instance (es cs : List Int) (a b : Nat) : Decidable (bars es cs a b) := inferInstanceAs (Decidable (_ ∧ _))
/-- what is due: none, or the first pair -/
def Due (es cs : List Int) (d : PyData) : Prop := (d = .none ∧ ∀ a b, a < b → b < es.length → ¬ bars es cs a b) ∨
  ∃ a b : Nat, d = .tuple [.int a, .int b] ∧ a < b ∧ b < es.length ∧ bars es cs a b ∧ ∀ a' b', a' < b' → b' < es.length → bars es cs a' b' → a < a' ∨ (a = a' ∧ b ≤ b')
theorem due_end {es cs : List Int} {d : PyData} (h : Due es cs d) (hn : ∀ a b, a < b → b < es.length → ¬ bars es cs a b) : d = .none := by
  rcases h with ⟨h, _⟩ | ⟨a, b, _, h1, h2, h3, _⟩
  · exact h
  · exact absurd h3 (hn a b h1 h2)
theorem due_at {es cs : List Int} {d : PyData} (h : Due es cs d) {i j : Nat} (hij : i < j) (hj : j < es.length) (hb : bars es cs i j) (hn : ∀ a b, a < b → b < es.length → (a < i ∨ (a = i ∧ b < j)) → ¬ bars es cs a b) : d = .tuple [.int i, .int j] := by
  rcases h with ⟨_, h⟩ | ⟨a, b, e, h1, h2, h3, h4⟩
  · exact absurd hb (h i j hij hj)
  · have z := h4 i j hij hj hb
    have y : ¬ (a < i ∨ (a = i ∧ b < j)) := fun q => hn a b h1 h2 q h3
    have ea : a = i := by omega
    have eb : b = j := by omega
    subst ea eb
    exact e
def rDue : List PyData → PyData → Prop := fun xs d => ∃ es cs : List Int, xs = [.list (es.map PyData.int), .list (cs.map PyData.int)] ∧ es.length = cs.length ∧ es.length ≤ 1000 ∧ Due es cs d
abbrev nDue : List Str := ["senses", "classes", "one", "other"]
theorem rng_int {lo : Int} {n i : Nat} {d : PyData} (h : (rngD lo n)[i]? = some d) : i < n ∧ d = .int (lo + i) := by
  have h1 := (List.getElem?_eq_some_iff.mp h).1
  have h2 : i < n := by simpa [rngD] using h1
  rw [rng_get h2] at h
  exact ⟨h2, (Option.some.inj h).symm⟩
section
variable {P : Program} {w : World} {K : PySem.W.Frag} {mg : Str → Option Value} {base : Heap}
end
end K50
set_option maxHeartbeats 4000000
namespace K50
open PySem PySem.W PySem.Spec PyProof.Rows L2 Evl RZ Dl Dn
/-! ### the axes by the law's own -/
def rLAxes : List PyData → PyData → Prop := fun xs d => ∃ ps : List (PyData × Int), xs = [.list (ps.map (·.1)), .list (ps.map fun p => .int p.2)] ∧ okP ps ∧ d = .list ((axes ps).map .int)
abbrev nLAxes : List Str := ["signs", "senses", "found", "many", "axis", "far", "alike", "place"]
def farI (n : Nat) (a i : Int) : Int := (a - i).fmod n
theorem below_get {n i : Nat} (h : i < n) : (below (n : Int))[i]? = some (i : Int) := by
  unfold below
  rw [List.getElem?_map, List.getElem?_range (by omega)]
  rfl
theorem at2_fst {ps : List (PyData × Int)} {i : Int} (h0 : 0 ≤ i) (h1 : i < ps.length) : atI (ps.map (·.1)) i = some (at2 ps i).1 := atI_int h0 (by rw [List.getElem?_map, at2_get h0 h1]; rfl)
theorem at2_snd {ps : List (PyData × Int)} {i : Int} (h0 : 0 ≤ i) (h1 : i < ps.length) : atI (ps.map fun p => PyData.int p.2) i = some (.int (at2 ps i).2) := atI_int h0 (by rw [List.getElem?_map, at2_get h0 h1]; rfl)
section
variable {P : Program} {w : World} {K : PySem.W.Frag} {mg : Str → Option Value} {base : Heap}
end
end K50
set_option maxHeartbeats 4000000
namespace Dl
open PySem PySem.Spec PyProof.Rows L2 Evl RZ
def iOr (w1 w2 : TI) : TI := fun σ H R => w1 σ H R ∨ w2 σ H R
theorem pi_or {X : Cx} {tg iter : Expr} {w1 w2 : TI} (h1 : PI X tg iter w1) (h2 : PI X tg iter w2) : PI X tg iter (iOr w1 w2) := ⟨fun pins s σ H R I h => h.elim (h1.run pins s σ H R I) (h2.run pins s σ H R I)⟩
theorem ei_or1 {σ : L2.St} {H : Hp} {w1 w2 : TI} {ds : List PyData} (h : EvI w1 σ H ds) : EvI (iOr w1 w2) σ H ds := fun H1 e R q => .inl (h H1 e R q)
theorem ei_or2 {σ : L2.St} {H : Hp} {w1 w2 : TI} {ds : List PyData} (h : EvI w2 σ H ds) : EvI (iOr w1 w2) σ H ds := fun H1 e R q => .inr (h H1 e R q)
/-- a list or a tuple of these -/
def Row (x : PyData) (xs : List PyData) : Prop := x = .list xs ∨ x = .tuple xs
theorem ei_row {K : PySem.W.Frag} {σ : L2.St} {H : Hp} {te : TE} {x : PyData} {xs : List PyData} (r : Row x xs) (h : EvD te σ H x) : EvI (iOr (iList K te) (iTup K te)) σ H xs := by
  rcases r with rfl | rfl
  · exact ei_or1 (ei_list h)
  · exact ei_or2 (ei_tup h)
theorem rc_lenR {K : PySem.W.Frag} {x : PyData} {xs : List PyData} (r : Row x xs) : RCD (Dl.rLen K) [x] (.int xs.length) := by
  rcases r with rfl | rfl
  · exact rc_lenL
  · exact rc_lenT
section
variable {K : PySem.W.Frag} {σ : L2.St} {B : Hp} {te : TE}
/-- a list's truth -/
def tTru (K : PySem.W.Frag) (te : TE) : TT := fun σ H Q => te σ H fun x H' => ∃ k, TruV K x H' k ∧ Q k H'
theorem et_tru {ds : List PyData} (h : EvD te σ B (.list ds)) : EvT (tTru K te) σ B (!ds.isEmpty) := fun H1 e Q q => h H1 e _ fun v H2 e2 hv => by
  cases hv with
  | @lst a vs _ ha hs =>
    refine ⟨_, .inl ⟨_, sq_of (gr_sub e e2 _ _ ha), rfl⟩, ?_⟩
    have z : (!ds.isEmpty) = !vs.isEmpty := by
      cases hs with
      | nil => rfl
      | cons _ _ => rfl
    rw [← z]
    exact q H2 e2
end
theorem pt_tru {X : Cx} {a : Expr} {ta : TE} (ha : PE X a ta) (he : ∀ whole, isTrue a X.env whole = (do let v ← whole; standAt a.pos; holding [v] (truthy v))) : PT X a (tTru X.K ta) := pt_truth ha he
end Dl
namespace K50
open PySem PySem.W PySem.Spec PyProof.Rows L2 Evl RZ Dl Dn
theorem row_isR {x : PyData} {xs : List PyData} (r : Row x xs) : isR x = true := by rcases r with rfl | rfl <;> rfl
/-! ### signs -/
def readZ (x : PyData) : PyData × PyData := (readW x).getD (.none, .none)
def readP (x : PyData) : PyData := .tuple [(readZ x).1, (readZ x).2]
theorem readZ_of {x : PyData} (h : (readW x).isSome = true) : readW x = some ((readZ x).1, (readZ x).2) := by
  unfold readZ
  cases q : readW x with
  | none => rw [q] at h; cases h
  | some p => rfl
def Words (xs : List PyData) : Prop := xs ≠ [] ∧ xs.length ≤ 400 ∧ ∀ x ∈ xs, (readW x).isSome = true
def rRS : List PyData → PyData → Prop := fun ds d => ∃ x xs, ds = [x] ∧ Row x xs ∧ Words xs ∧ d = .list (xs.map readP)
abbrev nRS : List Str := ["signs", "read"]
theorem scRS : FnScope nRS ["signs"] (defScope sReadSigns) := ⟨rfl, rfl, rfl, by decide +kernel, rfl, by decide +kernel, by decide +kernel⟩
abbrev nRA : List Str := ["signs", "read", "at", "pair", "sign"]
theorem scRA : FnScope nRA ["signs"] (defScope sReadAny) := ⟨rfl, rfl, rfl, by decide +kernel, rfl, by decide +kernel, by decide +kernel⟩
def rSW : List PyData → PyData → Prop := fun ds d => ∃ x xs, ds = [x] ∧ Row x xs ∧ Words xs ∧ d = .list (xs.map fun x => (readZ x).1)
abbrev nSW : List Str := ["signs", "word", "_"]
section
variable {P : Program} {w : World} {K : PySem.W.Frag} {mg : Str → Option Value} {base : Heap}
theorem ok_rany {f : Addr} {fd : FuncData} (F : Fun K "read_any_signs" "read_any_signs" sReadAny f fd) (B : Bl mg) (R : CallF P w K mg base 1 "is_row" ["thing"] (spP 1 rRow)) (W : CallF P w K mg base 2 "read_word" ["thing"] (spP 1 rRead)) : FnOk P w K mg base CX0 3 f fd ["signs"] (spP 1 rRS) := by
  refine F.ok scRA (fun vs H Q E h => spP_len h) (fun cdv A outer s H vs Q E hr h => ?_)
  obtain ⟨fR, dR, oR, gR, kR, bR⟩ := R
  obtain ⟨fW, dW, oW, gW, kW, bW⟩ := W
  refine ⟨_, pss_cons (ps_if (pt_not (pt_val (pe_call oR (hr.mono (by decide)) (by rfl) gR kR bR .nil pass0 (pa_cons (pv 0) pa_nil)))) pss_never pss_nil)
    (pss_cons (ps_setLc (i := 1) (own := [("sign", 4)]) (g := gName 4) (tt := tYes) (te := tCall (spP 1 rRead) [] E0 (tCons (tVar 4) tNil)) rfl scRA.nd rfl rfl rfl (pi_or (pi_list (pv 0)) (pi_tup (pv 0)))
        (blkOk_by (own := [("sign", 4)]) (N := nRA) (sc := defScope sReadAny) (by decide +kernel)) (fun _ _ _ _ _ => pg_name (i := 4) scRA.nd rfl (Or.inl rfl)) (fun _ _ _ _ _ => pts_nil)
        (fun _ _ _ _ _ => pe_call oW hr (by rfl) gW kW bW .nil pass0 (pa_cons (pv 4) pa_nil)))
    (pss_cons (ps_for PassesOwn.never rfl (pi_enum (by rfl) B.enumerate (pa_cons (pv 1) pa_nil)) (pg_tup rfl (pgs_cons (pg_name (i := 2) scRA.nd rfl (.inl rfl)) (pgs_cons (pg_name (i := 3) scRA.nd rfl (.inl rfl)) pgs_nil)))
      (pss_one (ps_if (pt_cmpR op_isN (pv 3) pe_non (by rfl)) pss_never pss_nil)))
    (pss_one (ps_ret (pv 1))))), ?_⟩
  obtain ⟨Bb, ds, d, e, hv, hn, hf, q⟩ := h
  obtain ⟨x, xs, rfl, hrow, ⟨hne, hl, hw⟩, rfl⟩ := hf
  obtain ⟨v, rfl, hx⟩ := tp1 hv
  have s0 := Bs.start e
  have hpos : xs.length ≠ 0 := fun z => hne (List.length_eq_zero_iff.mp z)
  refine q_whenD s0.c (b := !isR x) (et_not (et_BD (ed_call (ds := [x]) (es_cons (ed_var rfl hx) es_nil) rfl ⟨x, rfl, rfl⟩))) (fun hb H1 e1 => ?_) (fun hb H1 e1 => ?_)
  · rw [row_isR hrow] at hb
    cases hb
  · have b1 := s0.keep e1
    refine q_asgD b1.c (d := .list (xs.map readP)) (ed_is (ed_lc (fun _ => true) readP (ei_row hrow (ed_var rfl hx)) (by omega) fun d x' H' hd e' hxx => ⟨_, fun Hx k _ hk => hk, rfl, et_yes, fun _ => ed_call (ds := [d]) (es_cons (ed_var rfl hxx) es_nil) rfl ⟨d, _, _, rfl, readZ_of (hw d hd), rfl⟩⟩) (by rw [Dl.filter_tt])) fun vr H2 e2 tr => ?_
    have b2 := b1.step e2
    refine s_forD b2.c (ei_enum (es_cons (ed_var rfl tr) es_nil))
      (fun B0 j σ' H' => ∃ B' x2 x3, Bs Bb H B' H' ∧ Ex B0 B' ∧ Tp B' vr (.list (xs.map readP)) ∧ σ' = [some v, some vr, x2, x3, none])
      (fun Hn en => ⟨_, none, none, b2.step en, Ex.refl _, Tp.ex (gr_up b2.c) _ _ tr, rfl⟩) (fun B0 j σ' H' ⟨B', _, _, c1, c2, _⟩ => c2.trans c1.c) ?_ ?_
    · rintro B0 j d5 x5 σ5 H5 H6 hd5 ⟨B', y2, y3, c1, c2, tr2, rfl⟩ e6 hx6
      have c3 := c1.step e6
      have hj : j < xs.length := by
        have h1 := (List.getElem?_eq_some_iff.mp hd5).1
        rw [enum_len, List.length_map] at h1
        exact h1
      have hd6 : d5 = .tuple [.int (j : Int), readP xs[j]] := by
        have h1 := enum_get 0 j (xs.map readP) (readP xs[j]) (by rw [List.getElem?_map, List.getElem?_eq_getElem hj]; rfl)
        rw [hd5] at h1
        rw [Nat.zero_add] at h1
        exact Option.some.inj h1
      subst hd6
      have hx7 := Tp.ex (gr_mono (Hc := H5) (Hn := H6) c2) _ _ hx6
      refine g_pair hx7 c3.c fun va vb ta tb => ?_
      refine s_ifD c3.c (b := false) (et_D (ed_op (ed_var (i := 3) rfl tb) ed_non (rd_isN _))) (fun hb => by cases hb) (fun _ H7 e7 => ?_)
      exact ⟨_, _, _, c3.step e7, (c2.trans (gr_up c1.c)).trans (gr_up c3.c), Tp.ex ((gr_up c1.c).trans (gr_up c3.c)) _ _ tr2, rfl⟩
    · rintro B0 σ' H' ⟨B', x2, x3, c1, c2, tr2, rfl⟩
      exact s_retD c1.c (ed_var (i := 1) rfl tr2) fun v2 H2 e2 h2 => q v2 H2 (c1.a.trans e2) (Tp.ex (c1.step e2).d _ _ h2)
theorem ok_rsigns {f : Addr} {fd : FuncData} (F : Fun K "read_signs" "read_signs" sReadSigns f fd) (A : CallF P w K mg base 3 "read_any_signs" ["signs"] (spP 1 rRS)) : FnOk P w K mg base CX0 4 f fd ["signs"] (spP 1 rRS) := by
  refine F.ok scRS (fun vs H Q E h => spP_len h) (fun cdv A' outer s H vs Q E hr h => ?_)
  obtain ⟨fA, dA, oA, gA, kA, bA⟩ := A
  refine ⟨_, pss_cons (ps_set (i := 1) scRS.nd rfl (.inl rfl) (pe_call oA hr (by rfl) gA kA bA .nil pass0 (pa_cons (pv 0) pa_nil)))
    (pss_cons (ps_if (pt_not (pt_tru (pv 1) (fun _ => rfl))) pss_never pss_nil)
    (pss_one (ps_ret (pv 1)))), ?_⟩
  obtain ⟨Bb, ds, d, e, hv, hn, hf, q⟩ := h
  obtain ⟨x, xs, rfl, hrow, ⟨hne, hl, hw⟩, rfl⟩ := hf
  obtain ⟨v, rfl, hx⟩ := tp1 hv
  have s0 := Bs.start e
  refine q_asgD s0.c (d := .list (xs.map readP)) (ed_call (ds := [x]) (es_cons (ed_var rfl hx) es_nil) rfl ⟨x, xs, rfl, hrow, ⟨hne, hl, hw⟩, rfl⟩) fun vr H2 e2 tr => ?_
  have b2 := s0.step e2
  refine q_whenD b2.c (b := !(!(xs.map readP).isEmpty)) (et_not (et_tru (ed_var (i := 1) rfl tr))) (fun hb H3 e3 => ?_) (fun hb H3 e3 => ?_)
  · cases xs with
    | nil => exact absurd rfl hne
    | cons _ _ => cases hb
  · have b3 := b2.keep e3
    exact s_retD b3.c (ed_var (i := 1) rfl tr) fun v2 H4 e4 h4 => q v2 H4 (b3.a.trans e4) (Tp.ex (b3.step e4).d _ _ h4)
end
end K50
set_option maxHeartbeats 4000000
namespace Dm
open PySem PySem.Spec PyProof.Rows L2 Evl RZ Dl
/-! ### the data layer where some objects change by themselves: those at M (a spring of draws, a code object's table); J n: how they stand, n being spent -/
structure Md where
  M : List Addr
  J : Nat → Hp → Prop
  dom : ∀ n H, J n H → ∀ b ∈ M, H b ≠ none
  keep : ∀ n H H', Ex H H' → J n H → J n H'
  up : ∀ m n H, m ≤ n → J m H → J n H
  set : ∀ n H p o, p ∉ M → (H p = none ∨ ∃ xs, H p = some (.lst xs)) → J n H → J n (upd H p o)
def Cl (D : Md) (B : Hp) : Prop := ∀ b ∈ D.M, B b = none
def ExM (D : Md) (H H' : Hp) : Prop := ∀ b o, b ∉ D.M → H b = some o → H' b = some o
section
variable {D : Md} {H H' B B' H1 H2 H3 H4 : Hp}
theorem ExM.refl (H : Hp) : ExM D H H := fun _ _ _ h => h
theorem ExM.of (e : Ex H H') : ExM D H H' := fun b o _ h => e b o h
theorem ExM.trans (a : ExM D H1 H2) (b : ExM D H2 H3) : ExM D H1 H3 := fun c o n h => b c o n (a c o n h)
theorem Cl.off (c : Cl D B) {b : Addr} {o : HO} (h : B b = some o) : b ∉ D.M := fun m => by rw [c b m] at h; cases h
theorem ex_M (c : Cl D B) (e : Ex B H1) (m : ExM D H1 H2) : Ex B H2 := fun b o h => m b o (c.off h) (e b o h)
theorem off_M {n : Nat} (j : D.J n H1) {b : Addr} (h : H1 b = none) : b ∉ D.M := fun m => D.dom n H1 j b m h
theorem back_M {n : Nat} (j : D.J n H2) (m : ExM D H1 H2) {b : Addr} (h : H2 b = none) : H1 b = none := by
  cases q : H1 b with
  | none => rfl
  | some o => rw [m b o (off_M j h) q] at h; cases h
theorem cl_gr {n : Nat} (c : Cl D B) (j : D.J n H1) : Cl D (gr B H1 H2) := fun b hb => by
  unfold gr
  cases q : H1 b with
  | none => exact absurd q (D.dom n H1 j b hb)
  | some u => exact c b hb
theorem gr_subM (c : Cl D B) (e : Ex B H1) (m : ExM D H1 H2) : Ex (gr B H1 H2) H2 := fun b o h => by
  unfold gr at h
  cases q : H1 b with
  | none => rw [q] at h; exact h
  | some u =>
    rw [q] at h
    exact m b o (c.off h) (e b o h)
theorem gr_lM {n : Nat} (j : D.J n H1) (m : ExM D H2 H3) : Ex (gr B H1 H2) (gr B H1 H3) := fun b o h => by
  unfold gr at h ⊢
  cases q : H1 b with
  | none => rw [q] at h; exact m b o (off_M j q) h
  | some u => rw [q] at h; exact h
theorem gr_rM {n : Nat} (j : D.J n H2) (e : Ex B H1) (m : ExM D H1 H2) : Ex (gr B H2 H3) (gr B H1 H3) := fun b o h => by
  unfold gr at h ⊢
  cases q : H1 b with
  | none =>
    cases q2 : H2 b with
    | none => rw [q2] at h; exact h
    | some u =>
      rw [q2] at h
      have z := e b o h
      rw [q] at z
      cases z
  | some u =>
    cases q2 : H2 b with
    | none =>
      have z := back_M j m q2
      rw [q] at z
      cases z
    | some w =>
      rw [q2] at h
      exact h
theorem gr_grM {n k : Nat} (j1 : D.J n H1) (j : D.J k H3) (m : ExM D H1 H3) (m4 : ExM D H3 H4) : Ex (gr (gr B H1 H3) H3 H4) (gr B H1 H4) := fun b o h => by
  unfold gr at h ⊢
  cases p : H1 b with
  | none =>
    cases p3 : H3 b with
    | none => rw [p3] at h; exact h
    | some s =>
      rw [p3, p] at h
      exact m4 b o (off_M j1 p) (p3.trans h)
  | some s =>
    cases p3 : H3 b with
    | none =>
      have z := back_M j m p3
      rw [p] at z
      cases z
    | some w =>
      rw [p3, p] at h
      exact h
end
/-- an expression whose value is some data with R; k is spent -/
def EvM (D : Md) (te : TE) (σ : L2.St) (B : Hp) (R : PyData → Prop) (k : Nat) : Prop := ∀ n H1, Ex B H1 → D.J n H1 → n + k ≤ 100000 → ∀ Q : VK, (∀ v H2 d, R d → ExM D H1 H2 → D.J (n + k) H2 → Tp (gr B H1 H2) v d → Q v H2) → te σ H1 Q
def EvsM (D : Md) (ta : TA) (σ : L2.St) (B : Hp) (R : List PyData → Prop) (k : Nat) : Prop := ∀ n H1, Ex B H1 → D.J n H1 → n + k ≤ 100000 → ∀ Q : List V → Hp → Prop, (∀ vs H2 ds, R ds → ExM D H1 H2 → D.J (n + k) H2 → TpAll (gr B H1 H2) vs ds → Q vs H2) → ta σ H1 Q
section
variable {D : Md} {K : PySem.W.Frag} {σ : L2.St} {H B B' : Hp} {ta tb te tx : TE} {d : PyData} {R Rx Ry Rz : PyData → Prop} {Rs : List PyData → Prop} {r : R2} {k k1 k2 : Nat}
theorem em_of (h : EvD te σ B d) : EvM D te σ B (· = d) 0 := fun n H1 e j _ Q q => h H1 e Q fun v H2 e2 t => q v H2 d rfl (ExM.of e2) (D.keep _ _ _ e2 j) t
theorem em_is (h : EvM D te σ B Rx k) (e : ∀ d, Rx d → R d) : EvM D te σ B R k := fun n H1 a j hk Q q => h n H1 a j hk Q fun v H2 d rd => q v H2 d (e d rd)
theorem em_up (h : EvM D te σ B R k) (l : k ≤ k1) : EvM D te σ B R k1 := fun n H1 e j hk Q q => h n H1 e j (by omega) Q fun v H2 d rd m j2 t => q v H2 d rd m (D.up _ _ _ (by omega) j2) t
theorem esm_up {ta : TA} (h : EvsM D ta σ B Rs k) (l : k ≤ k1) : EvsM D ta σ B Rs k1 := fun n H1 e j hk Q q => h n H1 e j (by omega) Q fun v H2 d rd m j2 t => q v H2 d rd m (D.up _ _ _ (by omega) j2) t
theorem em_op (c : Cl D B) (ha : EvM D ta σ B Rx k1) (hb : EvM D tb σ B Ry k2) (hr : ∀ x y, Rx x → Ry y → ∃ z, RD r x y z ∧ Rz z) : EvM D (tOp r ta tb) σ B Rz (k1 + k2) := fun n H1 e j hk Q q =>
  ha n H1 e j (by omega) _ fun v H2 x rx m2 j2 dv => hb (n + k1) H2 (ex_M c e m2) j2 (by omega) _ fun w H3 y ry m3 j3 dw => by
    obtain ⟨z, hr1, hz⟩ := hr x y rx ry
    exact hr1 (gr B H1 H3) H3 v w (gr_subM c e (m2.trans m3)) (Tp.ex (gr_lM j m3) x v dv) (Tp.ex (gr_rM j2 e m2) y w dw) Q fun u H4 e4 du =>
      q u H4 z hz ((m2.trans m3).trans (ExM.of e4)) (D.keep _ _ _ e4 (by rw [← Nat.add_assoc]; exact j3)) (Tp.ex (gr_grM j j3 (m2.trans m3) (ExM.of e4)) z u du)
theorem esm_nil : EvsM D tNil σ B (· = []) 0 := fun n H1 _ j _ _ q => q [] H1 [] rfl (ExM.refl H1) j .nil
theorem esm_cons (c : Cl D B) {tr : TA} (h : EvM D te σ B R k1) (hr : EvsM D tr σ B Rs k2) : EvsM D (tCons te tr) σ B (fun l => ∃ d ds, l = d :: ds ∧ R d ∧ Rs ds) (k1 + k2) := fun n H1 e j hk _ q =>
  h n H1 e j (by omega) _ fun v H2 d rd m2 j2 dv => hr (n + k1) H2 (ex_M c e m2) j2 (by omega) _ fun vs H3 ds rds m3 j3 dvs =>
    q (v :: vs) H3 (d :: ds) ⟨d, ds, rfl, rd, rds⟩ (m2.trans m3) (by rw [← Nat.add_assoc]; exact j3) (.cons (Tp.ex (gr_lM j m3) d v dv) (TpAll.ex (gr_rM j2 e m2) ds vs dvs))
theorem em_tup {ta : TA} (h : EvsM D ta σ B Rs k) (hl : ∀ ds, Rs ds → ds.length ≤ 100000) : EvM D (tTup ta) σ B (fun d => ∃ ds, d = .tuple ds ∧ Rs ds) k := fun n H1 e j hk _ q =>
  h n H1 e j hk _ fun vs H2 ds rd m2 j2 dvs => ⟨sz_of (by rw [dp_len dvs]; exact hl ds rd), fun p hp => q _ _ _ ⟨ds, rfl, rd⟩ (m2.trans (ExM.of (Ex.new hp))) (D.keep _ _ _ (Ex.new hp) j2) (.tup (gr_new (back_M j2 m2 hp) upd_same) (TpAll.ex (gr_lM j (ExM.of (Ex.new hp))) ds vs dvs))⟩
theorem em_lst {ta : TA} (h : EvsM D ta σ B Rs k) (hl : ∀ ds, Rs ds → ds.length ≤ 100000) : EvM D (tLst ta) σ B (fun d => ∃ ds, d = .list ds ∧ Rs ds) k := fun n H1 e j hk _ q =>
  h n H1 e j hk _ fun vs H2 ds rd m2 j2 dvs => ⟨sz_of (by rw [dp_len dvs]; exact hl ds rd), fun p hp => q _ _ _ ⟨ds, rfl, rd⟩ (m2.trans (ExM.of (Ex.new hp))) (D.keep _ _ _ (Ex.new hp) j2) (.lst (gr_new (back_M j2 m2 hp) upd_same) (TpAll.ex (gr_lM j (ExM.of (Ex.new hp))) ds vs dvs))⟩
theorem em_cb (c : Cl D B) {rr : List V → Hp → VK → Prop} {ta : TA} (h : EvsM D ta σ B Rs k) (hr : ∀ ds, Rs ds → ∃ z, RCD rr ds z ∧ R z) : EvM D (tCB rr ta) σ B R k := fun n H1 e j hk Q q =>
  h n H1 e j hk _ fun vs H2 ds rd m2 j2 dvs => by
    obtain ⟨z, hr1, hz⟩ := hr ds rd
    exact hr1 (gr B H1 H2) H2 vs (gr_subM c e m2) dvs Q fun u H3 e3 du => q u H3 z hz (m2.trans (ExM.of e3)) (D.keep _ _ _ e3 j2) (Tp.ex (gr_grM j j2 m2 (ExM.of e3)) z u du)
/-! ### promises -/
def spM (D : Md) (n : Nat) (pre : List PyData → Prop) (post : List PyData → PyData → Prop) (k : List PyData → Nat) : Sp := fun vs H1 Q _ => ∃ B ds s, Ex B H1 ∧ Cl D B ∧ D.J s H1 ∧ s + k ds ≤ 100000 ∧ TpAll B vs ds ∧ ds.length = n ∧ pre ds ∧
  ∀ v H2 d, post ds d → ExM D H1 H2 → D.J (s + k ds) H2 → Tp (gr B H1 H2) v d → Q v H2
theorem em_call (c : Cl D B) {n : Nat} {pre : List PyData → Prop} {post : List PyData → PyData → Prop} {kk : List PyData → Nat} {E : XK} {ta : TA} (h : EvsM D ta σ B Rs k) (hf : ∀ ds, Rs ds → ds.length = n ∧ pre ds ∧ kk ds ≤ k2) : EvM D (tCall (spM D n pre post kk) [] E ta) σ B (fun d => ∃ ds, Rs ds ∧ post ds d) (k + k2) := fun s H1 e j hk Q q =>
  h s H1 e j (by omega) _ fun vs H2 ds rd m2 j2 dvs => by
    obtain ⟨h1, h2, h3⟩ := hf ds rd
    rw [List.append_nil]
    exact ⟨gr B H1 H2, ds, s + k, gr_subM c e m2, cl_gr c j, j2, by omega, dvs, h1, h2, fun v H3 d hp m3 j3 g => q v H3 d ⟨ds, rd, hp⟩ (m2.trans m3) (D.up _ _ _ (by omega) j3) (Tp.ex (gr_grM j j2 m2 m3) d v g)⟩
theorem spM_len {n : Nat} {pre : List PyData → Prop} {post : List PyData → PyData → Prop} {kk : List PyData → Nat} {vs : List V} {H : Hp} {Q : VK} {E : XK} (h : spM D n pre post kk vs H Q E) : vs.length = n := by
  obtain ⟨B, ds, s, _, _, _, _, h1, h2, _⟩ := h
  rw [dp_len h1]
  exact h2
end
/-! ### a base that stays -/
structure BsM (D : Md) (H H1 B Hc : Hp) (s : Nat) : Prop where
  a : ExM D H1 Hc
  b : Ex H B
  c : Ex B Hc
  d : Ex B (gr H H1 Hc)
  cl : Cl D B
  j : D.J s Hc
  j1 : ∃ s, D.J s H1
section
variable {D : Md} {H H1 B Hc Hn : Hp} {s k : Nat}
theorem BsM.start (e : Ex H H1) (c : Cl D H) (j : D.J s H1) : BsM D H H1 H H1 s := ⟨ExM.refl _, Ex.refl _, e, gr_ex e, c, j, s, j⟩
theorem BsM.step (b : BsM D H H1 B Hc s) (m : ExM D Hc Hn) (j : D.J k Hn) : BsM D H H1 (gr B Hc Hn) Hn k := ⟨b.a.trans m, b.b.trans (gr_ex b.c), gr_subM b.cl b.c m, fun x o h => by
  obtain ⟨s1, j1⟩ := b.j1
  unfold gr at h ⊢
  cases p : Hc x with
  | none =>
    rw [p] at h
    rw [back_M b.j b.a p]
    exact h
  | some u =>
    rw [p] at h
    have z := b.d x o h
    unfold gr at z
    cases q : H1 x with
    | none => rw [q] at z; exact m x o (b.cl.off h) z
    | some w => rw [q] at z; exact z, cl_gr b.cl b.j, j, b.j1⟩
theorem BsM.mut {p : Addr} {o : HO} (b : BsM D H H1 B Hc s) (h1 : H1 p = none) (hb : B p = none) (ht : Hc p = none ∨ ∃ xs, Hc p = some (.lst xs)) : BsM D H H1 B (upd Hc p o) s := by
  obtain ⟨s1, j1⟩ := b.j1
  have hp : p ∉ D.M := off_M j1 h1
  refine ⟨fun x u n h => ?_, b.b, Ex.mut b.c hb, fun x u h => ?_, b.cl, D.set _ _ _ _ hp ht b.j, b.j1⟩
  · rw [upd_ne (ne_of_none h h1)]
    exact b.a x u n h
  · have z := b.d x u h
    unfold gr at z ⊢
    rw [upd_ne (ne_of_none h hb)]
    exact z
theorem BsM.new {p : Addr} {o : HO} (b : BsM D H H1 B Hc s) (hp : Hc p = none) : BsM D H H1 B (upd Hc p o) s := b.mut (back_M b.j b.a hp) (fresh_back b.c hp) (.inl hp)
theorem own_stepM {p : Addr} {ds : List PyData} (b : BsM D H H1 B Hc s) (h : Own H1 B Hc p ds) (m : ExM D Hc Hn) : Own H1 (gr B Hc Hn) Hn p ds := by
  obtain ⟨h1, h2, vs, h3, h4⟩ := h
  obtain ⟨s1, j1⟩ := b.j1
  exact ⟨h1, gr_off h2 (by rw [h3]; exact Option.some_ne_none _), vs, m p _ (off_M j1 h1) h3, TpAll.ex (gr_ex b.c) _ _ h4⟩
end
end Dm
set_option maxHeartbeats 4000000
namespace Dm
open PySem PySem.Spec PyProof.Rows L2 Evl RZ Dl
section
variable {M : Md} {K : PySem.W.Frag} {σ : L2.St} {H H1 B Hc : Hp} {ta tb te tx : TE} {d : PyData} {ds es : List PyData} {R : PyData → Prop} {tz tu tw : TS} {D : Ends} {k s : Nat}
theorem q_asgM {i : Nat} (b : BsM M H H1 B Hc s) (h : EvM M te σ B R k) (l : s + k ≤ 100000) (kk : ∀ v Hn d, R d → ExM M Hc Hn → M.J (s + k) Hn → Tp (gr B Hc Hn) v d → tz D (σ.set i (some v)) Hn) : tSeq (tAsg te (gName i)) tz D σ Hc := h s Hc b.c b.j l _ kk
theorem s_asgM {i : Nat} (b : BsM M H H1 B Hc s) (h : EvM M te σ B R k) (l : s + k ≤ 100000) (kk : ∀ v Hn d, R d → ExM M Hc Hn → M.J (s + k) Hn → Tp (gr B Hc Hn) v d → D.nx (σ.set i (some v)) Hn) : tAsg te (gName i) D σ Hc := h s Hc b.c b.j l _ kk
theorem s_retM (b : BsM M H H1 B Hc s) (h : EvM M te σ B R k) (l : s + k ≤ 100000) (kk : ∀ v Hn d, R d → ExM M Hc Hn → M.J (s + k) Hn → Tp (gr B Hc Hn) v d → D.rt v Hn) : tRet te D σ Hc := h s Hc b.c b.j l _ kk
theorem q_asgOwnM {i : Nat} (b : BsM M H H1 B Hc s) (kk : ∀ p, Own H1 B (upd Hc p (.lst [])) p [] → BsM M H H1 B (upd Hc p (.lst [])) s → tz D (σ.set i (some (.ref p))) (upd Hc p (.lst []))) : tSeq (tAsg (tLst tNil) (gName i)) tz D σ Hc :=
  ⟨Nat.zero_le _, fun p hp => kk p ⟨back_M b.j b.a hp, fresh_back b.c hp, [], upd_same, .nil⟩ (b.new hp)⟩
/-- a promise fulfilled -/
theorem ret_M {Q : VK} {sN : Nat} {Hn : Hp} {v : V} {n0 : Nat} (q : ∀ v H2 d, R d → ExM M H1 H2 → M.J n0 H2 → Tp (gr H H1 H2) v d → Q v H2) (rd : R d) (b : BsM M H H1 B Hc s) (m : ExM M Hc Hn) (j : M.J sN Hn) (l : sN ≤ n0) (t : Tp (gr B Hc Hn) v d) : Q v Hn :=
  q v Hn d rd (b.a.trans m) (M.up _ _ _ l j) (Tp.ex (b.step m j).d _ _ t)
theorem pair_app {α β : Type} {F : α → β → Prop} {as cs : List α} {bs ds : List β} (h : Paired F as bs) (h2 : Paired F cs ds) : Paired F (as ++ cs) (bs ++ ds) := by
  induction h with
  | nil => exact h2
  | cons a t ih => exact .cons a ih
/-- a comprehension -/
theorem em_lc {wi : TI} {g : TG} {tt : TT} {vs : List Nat} (f : PyData → Bool) (w : PyData → PyData → Prop) (c : Cl M B) (hi : EvI wi σ B ds) (hz : ds.length ≤ 50000)
    (hb : ∀ d x H', d ∈ ds → Ex B H' → Cl M H' → Tp H' x d → ∃ σ2, (∀ (Hx : Hp) (k : L2.St → Hp → Prop), Ex H' Hx → k σ2 Hx → g x (wipe σ vs) Hx k) ∧ wipe σ2 vs = wipe σ vs ∧ EvT tt σ2 H' (f d) ∧ (f d = true → EvM M te σ2 H' (w d) k)) :
    EvM M (tLc wi g tt te vs) σ B (fun d => ∃ zs, d = .list zs ∧ Paired w (ds.filter f) zs) (k * ds.length) := fun n H1 e j hk Q q => hi H1 e _ fun J H2 e2 hJ D hD => by
  have hD1 : H1 D = none := fresh_back e2 hD
  have hDM : D ∉ M.M := off_M j hD1
  have j2 := M.keep _ _ _ e2 j
  refine ⟨fun i m Hc => m = ds.length - i ∧ i ≤ ds.length ∧ ExM M H2 Hc ∧ M.J (n + k * i) Hc ∧ ∃ ys zs, Hc D = some (.lst ys) ∧ Paired w ((ds.take i).filter f) zs ∧ TpAll (but (gr B H1 Hc) [D]) ys zs, ⟨ds.length, rfl, Nat.zero_le _, ExM.of (Ex.new hD), M.keep _ _ _ (Ex.new hD) j2, [], [], upd_same, .nil, .nil⟩, ?_⟩
  rintro i m Hc ⟨rfl, hil, ec, jc, ys, zs, hcD, hzs, hys⟩
  have clB : Cl M (gr B H1 H2) := cl_gr c j
  have eB : Ex (gr B H1 H2) Hc := ex_M clB (gr_sub e e2) ec
  by_cases hlt : i < ds.length
  · refine .inr ⟨hJ.go i Hc hlt eB, fun Hn => i + 1 ≤ ds.length ∧ ExM M H2 Hn ∧ M.J (n + k * (i + 1)) Hn ∧ ∃ ys zs, Hn D = some (.lst ys) ∧ Paired w ((ds.take (i + 1)).filter f) zs ∧ TpAll (but (gr B H1 Hn) [D]) ys zs, fun Hn hn => ⟨ds.length - (i + 1), by omega, rfl, hn.1, hn.2⟩, fun x H'' hy => ?_⟩
    obtain ⟨e3, d, hd, hx⟩ := hJ.yld i Hc x H'' hlt eB hy
    have hm : d ∈ ds := List.mem_of_getElem? hd
    have eH' : Ex B (gr (gr B H1 H2) Hc H'') := (gr_ex e).trans (gr_ex eB)
    have clH' : Cl M (gr (gr B H1 H2) Hc H'') := cl_gr clB jc
    obtain ⟨σ2, b1, b2, b3, b4⟩ := hb d x _ hm eH' clH' hx
    have e4 : Ex (gr (gr B H1 H2) Hc H'') H'' := gr_sub eB e3
    have j3 := M.keep _ _ _ e3 jc
    refine b1 H'' _ e4 ⟨b2, b3 H'' e4 _ fun H3 e5 => ?_⟩
    have j5 := M.keep _ _ _ e5 j3
    have tk : ds.take (i + 1) = ds.take i ++ [d] := by rw [List.take_add_one, hd]; rfl
    have ks : k * (i + 1) = k * i + k := Nat.mul_succ k i
    cases hf : f d with
    | false =>
      show i + 1 ≤ ds.length ∧ ExM M H2 H3 ∧ _ ∧ _
      refine ⟨hlt, ec.trans (ExM.of (e3.trans e5)), M.up _ _ _ (by omega) j5, ys, zs, e5 D _ (e3 D _ hcD), ?_, ?_⟩
      · rw [tk, List.filter_append, List.filter_cons_of_neg (by rw [hf]; decide), List.filter_nil, List.append_nil]
        exact hzs
      refine TpAll.ex (fun b o h => ?_) _ _ hys
      by_cases nn : b ∈ [D]
      · rw [but_in nn] at h; cases h
      · rw [but_at nn] at h ⊢
        exact gr_l (e3.trans e5) b o h
    | true =>
      show te σ2 H3 _
      have kb : k * i + k ≤ k * ds.length := by rw [← ks]; exact Nat.mul_le_mul_left k hlt
      refine b4 hf (n + k * i) H3 (e4.trans e5) j5 (by omega) _ fun y H4 dy rdy m6 j6 hy4 => ?_
      have k4 : H4 D = some (.lst ys) := m6 D _ hDM (e5 D _ (e3 D _ hcD))
      have yl : ys.length ≤ ds.length := by
        rw [dp_len hys, ← Paired.length hzs]
        exact Nat.le_trans (List.length_filter_le _ _) (by rw [List.length_take]; omega)
      have e35 := e3.trans e5
      have m34 : ExM M Hc H4 := (ExM.of e35).trans m6
      refine ⟨ys, k4, sz_lt (by have := hlt; omega), hlt, fun b o nb h => ?_, ?_, ys ++ [y], zs ++ [dy], upd_same, ?_, ?_⟩
      · rw [upd_ne (ne_of_none h hD)]
        exact m34 b o nb (ec b o nb h)
      · refine M.set _ _ _ _ hDM (.inr ⟨_, k4⟩) ?_
        rw [ks, ← Nat.add_assoc]
        exact j6
      · rw [tk, List.filter_append, List.filter_cons_of_pos hf, List.filter_nil]
        exact pair_app hzs (.cons rdy .nil)
      refine dp_append (TpAll.ex (fun b o h => ?_) _ _ hys) (.cons (Tp.ex (fun b o h => ?_) _ _ hy4) .nil)
      · by_cases nn : b ∈ [D]
        · rw [but_in nn] at h; cases h
        · rw [but_at nn] at h ⊢
          have nb : b ≠ D := fun z => nn (by rw [z]; exact List.mem_singleton.mpr rfl)
          have h2 := gr_lM j m34 b o h
          unfold gr at h2 ⊢
          cases p : H1 b with
          | none => rw [p] at h2; rw [upd_ne nb]; exact h2
          | some u => rw [p] at h2; exact h2
      · have key : b ≠ D ∧ gr B H1 H4 b = some o := by
          unfold gr at h ⊢
          cases p3 : H3 b with
          | none =>
            rw [p3] at h
            have nb : b ≠ D := fun z => by rw [z, e5 D _ (e3 D _ hcD)] at p3; cases p3
            have p1 : H1 b = none := back_M j5 (((ExM.of e2).trans ec).trans (ExM.of e35)) p3
            rw [p1]
            exact ⟨nb, h⟩
          | some u3 =>
            rw [p3] at h
            cases pc : Hc b with
            | none =>
              simp only [pc] at h
              have nb : b ≠ D := fun z => by rw [z, hcD] at pc; cases pc
              have p1 : H1 b = none := back_M jc ((ExM.of e2).trans ec) pc
              rw [p1]
              exact ⟨nb, m6 b o (off_M j p1) (e5 b o h)⟩
            | some uc =>
              simp only [pc] at h
              cases p1 : H1 b with
              | none =>
                simp only [p1] at h ⊢
                have nb : b ≠ D := fun z => by rw [z, hD] at h; cases h
                exact ⟨nb, m34 b o (off_M j p1) (ec b o (off_M j p1) h)⟩
              | some u1 =>
                simp only [p1] at h ⊢
                exact ⟨(fun z => by rw [z, hD1] at p1; cases p1), h⟩
        have nn : b ∉ [D] := fun z => key.1 (List.mem_singleton.mp z)
        rw [but_at nn]
        have h2 := key.2
        unfold gr at h2 ⊢
        cases p : H1 b with
        | none => rw [p] at h2; rw [upd_ne key.1]; exact h2
        | some u => rw [p] at h2; exact h2
  · have ei : i = ds.length := by omega
    subst ei
    refine .inl ⟨hJ.stop Hc eB, q _ Hc _ ⟨zs, rfl, by rw [List.take_length] at hzs; exact hzs⟩ ((ExM.of e2).trans ec) jc ?_⟩
    exact .lst (gr_new hD1 hcD) (TpAll.ex but_ex _ _ hys)
end
end Dm
set_option maxHeartbeats 4000000
namespace K50
open PySem PySem.W PySem.Spec PyProof.Rows L2 LamX Evl RZ Dl Dn Dm
/-! ### the spring of draws at p, l, and code objects' tables -/
theorem StreamAt.keepE {H H' : Hp} {p l : Addr} {N : Int} (s : StreamAt H p l N) (e : Ex H H') : StreamAt H' p l N := by
  obtain ⟨⟨ns, a, b, c, h1, h2, h3⟩, n⟩ := s
  exact ⟨⟨ns, a, b, c, e _ _ h1, e _ _ h2, h3⟩, n⟩
theorem StreamAt.off {H H' : Hp} {p l : Addr} {N : Int} (s : StreamAt H p l N) (h1 : H' p = H p) (h2 : H' l = H l) : StreamAt H' p l N := by
  obtain ⟨⟨ns, a, b, c, e1, e2, h3⟩, n⟩ := s
  exact ⟨⟨ns, a, b, c, h1.trans e1, h2.trans e2, h3⟩, n⟩
def mdS (p l : Addr) (T : List (Addr × Str)) : Md where
  M := p :: l :: T.map (·.1)
  J := fun n H => (∃ N : Int, N ≤ (n : Int) ∧ StreamAt H p l N) ∧ Tabs T H
  dom := fun n H ⟨⟨N, _, ⟨ns, a, b, c, h1, h2, _⟩, _⟩, ht⟩ x hx => by
    rcases List.mem_cons.mp hx with rfl | hx
    · rw [h1]; exact Option.some_ne_none _
    · rcases List.mem_cons.mp hx with rfl | hx
      · rw [h2]; exact Option.some_ne_none _
      · obtain ⟨t, ht1, rfl⟩ := List.mem_map.mp hx
        obtain ⟨ps, h3, _⟩ := ht t ht1
        rw [h3]
        exact Option.some_ne_none _
  keep := fun n H H' e ⟨⟨N, h1, h2⟩, ht⟩ => ⟨⟨N, h1, h2.keepE e⟩, ht.ext e⟩
  up := fun m n H h ⟨⟨N, h1, h2⟩, ht⟩ => ⟨⟨N, by omega, h2⟩, ht⟩
  set := fun n H q o hq hv ⟨⟨N, h1, h2⟩, ht⟩ => by
    have q1 : p ≠ q := fun z => hq (z ▸ List.mem_cons_self)
    have q2 : l ≠ q := fun z => hq (z ▸ List.mem_cons_of_mem _ List.mem_cons_self)
    refine ⟨⟨N, h1, h2.off (upd_ne q1) (upd_ne q2)⟩, fun t ht1 => ?_⟩
    obtain ⟨ps, h3, h4, h5⟩ := ht t ht1
    have q3 : t.1 ≠ q := fun z => hq (z ▸ List.mem_cons_of_mem _ (List.mem_cons_of_mem _ (List.mem_map.mpr ⟨t, ht1, rfl⟩)))
    refine ⟨ps, by rw [upd_ne q3]; exact h3, h4, fun pos cv hc => ?_⟩
    obtain ⟨c, rfl, h6⟩ := h5 pos cv hc
    refine ⟨c, rfl, ?_⟩
    have q4 : c ≠ q := fun z => by
      subst z
      rcases hv with hv | ⟨xs, hv⟩
      · rw [h6] at hv; cases hv
      · rw [h6] at hv; cases hv
    rw [upd_ne q4]
    exact h6
/-- a draw -/
theorem em_draw {p l : Addr} {T : List (Addr × Str)} {σ : L2.St} {B : Hp} {te : TE} {i : Nat} {m : Int} {E : XK} (hc : Cl (mdS p l T) B) (hi : σ[i]? = some (some (.ref p))) (h : EvD te σ B (.int m)) (h0 : 0 < m) (h1 : m ≤ 1000) :
    EvM (mdS p l T) (tCall spDraw [] E (tCons (tVar i) (tCons te tNil))) σ B (fun d => ∃ j : Int, d = .int j ∧ 0 ≤ j ∧ j < m) 1 := fun n H1 e j hk Q q => by
  refine ⟨.ref p, hi, h H1 e _ fun v H2 e2 hv => ?_⟩
  cases hv
  obtain ⟨⟨N, hN, hs⟩, ht⟩ := (mdS p l T).keep _ _ _ e2 j
  refine ⟨p, l, m, N, rfl, h0, h1, by omega, hs, fun d H' d0 d1 hs' hk2 => ?_⟩
  have off : ∀ b o, b ∉ (mdS p l T).M → H2 b = some o → H' b = some o := fun b o nb hb => hk2 b o hb (fun z => nb (z ▸ List.mem_cons_self)) (fun z => nb (z ▸ List.mem_cons_of_mem _ List.mem_cons_self))
  have tk : ∀ b o, H2 b = some o → b ≠ p → b ≠ l → H' b = some o := fun b o hb n1 n2 => hk2 b o hb n1 n2
  refine q (.int d) H' (.int d) ⟨d, rfl, d0, d1⟩ (fun b o nb hb => off b o nb (e2 b o hb)) ⟨⟨N + 1, by omega, hs'⟩, fun t ht1 => ?_⟩ (.int d)
  obtain ⟨ps, h3, h4, h5⟩ := ht t ht1
  obtain ⟨⟨ns, a, b, c, s1, s2, _⟩, _⟩ := hs
  have n1 : t.1 ≠ p := fun z => by rw [z, s1] at h3; cases h3
  have n2 : t.1 ≠ l := fun z => by rw [z, s2] at h3; cases h3
  refine ⟨ps, tk _ _ h3 n1 n2, h4, fun pos cv hc2 => ?_⟩
  obtain ⟨c2, rfl, h6⟩ := h5 pos cv hc2
  exact ⟨c2, rfl, tk _ _ h6 (fun z => by rw [z, s1] at h6; cases h6) (fun z => by rw [z, s2] at h6; cases h6)⟩
end K50
set_option maxHeartbeats 4000000
namespace K50
open PySem PySem.W PySem.Spec PyProof.Rows L2 LamX Evl RZ Dl Dn Dm
/-! ### promises of defs that take the spring first -/
def spS (n : Nat) (pre : List PyData → Prop) (post : List PyData → PyData → Prop) (kk : Nat) : Sp := fun vs H1 Q E => ∃ p l T vs', vs = V.ref p :: vs' ∧ spM (mdS p l T) n pre post (fun _ => kk) vs' H1 Q E
theorem spS_len {n : Nat} {pre : List PyData → Prop} {post : List PyData → PyData → Prop} {kk : Nat} {vs : List V} {H : Hp} {Q : VK} {E : XK} (h : spS n pre post kk vs H Q E) : vs.length = n + 1 := by
  obtain ⟨p, l, T, vs', rfl, h⟩ := h
  rw [List.length_cons, spM_len h]
section
variable {p l : Addr} {T : List (Addr × Str)} {K : PySem.W.Frag} {σ : L2.St} {B : Hp} {ta : TA} {Rs : List PyData → Prop} {k kk : Nat}
theorem em_callS (c : Cl (mdS p l T) B) {i n : Nat} {pre : List PyData → Prop} {post : List PyData → PyData → Prop} {E : XK} (hi : σ[i]? = some (some (.ref p))) (h : EvsM (mdS p l T) ta σ B Rs k) (hf : ∀ ds, Rs ds → ds.length = n ∧ pre ds) :
    EvM (mdS p l T) (tCall (spS n pre post kk) [] E (tCons (tVar i) ta)) σ B (fun d => ∃ ds, Rs ds ∧ post ds d) (k + kk) := fun s H1 e j hk Q q => by
  refine ⟨.ref p, hi, ?_⟩
  refine h s H1 e j (by omega) _ fun vs H2 ds rd m2 j2 dvs => ?_
  obtain ⟨h1, h2⟩ := hf ds rd
  rw [List.append_nil]
  exact ⟨p, l, T, vs, rfl, gr B H1 H2, ds, s + k, gr_subM c e m2, cl_gr c j, j2, by (show s + k + kk ≤ 100000; omega), dvs, h1, h2, fun v H3 d hp m3 j3 g => q v H3 d ⟨ds, rd, hp⟩ (m2.trans m3) (by rw [← Nat.add_assoc]; exact j3) (Tp.ex (gr_grM j j2 m2 m3) d v g)⟩
end
theorem em_ifT {D : Md} {σ : L2.St} {B : Hp} {te ta tb : TE} {R : PyData → Prop} {k1 k2 : Nat} (c : Cl D B) (h : EvM D te σ B (fun d => ∃ b, d = .bool b) k1) (h1 : EvM D ta σ B R k2) (h2 : EvM D tb σ B R k2) : EvM D (tIf (tTest te) ta tb) σ B R (k1 + k2) := fun n H1 e j hk Q q =>
  h n H1 e j (by omega) _ fun v H2 d hd m2 j2 t => by
    obtain ⟨b, rfl⟩ := hd
    cases t
    refine ⟨b, rfl, ?_⟩
    have go : ∀ {tx : TE}, EvM D tx σ B R k2 → tx σ H2 Q := fun hx => hx (n + k1) H2 (ex_M c e m2) j2 (by omega) Q fun w H3 d2 rd m3 j3 dw => q w H3 d2 rd (m2.trans m3) (by rw [← Nat.add_assoc]; exact j3) (Tp.ex (gr_rM j2 e m2) d2 w dw)
    cases b with
    | true => exact go h1
    | false => exact go h2
/-! ### one of some -/
def pickPre : List PyData → Prop := fun ds => ∃ xs, ds = [.list xs] ∧ 0 < xs.length ∧ xs.length ≤ 1000
def pickPost : List PyData → PyData → Prop := fun ds d => ∃ xs, ds = [.list xs] ∧ d ∈ xs
theorem scPick : FnScope ["stream", "some"] ["stream", "some"] (defScope sPick) := ⟨rfl, rfl, rfl, by decide +kernel, rfl, by decide +kernel, by decide +kernel⟩
section
variable {P : Program} {w : World} {K : PySem.W.Frag} {mg : Str → Option Value} {base : Heap}
theorem ok_pick {f : Addr} {fd : FuncData} (F : Fun K "_law_pick" "_law_pick" sPick f fd) (B : Bl mg) (T : CallF P w K mg base 1 "_law_draw" ["stream", "many"] spDraw) : FnOk P w K mg base CX0 2 f fd ["stream", "some"] (spS 1 pickPre pickPost 1) := by
  refine F.ok scPick (fun vs H Q E h => spS_len h) (fun cdv A outer s H vs Q E hr h => ?_)
  obtain ⟨fT, dT, oT, gT, kT, bT⟩ := T
  refine ⟨_, pss_one (ps_ret (pe_ix ix_list (pv 1) (pe_call oT hr (by rfl) gT kT bT .nil pass0 (pa_cons (pv 0) (pa_cons (pe_callB call_len_seq (by rfl) B.len PySem.boot_len (pa_cons (pv 1) pa_nil)) pa_nil))) (fun _ _ => rfl))), ?_⟩
  obtain ⟨p, l, T, vs', rfl, Bb, ds, s0, e, cl, j, hk, hv, hn, ⟨xs, rfl, h0, h1⟩, q⟩ := h
  obtain ⟨v, rfl, hx⟩ := tp1 hv
  have dr := em_draw (E := E0) (T := T) (σ := L2.start ["stream", "some"] [V.ref p, v]) (i := 0) cl rfl (ed_cb (es_cons (ed_var (i := 1) rfl hx) es_nil) (rc_lenL (K := K))) (by omega) (by omega)
  refine em_op cl (em_of (ed_var (i := 1) rfl hx)) dr (Rz := fun d => d ∈ xs) (fun x y rx ry => ?_) s0 H e j (by omega) Q fun v2 H2 d hd m j2 t => q v2 H2 d ⟨xs, rfl, hd⟩ m (by simpa using j2) t
  obtain ⟨i, rfl, i0, i1⟩ := ry
  subst rx
  have hi : i.toNat < xs.length := by omega
  exact ⟨xs[i.toNat], rd_ixL (atI_int i0 (List.getElem?_eq_getElem hi)), List.getElem_mem hi⟩
end
/-! ### a thing with lists in the place of tuples at times -/
def loosePre (pre : List PyData → Prop) (N : Nat) : List PyData → Prop := fun ds => ∃ x, ds = [x] ∧ (isR x = false ∨ ∃ xs, Row x xs ∧ xs.length ≤ N ∧ ∀ y ∈ xs, pre [y])
def loosePost (post : List PyData → PyData → Prop) : List PyData → PyData → Prop := fun ds d => ∃ x, ds = [x] ∧ ((isR x = false ∧ d = x) ∨ ∃ xs zs, Row x xs ∧ Paired (fun a b => post [a] b) xs zs ∧ Row d zs)
abbrev nLoose : List Str := ["stream", "thing", "found", "part"]
section
variable {P : Program} {w : World} {K : PySem.W.Frag} {mg : Str → Option Value} {base : Heap}
end
end K50
set_option maxHeartbeats 4000000
namespace K50
open PySem PySem.W PySem.Spec PyProof.Rows L2 LamX Evl RZ Dl Dn Dm
abbrev nPat : List Str := ["stream", "most", "many", "way", "some", "signs", "senses", "step", "half", "spot", "k", "sense"]
def patPre : List PyData → Prop := fun ds => ds = [.int 10]
/-- some signs and senses -/
def okPat (ps : List (PyData × Int)) : Prop := 0 < ps.length ∧ ps.length ≤ 10 ∧ ∀ p ∈ ps, p.1 ∈ wd ∧ (p.2 = 0 ∨ p.2 = 1)
def patD (ps : List (PyData × Int)) : PyData := .tuple [.list (ps.map (·.1)), .list (ps.map fun p => .int p.2)]
def patPost : List PyData → PyData → Prop := fun _ d => ∃ ps, okPat ps ∧ d = patD ps
/-! ### pieces -/
theorem par_M {M : Md} {H H1 B Hc : Hp} {s k1 k2 i j : Nat} {σ : L2.St} {D : Ends} {ta tb : TE} {R1 R2 : PyData → Prop} (b : BsM M H H1 B Hc s) (ha : EvM M ta σ B R1 k1) (hb : EvM M tb σ B R2 k2) (l : s + (k1 + k2) ≤ 100000)
    (kk : ∀ v w Hn d1 d2, R1 d1 → R2 d2 → ExM M Hc Hn → M.J (s + (k1 + k2)) Hn → Tp (gr B Hc Hn) v d1 → Tp (gr B Hc Hn) w d2 → D.nx ((σ.set i (some v)).set j (some w)) Hn) : tPar i j (tCons ta (tCons tb tNil)) D σ Hc := by
  refine (esm_cons b.cl ha (esm_cons b.cl hb esm_nil)) s Hc b.c b.j (by omega) _ fun vs Hn ds hd m jj t => ?_
  obtain ⟨d1, ds1, rfl, r1, d2, ds2, rfl, r2, rfl⟩ := hd
  obtain ⟨v, w, rfl, t1, t2⟩ := tp2 t
  exact ⟨v, w, rfl, kk v w Hn d1 d2 r1 r2 m jj t1 t2⟩
theorem q_asgGM {M : Md} {H H1 B Hc : Hp} {s k : Nat} {σ : L2.St} {D : Ends} {te : TE} {g : TG} {tz : TS} {R : PyData → Prop} (b : BsM M H H1 B Hc s) (h : EvM M te σ B R k) (l : s + k ≤ 100000) (kk : ∀ v Hn d, R d → ExM M Hc Hn → M.J (s + k) Hn → Tp (gr B Hc Hn) v d → g v σ Hn (tz D)) : tSeq (tAsg te g) tz D σ Hc := h s Hc b.c b.j l _ kk
theorem q_join {t : TT} {tu tw tz : TS} {D : Ends} {σ : L2.St} {Hc : Hp} (P : L2.St → Hp → Prop) (hrest : ∀ σ H, P σ H → tz D σ H) (hif : ∀ N : L2.St → Hp → Prop, (∀ σ H, P σ H → N σ H) → tIfS t tu tw { D with nx := N } σ Hc) : tSeq (tIfS t tu tw) tz D σ Hc := hif (tz D) hrest
def OkS (n : Nat) (d : PyData) : Prop := ∃ ws : List PyData, d = .list ws ∧ ws.length = n ∧ ∀ x ∈ ws, x ∈ wd
def OkE (n : Nat) (d : PyData) : Prop := ∃ es : List Int, d = .list (es.map PyData.int) ∧ es.length = n ∧ ∀ e ∈ es, e = 0 ∨ e = 1
theorem pat_of {n : Nat} {d1 d2 : PyData} (h1 : OkS n d1) (h2 : OkE n d2) (h0 : 0 < n) (h10 : n ≤ 10) : ∃ ps, okPat ps ∧ PyData.tuple [d1, d2] = patD ps := by
  obtain ⟨ws, rfl, l1, hw⟩ := h1
  obtain ⟨es, rfl, l2, he⟩ := h2
  refine ⟨ws.zip es, ⟨?_, ?_, fun p hp => ?_⟩, ?_⟩
  · rw [List.length_zip]; omega
  · rw [List.length_zip]; omega
  · obtain ⟨a, b⟩ := p
    have := List.of_mem_zip hp
    exact ⟨hw a this.1, he b this.2⟩
  · unfold patD
    have e1 : (ws.zip es).map (·.1) = ws := List.map_fst_zip (by omega)
    have e2 : (ws.zip es).map (·.2) = es := List.map_snd_zip (by omega)
    have e3 : ((ws.zip es).map fun p => PyData.int p.2) = es.map PyData.int := by
      rw [← e2, List.map_map, e2]
      rfl
    rw [e1, e3]
theorem ed_revL {K : PySem.W.Frag} {σ : L2.St} {H : Hp} {te : TE} {ds : List PyData} (h : EvD te σ H (.list ds)) : EvD (tRevL K te) σ H (.list ds.reverse) := fun H1 e Q q => h H1 e _ fun v H2 e2 hv => by
  cases hv with
  | lst ha hs =>
    refine ⟨_, _, rfl, sq_of (gr_sub e e2 _ _ ha), fun p hp => q _ _ (e2.trans (Ex.new hp)) (.lst (gr_new (fresh_back e2 hp) upd_same) (TpAll.ex (gr_l (Ex.new hp)) _ _ ?_))⟩
    have : ∀ {B : Hp} {vs : List V} {ds : List PyData}, TpAll B vs ds → TpAll B vs.reverse ds.reverse := by
      intro B vs
      induction vs with
      | nil => intro ds h; cases h; exact .nil
      | cons v vs ih =>
        intro ds h
        cases h with
        | cons a t =>
          rw [List.reverse_cons, List.reverse_cons]
          exact dp_append (ih t) (.cons a .nil)
    exact this hs
def fours : List PyData := [.list [.str "a"], .list [.str "a", .str "b"], .list [.str "b", .str "aa"], .list [.int 0, .tuple [.str "a"], .str ""]]
theorem fours_ok : ∀ d ∈ fours, ∃ ws, d = .list ws ∧ 0 < ws.length ∧ ws.length ≤ 3 ∧ ∀ x ∈ ws, x ∈ wd := by
  intro d hd
  unfold fours at hd
  simp only [List.mem_cons, List.not_mem_nil, or_false] at hd
  rcases hd with rfl | rfl | rfl | rfl <;> exact ⟨_, rfl, by decide, by decide, by simp [wd]⟩
theorem paired_all {F : PyData → Prop} {as zs : List PyData} (h : Paired (fun _ d => F d) as zs) : zs.length = as.length ∧ ∀ d ∈ zs, F d := by
  induction h with
  | nil => exact ⟨rfl, fun d hd => nomatch hd⟩
  | cons a t ih =>
    refine ⟨by rw [List.length_cons, List.length_cons, ih.1], fun d hd => ?_⟩
    rcases List.mem_cons.mp hd with rfl | hd
    · exact a
    · exact ih.2 d hd
theorem okE_of {n : Nat} {zs : List PyData} (hl : zs.length = n) (h : ∀ d ∈ zs, ∃ j : Int, d = .int j ∧ 0 ≤ j ∧ j < 2) : OkE n (.list zs) := by
  have : ∀ zs : List PyData, (∀ d ∈ zs, ∃ j : Int, d = .int j ∧ 0 ≤ j ∧ j < 2) → ∃ es : List Int, zs = es.map PyData.int ∧ ∀ e ∈ es, e = 0 ∨ e = 1 := by
    intro zs
    induction zs with
    | nil => intro _; exact ⟨[], rfl, fun e he => nomatch he⟩
    | cons z zs ih =>
      intro hz
      obtain ⟨es, rfl, h2⟩ := ih fun d hd => hz d (List.mem_cons_of_mem _ hd)
      obtain ⟨j, rfl, j0, j1⟩ := hz z List.mem_cons_self
      refine ⟨j :: es, rfl, fun e he => ?_⟩
      rcases List.mem_cons.mp he with rfl | he
      · omega
      · exact h2 e he
  obtain ⟨es, rfl, h2⟩ := this zs h
  exact ⟨es, rfl, by rw [List.length_map] at hl; exact hl, h2⟩
/-- signs and senses as they stand between the steps -/
def PatSt (p l : Addr) (T : List (Addr × Str)) (Bb H : Hp) (n : Nat) (bb : Int) (s1 m : Nat) (σ' : L2.St) (H' : Hp) : Prop := ∃ B' s' vs ve d1 d2 x4 x7 x8 x9, BsM (mdS p l T) Bb H B' H' s' ∧ s' ≤ s1 ∧ Tp B' vs d1 ∧ Tp B' ve d2 ∧ OkS m d1 ∧ OkE m d2 ∧
  σ' = [some (.ref p), some (.int 10), some (.int (n : Int)), some (.int bb), x4, some vs, some ve, x7, x8, x9, none, none]
def divs (n : Nat) : PyData → Bool
  | .int j => decide ((n : Int).fmod j = 0)
  | _ => false
theorem rep_ok {ws : List PyData} {k : Nat} {F : PyData → Prop} (h : ∀ x ∈ ws, F x) : (List.replicate k ws).flatten.length = k * ws.length ∧ ∀ x ∈ (List.replicate k ws).flatten, F x := by
  induction k with
  | zero => exact ⟨by simp, fun x hx => by simp at hx⟩
  | succ k ih =>
    rw [List.replicate_succ, List.flatten_cons]
    refine ⟨by rw [List.length_append, ih.1, Nat.succ_mul]; omega, fun x hx => ?_⟩
    rcases List.mem_append.mp hx with hx | hx
    · exact h x hx
    · exact ih.2 x hx
theorem okS_rep {n st k : Nat} {ws : List PyData} (hl : ws.length = n) (hw : ∀ x ∈ ws, x ∈ wd) (hs : st ≤ n) (hk : k * st = n) : OkS n (.list (List.replicate k (ws.take st)).flatten) := by
  obtain ⟨a, b⟩ := rep_ok (k := k) (ws := ws.take st) (F := (· ∈ wd)) fun x hx => hw x (List.mem_of_mem_take hx)
  exact ⟨_, rfl, by rw [a, List.length_take, Nat.min_eq_left (by omega), hk], b⟩
theorem okE_rep {n st k : Nat} {es : List Int} (hl : es.length = n) (hw : ∀ x ∈ es, x = 0 ∨ x = 1) (hs : st ≤ n) (hk : k * st = n) : OkE n (.list (List.replicate k ((es.map PyData.int).take st)).flatten) := by
  refine ⟨(List.replicate k (es.take st)).flatten, ?_, ?_, ?_⟩
  · rw [List.map_flatten, List.map_replicate, List.map_take]
  · have : ∀ k, (List.replicate k (es.take st)).flatten.length = k * st := by
      intro k
      induction k with
      | zero => simp
      | succ k ih =>
        rw [List.replicate_succ, List.flatten_cons, List.length_append, ih, List.length_take, Nat.min_eq_left (by omega), Nat.succ_mul]
        omega
    rw [this, hk]
  · intro x hx
    obtain ⟨y, hy, hx⟩ := List.mem_flatten.mp hx
    rw [(List.mem_replicate.mp hy).2] at hx
    exact hw x (List.mem_of_mem_take hx)
def negD : PyData → PyData
  | .int e => .int (1 - e)
  | d => d
theorem okS_mir {n h : Nat} {ws : List PyData} (hl : ws.length = n) (hw : ∀ x ∈ ws, x ∈ wd) (hh : h ≤ n) : OkS (2 * h) (.list (ws.take h ++ (ws.take h).reverse)) := by
  refine ⟨_, rfl, by rw [List.length_append, List.length_reverse, List.length_take]; omega, fun x hx => ?_⟩
  rcases List.mem_append.mp hx with hx | hx
  · exact hw x (List.mem_of_mem_take hx)
  · exact hw x (List.mem_of_mem_take (List.mem_reverse.mp hx))
theorem okE_mir {n h : Nat} {es : List Int} (hl : es.length = n) (hw : ∀ x ∈ es, x = 0 ∨ x = 1) (hh : h ≤ n) : OkE (2 * h) (.list ((es.map PyData.int).take h ++ ((es.map PyData.int).take h).reverse.map negD)) := by
  refine ⟨es.take h ++ (es.take h).reverse.map (fun e => 1 - e), ?_, ?_, ?_⟩
  · rw [List.map_append, List.map_map, ← List.map_take, ← List.map_reverse, List.map_map]
    rfl
  · rw [List.length_append, List.length_map, List.length_reverse, List.length_take]; omega
  · intro x hx
    rcases List.mem_append.mp hx with hx | hx
    · exact hw x (List.mem_of_mem_take hx)
    · obtain ⟨y, hy, rfl⟩ := List.mem_map.mp hx
      have := hw y (List.mem_of_mem_take (List.mem_reverse.mp hy))
      omega
theorem okS_rot {m k : Nat} {ws : List PyData} (hl : ws.length = m) (hw : ∀ x ∈ ws, x ∈ wd) (hk : k ≤ m) : OkS m (.list (ws.drop k ++ ws.take k)) := by
  refine ⟨_, rfl, by rw [List.length_append, List.length_drop, List.length_take]; omega, fun x hx => ?_⟩
  rcases List.mem_append.mp hx with hx | hx
  · exact hw x (List.mem_of_mem_drop hx)
  · exact hw x (List.mem_of_mem_take hx)
theorem okE_rot {m k : Nat} {es : List Int} (hl : es.length = m) (hw : ∀ x ∈ es, x = 0 ∨ x = 1) (hk : k ≤ m) : OkE m (.list ((es.map PyData.int).drop k ++ (es.map PyData.int).take k)) := by
  refine ⟨es.drop k ++ es.take k, by rw [List.map_append, List.map_drop, List.map_take], by rw [List.length_append, List.length_drop, List.length_take]; omega, fun x hx => ?_⟩
  rcases List.mem_append.mp hx with hx | hx
  · exact hw x (List.mem_of_mem_drop hx)
  · exact hw x (List.mem_of_mem_take hx)
section
variable {P : Program} {w : World} {K : PySem.W.Frag} {mg : Str → Option Value} {base : Heap}
end
end K50
set_option maxHeartbeats 4000000
namespace Dl
open PySem PySem.W PySem.Spec PyProof.Rows L2 Evl RZ
/-- max(t), t a tuple of two whole numbers -/
def rMaxT (K : PySem.W.Frag) : List V → Hp → VK → Prop := fun vs H Q => ∃ (a : Addr) (i j : Int), vs = [V.ref a] ∧ SqT K H a [.int i, .int j] ∧ Q (.int (max i j)) H
theorem cr_maxT {X : Cx} (hc : X.calm = true) (hu : X.A.units + 1 < cLine) : CallR X (.builtin "max") (rMaxT X.K) := by
  intro pins s σ H vs us Q I r h
  obtain ⟨a, i, j, rfl, hs, q⟩ := h
  obtain ⟨its, rv, hl, _⟩ := I.tuple hs
  rw [Vals.ref1 r]
  obtain ⟨u1, u2, rfl, ⟨t1, rfl⟩, ⟨t2, rfl⟩⟩ := Vals.two rv
  refine max_tuple_data (x := .int i) (xs := [.int j]) (as := []) (I.ok.hd hc) hl (.cons (.int i t1) (.cons (.int j t2) .nil)) ⟨by simp [alike], by simp⟩ (by show X.A.units + 1 + 0 < cLine; omega) fun k v h' tk bs hv hrd hk => ?_
  have z : maxD (.int i) [.int j] = .int (max i j) := maxD_ints i [j]
  rw [z] at hrd
  cases hrd
  exact ⟨.int _, H, I.kept hk, ⟨_, rfl⟩, q⟩
theorem rc_maxT {K : PySem.W.Frag} {i j : Int} : RCD (rMaxT K) [.tuple [.int i, .int j]] (.int (max i j)) := fun H H1 vs e h Q q => by
  cases h with
  | cons a b =>
    cases b
    cases a with
    | tup ha hs =>
      cases hs with
      | cons x y =>
        cases y with
        | cons y z =>
          cases z
          cases x
          cases y
          exact ⟨_, i, j, rfl, st_of (e _ _ ha), q _ H1 (Ex.refl H1) (.int _)⟩
end Dl
set_option maxHeartbeats 4000000
namespace Dl
open PySem PySem.Spec PyProof.Rows L2 Evl RZ
theorem room1 {k : Nat} {A : Around} (r : Room k A) : A.units + 1 < cLine := by have := r.un; omega
end Dl
namespace K50
open PySem PySem.W PySem.Spec PyProof.Rows L2 LamX Evl RZ Dl Dn Dm
abbrev nCan : List Str := ["joined", "number", "row", "here", "word", "near", "pair", "one", "other"]
def jD (js : List (Int × Int)) : PyData := .list (js.map fun p => .tuple [.int p.1, .int p.2])
def lenI (row : List Int) : Int := row.length
def nearI (js : List (Int × Int)) (row : List Int) : List Int := (js.filter fun p => (decide (lenI row = p.1) || decide (lenI row = p.2)) && decide (p.1 + p.2 - lenI row < lenI row)).map fun p => row.getD (p.1 + p.2 - lenI row).toNat 0
def selfI (js : List (Int × Int)) (row : List Int) : Bool := js.any fun p => decide (p.1 = lenI row) && decide (p.2 = lenI row)
def canB (js : List (Int × Int)) (m : Nat) (num : Int) : Nat → List Int → Bool
  | 0, _ => false
  | k + 1, row => if row.length = m then true else (below (if 1 + maxI (-1 :: row) + 1 < num then 1 + maxI (-1 :: row) + 1 else num)).any fun w => !selfI js row && (!(nearI js row).contains w && canB js m num k (row ++ [w]))
def rCan (n : Nat) : List PyData → PyData → Prop := fun ds d => ∃ (js : List (Int × Int)) (m : Nat) (num : Int) (row : List Int), ds = [jD js, .int num, .list (row.map PyData.int)] ∧ js ≠ [] ∧ js.length ≤ 400 ∧ (∀ p ∈ js, 0 ≤ p.1 ∧ 0 ≤ p.2) ∧ 1 + maxI (js.map fun p => max p.1 p.2) = (m : Int) ∧ row.length ≤ m ∧ m ≤ 400 ∧ m - row.length < n ∧ 1 ≤ num ∧ num ≤ 4 ∧ (∀ w ∈ row, 0 ≤ w ∧ w < 4) ∧ d = .bool (canB js m num n row)
def pT (p : Int × Int) : PyData := .tuple [.int p.1, .int p.2]
def mxD : PyData → PyData
  | .tuple [.int a, .int b] => .int (max a b)
  | d => d
def nearF (row : List Int) : PyData → Bool
  | .tuple [.int a, .int b] => (decide (lenI row = a) || decide (lenI row = b)) && decide (a + b - lenI row < lenI row)
  | _ => false
def nearG (row : List Int) : PyData → PyData
  | .tuple [.int a, .int b] => .int (row.getD (a + b - lenI row).toNat 0)
  | d => d
theorem near_map (js : List (Int × Int)) (row : List Int) : ((js.map pT).filter (nearF row)).map (nearG row) = (nearI js row).map PyData.int := by
  unfold nearI
  rw [List.filter_map, List.map_map, List.map_map]
  rfl
theorem self_any (js : List (Int × Int)) (row : List Int) : ((js.map pT).any fun z => PyData.eqv z (.tuple [.int (lenI row), .int (lenI row)])) = selfI js row := by
  unfold selfI
  rw [List.any_map]
  congr 1
  funext p
  show (PyData.eqv (.int p.1) (.int (lenI row)) && (PyData.eqv (.int p.2) (.int (lenI row)) && true)) = _
  rw [Bool.and_true]
  rfl
theorem ints_any (ns : List Int) (w : Int) : ((ns.map PyData.int).any fun z => PyData.eqv z (.int w)) = ns.contains w := by
  induction ns with
  | nil => rfl
  | cons n ns ih =>
    rw [List.map_cons, List.any_cons, ih, List.contains_cons]
    congr 1
    show decide (n = w) = (w == n)
    by_cases h : n = w
    · subst h; simp
    · simp [h, Ne.symm h]
theorem sh_int (i : Int) : SeqAt.shaped (.int i) = true := by rfl
theorem sh_pT (p : Int × Int) : SeqAt.shaped (pT p) = true := by rfl
theorem sh_js : ∀ js : List (Int × Int), PyData.canLayAll0 (js.map pT) = true ∧ PyData.depthAll (js.map pT) ≤ 1
  | [] => ⟨rfl, Nat.zero_le _⟩
  | p :: js => by
    obtain ⟨a, b⟩ := sh_js js
    refine ⟨?_, ?_⟩
    · show (PyData.canLay0 (pT p) && PyData.canLayAll0 (js.map pT)) = true
      rw [a]
      rfl
    · show max (PyData.depth (pT p)) (PyData.depthAll (js.map pT)) ≤ 1
      have : PyData.depth (pT p) = 1 := rfl
      omega
theorem sh_jD (js : List (Int × Int)) : SeqAt.shaped (.list (js.map pT)) = true := by
  obtain ⟨a, b⟩ := sh_js js
  unfold SeqAt.shaped
  have c : PyData.canLay0 (.list (js.map pT)) = true := a
  have d : PyData.depth (.list (js.map pT)) ≤ 64 := by
    show PyData.depthAll (js.map pT) + 1 ≤ 64
    omega
  rw [c, decide_eq_true d]
  rfl
theorem rc_min2 {i j : Int} : RCD (fun xs H Q => ∃ i j, xs = [V.int i, V.int j] ∧ Q (V.int (if j < i then j else i)) H) [.int i, .int j] (.int (if j < i then j else i)) := fun H H1 vs e h Q q => by
  obtain ⟨v, w, rfl, a, b⟩ := tp2 h
  cases a
  cases b
  exact ⟨i, j, rfl, q _ H1 (Ex.refl H1) (.int _)⟩
theorem ed_neg1 {σ : L2.St} {H : Hp} : EvD (tUn (rU fun i => .int (-i)) (tC (.int 1))) σ H (.int (-1)) := fun H1 e Q q => ⟨1, rfl, q _ H1 (Ex.refl H1) (.int _)⟩
section
variable {P : Program} {w : World} {K : PySem.W.Frag} {mg : Str → Option Value} {base : Heap}
end
end K50
set_option maxHeartbeats 4000000
namespace Lz
open PySem
open Sem (wp)
section
variable {prog : Program} {w : World} {A : Around} {E : Value → Shared → Prop} {s : Shared} {z TI TO T i1 i2 : Addr} {fp1 fp2 : List Addr} {n1 n2 i : Nat} {P1 P2 : Nat → Value → Prop} {St1 St2 : Nat → Heap → Prop} {f : Bool} {oT : Obj}
/-! ### a zip's next pair, the one ahead being held -/
theorem held_item {Q : Value → Shared → Prop} (S : ZipSep2 z TI TO i1 i2 fp1 fp2) (D1 : Draws prog w A i1 fp1 n1 P1 St1) (D2 : Draws prog w A i2 fp2 n2 P2 St2)
    (hz : IsZipHeld s.heap z TI TO T f) (hT : s.heap.get? T = some oT) (hTI : IsTupOf2 s.heap TI (.ref i1) (.ref i2)) (st1 : St1 i s.heap) (st2 : St2 i s.heap) (hlt1 : i < n1) (hlt2 : i < n2)
    (hQ : ∀ x1 x2 h' tk, P1 i x1 → P2 i x2 → IsZipHeld h' z TI TO T true → St1 (i + 1) h' → St2 (i + 1) h' → IsTupOf2 h' s.heap.objs.size x1 x2 → h'.objs.size = s.heap.objs.size + 1 →
      (∀ c o, c ≠ z → c ≠ i1 → c ≠ i2 → s.heap.get? c = some o → h'.get? c = some o) → Q (.ref s.heap.objs.size) { s with heap := h', toks := tk }) :
    wpAny (model prog w) A (Builtin.«zip.__next__» ⟨[.ref z], []⟩) (fun fin s' => ∃ v, fin = .done (.ret v) ∧ Q v s') E s := by
  obtain ⟨hp, g, d, tk0, os⟩ := s
  show wpAny _ _ (field (.ref z) 2 >>= _) _ _ _
  refine wpAny_bind (wpAny_field hz rfl (x := .bool false) rfl ?_)
  show wpAny _ _ (field (.ref z) 3 >>= _) _ _ _
  refine wpAny_bind (wpAny_field hz rfl (x := .ref TI) rfl ?_)
  refine wpAny_bind (wpAny_seqItems hTI rfl ?_)
  show wpAny _ _ (Builtin.SmallTypes.ownedTupleIsFree (.ref z) >>= _) _ _ _
  refine wpAny_bind (wpAny_tupleHeld_zip hz hT fun g0 hz0 hs0 => ?_)
  replace hs0 : Heap.SameBut z hp g0 := hs0
  simp only [Bool.false_eq_true, if_false]
  refine wpAny_bind ?_
  rw [← Array.forIn_toList]
  simp only [List.forIn_cons, List.forIn_nil]
  refine wpAny_bind (wpAny_bind (wpAny_holding ?_))
  show wpAny _ _ (Builtin.SmallTypes.nextOf (.ref i1) >>= _) _ _ ⟨g0, g, d, tk0, os⟩
  refine wpAny_bind (D1.item i _ _ _ hlt1 (D1.over st1 hs0 S.zf1) fun x1 p1 tk1 hx1 sn1 hp1 => wpAny_pure ?_)
  replace hp1 : Heap.SameBut i1 g0 p1 := hp1
  refine wpAny_pure ?_
  refine wpAny_bind (wpAny_bind (wpAny_holding ?_))
  show wpAny _ _ (Builtin.SmallTypes.nextOf (.ref i2) >>= _) _ _ ⟨p1, g, d, tk1, os⟩
  refine wpAny_bind (D2.item i _ _ _ hlt2 (D2.over (D2.over st2 hs0 S.zf2) hp1 S.sep1_2) fun x2 p2 tk2 hx2 sn2 hp2 => wpAny_pure ?_)
  replace hp2 : Heap.SameBut i2 p1 p2 := hp2
  refine wpAny_pure (wpAny_pure ?_)
  show wpAny _ _ (newTuple [x1, x2] >>= _) _ _ ⟨p2, g, d, tk2, os⟩
  refine wpAny_bind (wpAny_newTuple ?_)
  have hsz : p2.objs.size = hp.objs.size := by rw [hp2.1, hp1.1, hs0.1]
  have hzz : IsZipHeld p2 z TI TO T true := hp2.extBut _ _ S.zi2 (hp1.extBut _ _ S.zi1 hz0)
  have hkk : ∀ c o, c ≠ z → c ≠ i1 → c ≠ i2 → hp.get? c = some o → p2.get? c = some o := fun c o cz c1 c2 e => hp2.extBut _ _ c2 (hp1.extBut _ _ c1 (hs0.extBut _ _ cz e))
  have hj1 : St1 (i + 1) p2 := D1.over sn1 hp2 S.sep2_1
  refine wpAny_pure ⟨_, rfl, ?_⟩
  show Q (.ref p2.objs.size) _
  have hp3 : IsTupOf2 (p2.push { cls := .type "tuple", data := .seq #[x1, x2] }) p2.objs.size x1 x2 := Heap.get?_push_size _ rfl
  have hz4 : (p2.push { cls := .type "tuple", data := .seq #[x1, x2] }).objs.size = p2.objs.size + 1 := Heap.size_push ..
  rw [hsz] at hp3 hz4 ⊢
  exact hQ x1 x2 _ tk2 hx1 hx2 (Heap.get?_push_of_some _ hzz) (D1.frame _ _ _ hj1 fun b _ o e => Heap.get?_push_of_some _ e) (D2.frame _ _ _ sn2 fun b _ o e => Heap.get?_push_of_some _ e) hp3 hz4 fun c o cz c1 c2 e => Heap.get?_push_of_some _ (hkk c o cz c1 c2 e)
theorem held_end {Q : Fin → Shared → Prop} (S : ZipSep2 z TI TO i1 i2 fp1 fp2) (D1 : Draws prog w A i1 fp1 n1 P1 St1) (hz : IsZipHeld s.heap z TI TO T f) (hT : s.heap.get? T = some oT) (hTI : IsTupOf2 s.heap TI (.ref i1) (.ref i2)) (st1 : St1 n1 s.heap)
    (hE : ∀ h' tk e, (∀ c o, c ≠ z → c ≠ i1 → c ≠ i2 → s.heap.get? c = some o → h'.get? c = some o) → (∃ o, h'.get? e = some o ∧ o.cls = .type "StopIteration") → E (.ref e) { s with heap := h', toks := tk }) :
    wpAny (model prog w) A (Builtin.«zip.__next__» ⟨[.ref z], []⟩) Q E s := by
  obtain ⟨hp, g, d, tk0, os⟩ := s
  show wpAny _ _ (field (.ref z) 2 >>= _) _ _ _
  refine wpAny_bind (wpAny_field hz rfl (x := .bool false) rfl ?_)
  show wpAny _ _ (field (.ref z) 3 >>= _) _ _ _
  refine wpAny_bind (wpAny_field hz rfl (x := .ref TI) rfl ?_)
  refine wpAny_bind (wpAny_seqItems hTI rfl ?_)
  show wpAny _ _ (Builtin.SmallTypes.ownedTupleIsFree (.ref z) >>= _) _ _ _
  refine wpAny_bind (wpAny_tupleHeld_zip hz hT fun g0 hz0 hs0 => ?_)
  replace hs0 : Heap.SameBut z hp g0 := hs0
  simp only [Bool.false_eq_true, if_false]
  refine wpAny_bind ?_
  rw [← Array.forIn_toList]
  simp only [List.forIn_cons, List.forIn_nil]
  refine wpAny_bind (wpAny_bind (wpAny_holding ?_))
  show wpAny _ _ (Builtin.SmallTypes.nextOf (.ref i1) >>= _) _ _ ⟨g0, g, d, tk0, os⟩
  refine wpAny_bind (D1.done ⟨g0, g, d, tk0, os⟩ _ _ (D1.over st1 hs0 S.zf1) fun q e hq he => ?_)
  replace hq : Heap.ExtBut i1 g0 q := hq
  exact hE q tk0 e (fun c o cz c1 c2 x => hq _ _ c1 (hs0.extBut _ _ cz x)) he
theorem next_held_item {Q : Option Value → Shared → Prop} (S : ZipSep2 z TI TO i1 i2 fp1 fp2) (D1 : Draws prog w A.in1 i1 fp1 n1 P1 St1) (D2 : Draws prog w A.in1 i2 fp2 n2 P2 St2)
    (hz : IsZipHeld s.heap z TI TO T f) (hT : s.heap.get? T = some oT) (hTI : IsTupOf2 s.heap TI (.ref i1) (.ref i2)) (st1 : St1 i s.heap) (st2 : St2 i s.heap) (hlt1 : i < n1) (hlt2 : i < n2)
    (hQ : ∀ x1 x2 h' tk, P1 i x1 → P2 i x2 → IsZipHeld h' z TI TO T true → St1 (i + 1) h' → St2 (i + 1) h' → IsTupOf2 h' s.heap.objs.size x1 x2 → h'.objs.size = s.heap.objs.size + 1 →
      (∀ c o, c ≠ z → c ≠ i1 → c ≠ i2 → s.heap.get? c = some o → h'.get? c = some o) → Q (some (.ref s.heap.objs.size)) { s with heap := h', toks := tk }) :
    wpAny (model prog w) A (pyNext (.ref z)) Q E s := by
  have hTy : s.TypeIs (.ref z) "zip" := ⟨_, hz, rfl⟩
  unfold pyNext
  exact wpAny_bind (wpAny_attempt (wpAny_callSpecial?_slot (name := Str.ofString "__next__") hTy F.slot_zip_next
    (wpAny_call_entry F.slot_zip_next hTy F.entry_zip_next
      (held_item S D1 D2 hz hT hTI st1 st2 hlt1 hlt2 fun x1 x2 h' tk a1 a2 a3 a4 a5 a6 a7 a8 => wpAny_pure (hQ x1 x2 h' tk a1 a2 a3 a4 a5 a6 a7 a8)) (F.args_zip_next_1 _))))
theorem next_held_end {Q : Option Value → Shared → Prop} (S : ZipSep2 z TI TO i1 i2 fp1 fp2) (D1 : Draws prog w A.in1 i1 fp1 n1 P1 St1) (hz : IsZipHeld s.heap z TI TO T f) (hT : s.heap.get? T = some oT) (hTI : IsTupOf2 s.heap TI (.ref i1) (.ref i2)) (st1 : St1 n1 s.heap)
    (hQ : ∀ h' tk, (∀ c o, c ≠ z → c ≠ i1 → c ≠ i2 → s.heap.get? c = some o → h'.get? c = some o) → Q none { s with heap := h', toks := tk }) :
    wpAny (model prog w) A (pyNext (.ref z)) Q E s := by
  have hTy : s.TypeIs (.ref z) "zip" := ⟨_, hz, rfl⟩
  unfold pyNext
  refine wpAny_bind (wpAny_attempt (wpAny_callSpecial?_slot (name := Str.ofString "__next__") hTy F.slot_zip_next
    (wpAny_call_entry F.slot_zip_next hTy F.entry_zip_next (held_end S D1 hz hT hTI st1 fun h' tk e hk he => ?_) (F.args_zip_next_1 _))))
  obtain ⟨o, ho, hc⟩ := he
  refine wpAny_bind (wpAny_isInstance (T := "StopIteration") (b := true) ⟨o, ho, hc⟩ isSubtype_stop ?_)
  exact wpAny_pure (hQ _ _ hk)
end
/-! ### list(zip(..)) -/
theorem zip_no_len : typeLookup (.type "zip") "__len__" = pure none := by rw [typeLookup_type, builtinLookup_eq_fast]; kernel_rfl
theorem zip_no_hint : typeLookup (.type "zip") "__length_hint__" = pure none := by rw [typeLookup_type, builtinLookup_eq_fast]; kernel_rfl
abbrev lstO (acc : Array Value) (c : Nat) : Obj := { cls := .type "list", dict := none, data := .seq acc c, slots := #[] }
/-- so many pairs made so far: the tuples at Ts -/
structure Got (P1 P2 : Nat → Value → Prop) (h : Heap) (N : Nat) (Ts : List Addr) (acc : Array Value) (m : Nat) : Prop where
  len : Ts.length = m
  acc : acc.toList = Ts.map Value.ref
  above : ∀ T ∈ Ts, N ≤ T
  inc : Ts.Pairwise (· < ·)
  lt : ∀ T ∈ Ts, T < h.objs.size
  at_ : ∀ j T, Ts[j]? = some T → ∃ x y, P1 j x ∧ P2 j y ∧ IsTupOf2 h T x y
theorem Got.snoc {P1 P2 : Nat → Value → Prop} {h h' : Heap} {N m : Nat} {Ts : List Addr} {acc : Array Value} {x y : Value} (g : Got P1 P2 h N Ts acc m) (hN : N ≤ h.objs.size) (k : ∀ T ∈ Ts, ∀ o, h.get? T = some o → h'.get? T = some o) (hs : h'.objs.size = h.objs.size + 1) (p1 : P1 m x) (p2 : P2 m y) (ht : IsTupOf2 h' h.objs.size x y) :
    Got P1 P2 h' N (Ts ++ [h.objs.size]) (acc.push (.ref h.objs.size)) (m + 1) where
  len := by rw [List.length_append, g.len]; rfl
  acc := by rw [Array.toList_push, g.acc, List.map_append]; rfl
  above := fun T hT => by
    rcases List.mem_append.mp hT with hT | hT
    · exact g.above T hT
    · rw [List.mem_singleton.mp hT]; exact hN
  inc := by
    refine List.pairwise_append.mpr ⟨g.inc, List.pairwise_singleton _ _, fun a ha b hb => ?_⟩
    rw [List.mem_singleton.mp hb]
    exact g.lt a ha
  lt := fun T hT => by
    rw [hs]
    rcases List.mem_append.mp hT with hT | hT
    · exact Nat.lt_succ_of_lt (g.lt T hT)
    · rw [List.mem_singleton.mp hT]; exact Nat.lt_succ_self _
  at_ := fun j T hj => by
    by_cases hlt : j < Ts.length
    · rw [List.getElem?_append_left hlt] at hj
      obtain ⟨x, y, a, b, c⟩ := g.at_ j T hj
      exact ⟨x, y, a, b, k T (List.mem_of_getElem? hj) _ c⟩
    · have hj2 := (List.getElem?_eq_some_iff.mp hj).1
      rw [List.length_append] at hj2
      have e : j = Ts.length := by simp at hj2; omega
      rw [e, List.getElem?_append_right (Nat.le_refl _), Nat.sub_self] at hj
      have : h.objs.size = T := by simpa using hj
      subst this
      rw [e, g.len]
      exact ⟨x, y, p1, p2, ht⟩
theorem Got.frame {P1 P2 : Nat → Value → Prop} {h h' : Heap} {N m : Nat} {Ts : List Addr} {acc : Array Value} (g : Got P1 P2 h N Ts acc m) (k : ∀ T ∈ Ts, ∀ o, h.get? T = some o → h'.get? T = some o) (hs : h.objs.size ≤ h'.objs.size) : Got P1 P2 h' N Ts acc m :=
  ⟨g.len, g.acc, g.above, g.inc, fun T hT => Nat.lt_of_lt_of_le (g.lt T hT) hs, fun j T hj => by
    obtain ⟨x, y, a, b, c⟩ := g.at_ j T hj
    exact ⟨x, y, a, b, k T (List.mem_of_getElem? hj) _ c⟩⟩
section
variable {prog : Program} {w : World} {A : Around} {z TI TO i1 i2 : Addr} {fp1 fp2 : List Addr} {n : Nat} {P1 P2 : Nat → Value → Prop} {St1 St2 : Nat → Heap → Prop} {R : Result → Shared → Prop}
theorem zip_loop (Z : ZipSep2 z TI TO i1 i2 fp1 fp2) (D1 : Draws prog w A.in1.in1 i1 fp1 n P1 St1) (D2 : Draws prog w A.in1.in1 i2 fp2 n P2 St2) (hn : n ≤ sizeLine) (S N : Addr) (hSz : S ≠ z) (hSI : S ≠ TI) (hS1 : S ∉ fp1) (hS2 : S ∉ fp2) (hNz : z < N) (hNI : TI < N) (hN1 : i1 < N) (hN2 : i2 < N) (hNS : S < N) (res : Value) :
    ∀ (k i : Nat) (s : Shared) (acc : Array Value) (c : Nat) (Ts : List Addr) (T : Addr) (f : Bool), n - i = k → i ≤ n → N ≤ s.heap.objs.size → IsZipHeld s.heap z TI TO T f → T ∈ Ts → IsTupOf2 s.heap TI (.ref i1) (.ref i2) → St1 i s.heap → St2 i s.heap → s.heap.get? S = some (lstO acc c) → Got P1 P2 s.heap N Ts acc i →
    (∀ h' tk acc' c' Ts', (∀ b o, b ≠ z → b ≠ i1 → b ≠ i2 → b ≠ S → s.heap.get? b = some o → h'.get? b = some o) → h'.get? S = some (lstO acc' c') → Got P1 P2 h' N Ts' acc' n → R (.ok (.ret res)) { s with heap := h', toks := tk }) →
    codeAny (model prog w) A (.builtin "list.extend.loop" ⟨[.ref S, .ref z, res], []⟩) R s := by
  have hSi1 : S ≠ i1 := fun e => hS1 (by rw [e]; exact Z.mem1)
  have hSi2 : S ≠ i2 := fun e => hS2 (by rw [e]; exact Z.mem2)
  intro k
  induction k with
  | zero =>
    intro i s acc c Ts T f hk hi hNs hz hTm hTI st1 st2 hS hG hR
    have hin : i = n := by omega
    subst hin
    obtain ⟨j, hj⟩ := List.mem_iff_getElem?.mp hTm
    obtain ⟨x, y, _, _, hT⟩ := hG.at_ j T hj
    refine codeAny_builtin F.entry_extend_loop ?_
    rw [Around.under_plainId F.plain_extend_loop _]
    show wpAny _ A.in1 (pyNext (.ref z) >>= _) _ _ s
    refine wpAny_bind (next_held_end (T := T) Z D1 hz hT hTI st1 fun h' tk hk' => ?_)
    have nT : ∀ T ∈ Ts, T ≠ z ∧ T ≠ i1 ∧ T ≠ i2 := fun T hT => by
      have := hG.above T hT
      exact ⟨Nat.ne_of_gt (Nat.lt_of_lt_of_le hNz this), Nat.ne_of_gt (Nat.lt_of_lt_of_le hN1 this), Nat.ne_of_gt (Nat.lt_of_lt_of_le hN2 this)⟩
    exact wpAny_pure (hR h' tk acc c Ts (fun b o a1 a2 a3 _ e => hk' b o a1 a2 a3 e) (hk' S _ hSz hSi1 hSi2 hS) ⟨hG.len, hG.acc, hG.above, hG.inc, fun T hT => by
      obtain ⟨j, hj⟩ := List.mem_iff_getElem?.mp hT
      obtain ⟨x, y, _, _, c⟩ := hG.at_ j T hj
      obtain ⟨a1, a2, a3⟩ := nT T hT
      exact Heap.lt_size (hk' T _ a1 a2 a3 c), fun j T hj => by
      obtain ⟨x, y, a, b, c⟩ := hG.at_ j T hj
      obtain ⟨a1, a2, a3⟩ := nT T (List.mem_of_getElem? hj)
      exact ⟨x, y, a, b, hk' T _ a1 a2 a3 c⟩⟩)
  | succ k ih =>
    intro i s acc c Ts T f hk hi hNs hz hTm hTI st1 st2 hS hG hR
    have hlt : i < n := by omega
    obtain ⟨j, hj⟩ := List.mem_iff_getElem?.mp hTm
    obtain ⟨x, y, _, _, hT⟩ := hG.at_ j T hj
    have hasz : acc.size = i := by
      have := congrArg List.length hG.acc
      rw [List.length_map, hG.len] at this
      simpa using this
    have nT : ∀ T ∈ Ts, T ≠ z ∧ T ≠ i1 ∧ T ≠ i2 ∧ T ≠ S := fun T hT => by
      have := hG.above T hT
      exact ⟨Nat.ne_of_gt (Nat.lt_of_lt_of_le hNz this), Nat.ne_of_gt (Nat.lt_of_lt_of_le hN1 this), Nat.ne_of_gt (Nat.lt_of_lt_of_le hN2 this), Nat.ne_of_gt (Nat.lt_of_lt_of_le hNS this)⟩
    refine codeAny_builtin F.entry_extend_loop ?_
    rw [Around.under_plainId F.plain_extend_loop _]
    show wpAny _ A.in1 (pyNext (.ref z) >>= _) _ _ s
    refine wpAny_bind (next_held_item (T := T) Z D1 D2 hz hT hTI st1 st2 hlt hlt fun x1 x2 h' tk p1 p2 hz' st1' st2' hT' hsz hk' => ?_)
    have hS' := hk' S _ hSz hSi1 hSi2 hS
    have hG1 := hG.snoc hNs (fun T hT o e => hk' T o (nT T hT).1 (nT T hT).2.1 (nT T hT).2.2.1 e) hsz p1 p2 hT'
    have hTI' := hk' TI _ Z.TIz Z.TIi1 Z.TIi2 hTI
    show wpAny _ A.in1 (updateSeq S (·.push (.ref s.heap.objs.size)) >>= _) _ _ { s with heap := h', toks := tk }
    refine wpAny_bind ?_
    have oth : ∀ b o, b ≠ S → h'.get? b = some o → (h'.update S (Obj.mapSeq (·.push (Value.ref s.heap.objs.size)))).get? b = some o := fun b o hb e => (Heap.get?_update_other _ _ (Ne.symm hb)).trans e
    have hsu : (h'.update S (Obj.mapSeq (·.push (Value.ref s.heap.objs.size)))).objs.size = h'.objs.size := (Heap.SameBut.update (a := S) ..).1
    have hSN : (s.heap.objs.size : Nat) ≠ S := Nat.ne_of_gt (Nat.lt_of_lt_of_le hNS hNs)
    refine wpAny_updateSeq hS' rfl (wpAny_pure ⟨plainId_quiet F.plain_extend_loop _, ih (i + 1) { s with heap := h'.update S (Obj.mapSeq (·.push (Value.ref s.heap.objs.size))), toks := tk } (acc.push (.ref s.heap.objs.size)) _ (Ts ++ [s.heap.objs.size]) T true (by omega) hlt ?_ (oth _ _ (Ne.symm hSz) hz') (List.mem_append_left _ hTm) (oth _ _ (Ne.symm hSI) hTI') (D1.frame _ _ _ st1' fun b hb o e => oth b o (fun q => hS1 (q ▸ hb)) e) (D2.frame _ _ _ st2' fun b hb o e => oth b o (fun q => hS2 (q ▸ hb)) e)
        (Heap.get?_update_self _ hS' rfl) (hG1.frame (fun T hT o e => oth T o ?_ e) (Nat.le_of_eq hsu.symm)) fun h2 tk2 acc' c' Ts' a1 a2 a3 => ?_⟩)
      (by rw [hasz]; omega) (by show (acc.push _).size ≤ sizeLine + 1; rw [Array.size_push, hasz]; omega)
    · show N ≤ _
      rw [show (({ s with heap := h'.update S (Obj.mapSeq (·.push (Value.ref s.heap.objs.size))), toks := tk } : Shared).heap.objs.size) = h'.objs.size from hsu, hsz]
      exact Nat.le_succ_of_le hNs
    · rcases List.mem_append.mp hT with hT | hT
      · exact (nT T hT).2.2.2
      · rw [List.mem_singleton.mp hT]; exact hSN
    · exact hR h2 tk2 acc' c' Ts' (fun b o b1 b2 b3 b4 e => a1 b o b1 b2 b3 b4 (oth b o b4 (hk' b o b1 b2 b3 e))) a2 a3
end
end Lz
set_option maxHeartbeats 4000000
namespace Lz
open PySem
open Sem (wp)
section
variable {prog : Program} {w : World} {A : Around} {z TI TO i1 i2 : Addr} {fp1 fp2 : List Addr} {n : Nat} {P1 P2 : Nat → Value → Prop} {St1 St2 : Nat → Heap → Prop} {R : Result → Shared → Prop} {a1 a2 : Value}
theorem zip_loop0 (Z : ZipSep2 z TI TO i1 i2 fp1 fp2) (D1 : Draws prog w A.in1.in1 i1 fp1 n P1 St1) (D2 : Draws prog w A.in1.in1 i2 fp2 n P2 St2) (hn : n ≤ sizeLine) (h0 : 0 < n) (S N : Addr) (hSz : S ≠ z) (hSI : S ≠ TI) (hSO : S ≠ TO) (hS1 : S ∉ fp1) (hS2 : S ∉ fp2) (hNz : z < N) (hNI : TI < N) (hN1 : i1 < N) (hN2 : i2 < N) (hNS : S < N) (res : Value)
    (s : Shared) (c : Nat) (hNs : N ≤ s.heap.objs.size) (hz : IsZip s.heap z TI TO .none) (hTI : IsTupOf2 s.heap TI (.ref i1) (.ref i2)) (hTO : IsTupOf2 s.heap TO a1 a2) (st1 : St1 0 s.heap) (st2 : St2 0 s.heap) (hS : s.heap.get? S = some (lstO #[] c))
    (hR : ∀ h' tk acc' c' Ts', (∀ b o, b ≠ z → b ≠ TO → b ≠ i1 → b ≠ i2 → b ≠ S → s.heap.get? b = some o → h'.get? b = some o) → h'.get? S = some (lstO acc' c') → Got P1 P2 h' N Ts' acc' n → R (.ok (.ret res)) { s with heap := h', toks := tk }) :
    codeAny (model prog w) A (.builtin "list.extend.loop" ⟨[.ref S, .ref z, res], []⟩) R s := by
  have hSi1 : S ≠ i1 := fun e => hS1 (by rw [e]; exact Z.mem1)
  have hSi2 : S ≠ i2 := fun e => hS2 (by rw [e]; exact Z.mem2)
  have hG : Got P1 P2 s.heap N [] #[] 0 := ⟨rfl, rfl, (fun T hT => nomatch hT), List.Pairwise.nil, (fun T hT => nomatch hT), fun j T hj => by simp at hj⟩
  refine codeAny_builtin F.entry_extend_loop ?_
  rw [Around.under_plainId F.plain_extend_loop _]
  show wpAny _ A.in1 (pyNext (.ref z) >>= _) _ _ s
  refine wpAny_bind (wpAny_pyNext_zipD2_item Z D1 D2 hz hTI hTO st1 st2 h0 h0 fun x1 x2 h' tk p1 p2 hz' _ st1' st2' hT' hsz hk' => ?_)
  have hS' := hk' S _ hSz hSO hSi1 hSi2 hS
  have hG1 := hG.snoc hNs (fun T hT o e => nomatch hT) hsz p1 p2 hT'
  have hTI' := hk' TI _ Z.TIz Z.TITO Z.TIi1 Z.TIi2 hTI
  show wpAny _ A.in1 (updateSeq S (·.push (.ref s.heap.objs.size)) >>= _) _ _ { s with heap := h', toks := tk }
  refine wpAny_bind ?_
  have oth : ∀ b o, b ≠ S → h'.get? b = some o → (h'.update S (Obj.mapSeq (·.push (Value.ref s.heap.objs.size)))).get? b = some o := fun b o hb e => (Heap.get?_update_other _ _ (Ne.symm hb)).trans e
  have hsu : (h'.update S (Obj.mapSeq (·.push (Value.ref s.heap.objs.size)))).objs.size = h'.objs.size := (Heap.SameBut.update (a := S) ..).1
  have hSN : (s.heap.objs.size : Nat) ≠ S := Nat.ne_of_gt (Nat.lt_of_lt_of_le hNS hNs)
  refine wpAny_updateSeq hS' rfl (wpAny_pure ⟨plainId_quiet F.plain_extend_loop _, zip_loop Z D1 D2 hn S N hSz hSI hS1 hS2 hNz hNI hN1 hN2 hNS res (n - 1) 1 { s with heap := h'.update S (Obj.mapSeq (·.push (Value.ref s.heap.objs.size))), toks := tk } (#[].push (.ref s.heap.objs.size)) _ ([] ++ [s.heap.objs.size]) s.heap.objs.size false rfl h0 ?_ (oth _ _ (Ne.symm hSz) hz') (List.mem_append_right _ (List.mem_singleton.mpr rfl)) (oth _ _ (Ne.symm hSI) hTI') (D1.frame _ _ _ st1' fun b hb o e => oth b o (fun q => hS1 (q ▸ hb)) e) (D2.frame _ _ _ st2' fun b hb o e => oth b o (fun q => hS2 (q ▸ hb)) e)
      (Heap.get?_update_self _ hS' rfl) (hG1.frame (fun T hT o e => oth T o ?_ e) (Nat.le_of_eq hsu.symm)) fun h2 tk2 acc' c' Ts' a1 a2 a3 => ?_⟩)
    (by simp) (by simp)
  · show N ≤ _
    rw [show (({ s with heap := h'.update S (Obj.mapSeq (·.push (Value.ref s.heap.objs.size))), toks := tk } : Shared).heap.objs.size) = h'.objs.size from hsu, hsz]
    exact Nat.le_succ_of_le hNs
  · rcases List.mem_append.mp hT with hT | hT
    · exact nomatch hT
    · rw [List.mem_singleton.mp hT]; exact hSN
  · exact hR h2 tk2 acc' c' Ts' (fun b o b1 bO b2 b3 b4 e => a1 b o b1 b2 b3 b4 (oth b o b4 (hk' b o b1 bO b2 b3 e))) a2 a3
theorem zip_extend (Z : ZipSep2 z TI TO i1 i2 fp1 fp2) (D1 : Draws prog w A.in1.in1 i1 fp1 n P1 St1) (D2 : Draws prog w A.in1.in1 i2 fp2 n P2 St2) (hn : n ≤ sizeLine) (h0 : 0 < n) (S N : Addr) (hSz : S ≠ z) (hSI : S ≠ TI) (hSO : S ≠ TO) (hS1 : S ∉ fp1) (hS2 : S ∉ fp2) (hNz : z < N) (hNI : TI < N) (hN1 : i1 < N) (hN2 : i2 < N) (hNS : S < N) (res : Value)
    (s : Shared) (c : Nat) (hNs : N ≤ s.heap.objs.size) (hz : IsZip s.heap z TI TO .none) (hTI : IsTupOf2 s.heap TI (.ref i1) (.ref i2)) (hTO : IsTupOf2 s.heap TO a1 a2) (st1 : St1 0 s.heap) (st2 : St2 0 s.heap) (hS : s.heap.get? S = some (lstO #[] c))
    (hR : ∀ h' tk acc' c' Ts', (∀ b o, b ≠ z → b ≠ TO → b ≠ i1 → b ≠ i2 → b ≠ S → s.heap.get? b = some o → h'.get? b = some o) → h'.get? S = some (lstO acc' c') → Got P1 P2 h' N Ts' acc' n → R (.ok (.ret res)) { s with heap := h', toks := tk }) :
    wpAny (model prog w) A.in1 (Builtin.List.listExtendWith (.ref S) (.ref z) res)
      (fun fin s' => match fin with | .done f => R (.ok f) s' | .again c' => c'.quiet = true ∧ codeAny (model prog w) A c' R s') (fun e s' => R (.error e) s') s := by
  have hT : s.TypeIs (.ref z) "zip" := ⟨_, hz, rfl⟩
  unfold Builtin.List.listExtendWith
  refine wpAny_bind (wpAny_typeOf hT ?_)
  have h1 : Builtin.List.listSameRef (.ref S) (.ref z) = false := by simp [Builtin.List.listSameRef, hSz]
  have h2 : (Value.type "zip" == Value.type "list") = false := by decide
  have h3 : (Value.type "zip" == Value.type "tuple") = false := by decide
  simp only [h1, h2, h3, Bool.or_false, Bool.false_eq_true, if_false]
  refine wpAny_bind (wpAny_pyIter_zip hz ?_)
  refine wpAny_bind (wpAny_holding ?_)
  unfold Builtin.List.listLengthHint
  refine wpAny_bind (wpAny_specialOf hT zip_no_len ?_)
  show wpAny _ A.in1 (specialOf (Value.ref z) (Str.ofString "__length_hint__") >>= _) _ _ _
  refine wpAny_bind (wpAny_specialOf hT zip_no_hint ?_)
  refine wpAny_pure ?_
  show wpAny _ A.in1 (rule "list.extend.makes-room" >>= fun _ => Builtin.List.listTouch (.ref S) >>= fun _ =>
    again (.builtin "list.extend.loop" ⟨[.ref S, .ref z, res], []⟩)) _ _ _
  refine wpAny_bind (wpAny_rule ?_)
  refine wpAny_bind ?_
  show wpAny _ A.in1 (updateSeq S (·.push .none) >>= fun _ => updateSeq S (·.pop)) _ _ _
  refine wpAny_bind (wpAny_updateSeq hS rfl ?_)
  have hS₂ := Heap.get?_update_self (Obj.mapSeq (·.push Value.none)) hS rfl
  refine wpAny_updateSeq (hz := by seq_fits) hS₂ rfl ?_
  have hS₃ := Heap.get?_update_self (Obj.mapSeq (·.pop)) hS₂ rfl
  have oth : ∀ b o, b ≠ S → s.heap.get? b = some o → ((s.heap.update S (Obj.mapSeq (·.push Value.none))).update S (Obj.mapSeq (·.pop))).get? b = some o :=
    fun b o hb e => (Heap.get?_update_other _ _ (Ne.symm hb)).trans ((Heap.get?_update_other _ _ (Ne.symm hb)).trans e)
  have hsu : ((s.heap.update S (Obj.mapSeq (·.push Value.none))).update S (Obj.mapSeq (·.pop))).objs.size = s.heap.objs.size := by
    rw [(Heap.SameBut.update (a := S) ..).1, (Heap.SameBut.update (a := S) ..).1]
  refine wpAny_pure ⟨plainId_quiet F.plain_extend_loop _, zip_loop0 Z D1 D2 hn h0 S N hSz hSI hSO hS1 hS2 hNz hNI hN1 hN2 hNS res _ _ (by show N ≤ _; rw [show (({ s with heap := (s.heap.update S (Obj.mapSeq (·.push Value.none))).update S (Obj.mapSeq (·.pop)) } : Shared).heap.objs.size) = s.heap.objs.size from hsu]; exact hNs) (oth _ _ (Ne.symm hSz) hz) (oth _ _ (Ne.symm hSI) hTI) (oth _ _ (Ne.symm hSO) hTO)
    (D1.frame _ _ _ st1 fun b hb o e => oth b o (fun h => hS1 (h ▸ hb)) e) (D2.frame _ _ _ st2 fun b hb o e => oth b o (fun h => hS2 (h ▸ hb)) e) hS₃ fun h' tk acc' c' Ts' hk hS' hg => ?_⟩
  exact hR h' tk acc' c' Ts' (fun b o b1 bO b2 b3 b4 e => hk b o b1 bO b2 b3 b4 (oth b o b4 e)) hS' hg
theorem zip_init (Z : ZipSep2 z TI TO i1 i2 fp1 fp2) (D1 : Draws prog w A.in1.in1 i1 fp1 n P1 St1) (D2 : Draws prog w A.in1.in1 i2 fp2 n P2 St2) (hn : n ≤ sizeLine) (h0 : 0 < n) (S N : Addr) (hSz : S ≠ z) (hSI : S ≠ TI) (hSO : S ≠ TO) (hS1 : S ∉ fp1) (hS2 : S ∉ fp2) (hNz : z < N) (hNI : TI < N) (hN1 : i1 < N) (hN2 : i2 < N) (hNS : S < N)
    (s : Shared) (hNs : N ≤ s.heap.objs.size) (hz : IsZip s.heap z TI TO .none) (hTI : IsTupOf2 s.heap TI (.ref i1) (.ref i2)) (hTO : IsTupOf2 s.heap TO a1 a2) (st1 : St1 0 s.heap) (st2 : St2 0 s.heap) (hS : s.heap.get? S = some { cls := .type "list", data := .seq #[] })
    (hR : ∀ h' tk acc' c' Ts', (∀ b o, b ≠ z → b ≠ TO → b ≠ i1 → b ≠ i2 → b ≠ S → s.heap.get? b = some o → h'.get? b = some o) → h'.get? S = some (lstO acc' c') → Got P1 P2 h' N Ts' acc' n → R (.ok (.ret .none)) { s with heap := h', toks := tk }) :
    wpAny (model prog w) A.in1 (Builtin.«list.__init__» ⟨[.ref S, .ref z], []⟩)
      (fun fin s' => match fin with | .done f => R (.ok f) s' | .again c' => c'.quiet = true ∧ codeAny (model prog w) A c' R s') (fun e s' => R (.error e) s') s := by
  show wpAny _ A.in1 (do let old ← Builtin.List.listItems (.ref S); Builtin.List.listUpdate (.ref S) (fun _ => #[]); letGo old.toList.reverse; Builtin.List.listExtendWith (.ref S) (.ref z) .none) _ _ s
  refine wpAny_bind ?_
  unfold Builtin.List.listItems
  refine wpAny_bind (wpAny_seqItems hS rfl (wpAny_pure ?_))
  show wpAny _ A.in1 (updateSeq S (fun _ => #[]) >>= fun _ => letGo (#[] : Array Value).toList.reverse >>= fun _ => Builtin.List.listExtendWith (.ref S) (.ref z) .none) _ _ s
  refine wpAny_bind (wpAny_updateSeq hS rfl ?_)
  have hS₂ := Heap.get?_update_self (Obj.mapSeq (fun _ => (#[] : Array Value))) hS rfl
  have oth : ∀ b o, b ≠ S → s.heap.get? b = some o → (s.heap.update S (Obj.mapSeq (fun _ => (#[] : Array Value)))).get? b = some o :=
    fun b o hb e => (Heap.get?_update_other _ _ (Ne.symm hb)).trans e
  have hsu : (s.heap.update S (Obj.mapSeq (fun _ => (#[] : Array Value)))).objs.size = s.heap.objs.size := (Heap.SameBut.update (a := S) ..).1
  refine wpAny_bind (wpAny_letGo ?_)
  refine zip_extend Z D1 D2 hn h0 S N hSz hSI hSO hS1 hS2 hNz hNI hN1 hN2 hNS .none _ _ (by show N ≤ _; rw [show (({ s with heap := s.heap.update S (Obj.mapSeq (fun _ => (#[] : Array Value))) } : Shared).heap.objs.size) = s.heap.objs.size from hsu]; exact hNs) (oth _ _ (Ne.symm hSz) hz) (oth _ _ (Ne.symm hSI) hTI) (oth _ _ (Ne.symm hSO) hTO)
    (D1.frame _ _ _ st1 fun b hb o e => oth b o (fun h => hS1 (h ▸ hb)) e) (D2.frame _ _ _ st2 fun b hb o e => oth b o (fun h => hS2 (h ▸ hb)) e) hS₂ fun h' tk acc' c' Ts' hk hS' hg => ?_
  exact hR h' tk acc' c' Ts' (fun b o b1 bO b2 b3 b4 e => hk b o b1 bO b2 b3 b4 (oth b o b4 e)) hS' hg
end
section
variable {prog : Program} {w : World} {A : Around} {E : Value → Shared → Prop} {s : Shared} {z TI TO i1 i2 : Addr} {fp1 fp2 : List Addr} {n : Nat} {P1 P2 : Nat → Value → Prop} {St1 St2 : Nat → Heap → Prop} {a1 a2 : Value}
theorem call_list_zip {Q : Value → Shared → Prop} (Z : ZipSep2 z TI TO i1 i2 fp1 fp2) (D1 : Draws prog w A.in1.in1.in1 i1 fp1 n P1 St1) (D2 : Draws prog w A.in1.in1.in1 i2 fp2 n P2 St2) (hn : n ≤ sizeLine) (h0 : 0 < n)
    (hf1 : ∀ b ∈ fp1, b < s.heap.objs.size) (hf2 : ∀ b ∈ fp2, b < s.heap.objs.size) (hz : IsZip s.heap z TI TO .none) (hTI : IsTupOf2 s.heap TI (.ref i1) (.ref i2)) (hTO : IsTupOf2 s.heap TO a1 a2) (st1 : St1 0 s.heap) (st2 : St2 0 s.heap)
    (hQ : ∀ h' tk acc' c' Ts', (∀ b o, b ≠ z → b ≠ TO → b ≠ i1 → b ≠ i2 → s.heap.get? b = some o → h'.get? b = some o) → h'.get? s.heap.objs.size = some (lstO acc' c') → Got P1 P2 h' (s.heap.objs.size + 1) Ts' acc' n → Q (.ref s.heap.objs.size) { s with heap := h', toks := tk }) :
    wpAny (model prog w) A (call (.type "list") [.ref z]) Q E s := by
  have lz := Heap.lt_size hz
  have lTI := Heap.lt_size hTI
  have lTO := Heap.lt_size hTO
  have l1 := hf1 _ Z.mem1
  have l2 := hf2 _ Z.mem2
  refine callType_codes (Q₁ := fun obj s₁ => obj = .ref s.heap.objs.size ∧ s₁ = { s with heap := s.heap.push { cls := .type "list", data := .seq #[] } }) F.called_list (F.typeCall_list_1 _) F.entry_list_init
    (code_list_new _ ⟨rfl, rfl⟩) fun obj s₁ h₁ => ?_
  obtain ⟨rfl, rfl⟩ := h₁
  have hS : (s.heap.push { cls := .type "list", data := .seq #[] }).get? s.heap.objs.size = some { cls := .type "list", data := .seq #[] } := Heap.get?_push_size _ rfl
  have up : ∀ b o, s.heap.get? b = some o → (s.heap.push { cls := .type "list", data := .seq #[] }).get? b = some o := fun b o e => Heap.get?_push_of_some _ e
  refine ⟨⟨_, hS, rfl⟩, F.args_list_init_2 _ _, zip_init (A := A.in1) (N := s.heap.objs.size + 1) Z D1 D2 hn h0 _ (Nat.ne_of_gt lz) (Nat.ne_of_gt lTI) (Nat.ne_of_gt lTO) (fun h => Nat.lt_irrefl _ (hf1 _ h)) (fun h => Nat.lt_irrefl _ (hf2 _ h)) (Nat.lt_succ_of_lt lz) (Nat.lt_succ_of_lt lTI) (Nat.lt_succ_of_lt l1) (Nat.lt_succ_of_lt l2) (Nat.lt_succ_self _)
    { s with heap := s.heap.push { cls := .type "list", data := .seq #[] } } (by show s.heap.objs.size + 1 ≤ (s.heap.push _).objs.size; rw [Heap.size_push]; exact Nat.le_refl _) (up _ _ hz) (up _ _ hTI) (up _ _ hTO) (D1.frame _ _ _ st1 fun b _ o e => up b o e) (D2.frame _ _ _ st2 fun b _ o e => up b o e) hS fun h' tk acc' c' Ts' hk hS' hg => ?_⟩
  exact ⟨rfl, hQ h' tk acc' c' Ts' (fun b o b1 bO b2 b3 e => hk b o b1 bO b2 b3 (Nat.ne_of_lt (Heap.lt_size e)) (up b o e)) hS' hg⟩
end
end Lz
set_option maxHeartbeats 4000000
namespace Lz
open PySem PySem.Spec PyProof.Rows L2 Evl
theorem look_at {β : Type} : ∀ {Ts : List Addr} {vs : List β} {j : Nat} {T : Addr} {v : β}, Ts.Pairwise (· < ·) → Ts[j]? = some T → vs[j]? = some v → (Ts.zip vs).lookup T = some v
  | [], _, _, _, _, _, h, _ => by simp at h
  | _ :: _, [], _, _, _, _, _, h => by simp at h
  | t :: Ts, u :: vs, 0, T, v, _, h, h' => by
    simp at h h'
    subst h h'
    simp [List.lookup]
  | t :: Ts, u :: vs, j + 1, T, v, p, h, h' => by
    have h2 : Ts[j]? = some T := by simpa using h
    have h3 : vs[j]? = some v := by simpa using h'
    have lt : t < T := (List.pairwise_cons.mp p).1 T (List.mem_of_getElem? h2)
    have e : (T == t) = false := by
      rw [beq_eq_false_iff_ne]
      exact Nat.ne_of_gt lt
    rw [List.zip_cons_cons, List.lookup_cons, e]
    exact look_at (List.pairwise_cons.mp p).2 h2 h3
theorem look_of {β : Type} : ∀ {Ts : List Addr} {vs : List β} {T : Addr} {v : β}, (Ts.zip vs).lookup T = some v → ∃ j : Nat, Ts[j]? = some T ∧ vs[j]? = some v
  | [], _, _, _, h => by simp at h
  | _ :: _, [], _, _, h => by simp at h
  | t :: Ts, u :: vs, T, v, h => by
    rw [List.zip_cons_cons, List.lookup_cons] at h
    cases e : (T == t) with
    | true =>
      rw [e] at h
      have e2 : T = t := eq_of_beq e
      subst e2
      exact ⟨0, rfl, by simpa using h⟩
    | false =>
      rw [e] at h
      obtain ⟨j, h1, h2⟩ := look_of h
      exact ⟨j + 1, by simpa using h1, by simpa using h2⟩
theorem look_no {β : Type} {Ts : List Addr} {vs : List β} {T : Addr} (h : T ∉ Ts) : (Ts.zip vs).lookup T = none := by
  cases q : (Ts.zip vs).lookup T with
  | none => rfl
  | some v =>
    obtain ⟨j, h1, _⟩ := look_of q
    exact absurd (List.mem_of_getElem? h1) h
theorem vals_refs : ∀ Ts : List Addr, Vals (Ts.map V.ref) (Ts.map Value.ref)
  | [] => .nil
  | _ :: Ts => .cons rfl (vals_refs Ts)
section
variable {X : Cx} {pins : List (Addr × Obj)} {σ : L2.St} {H : Hp} {s : Shared}
/-- where a list or a tuple is walked by a new iterator -/
theorem begun {a : Addr} {xs : List V} (I : Inv X pins σ H s) (hq : SqL X.K H a xs ∨ SqT X.K H a xs) : ∃ its : List Value, Vals xs its ∧ xs.length ≤ sizeLine ∧ a < s.heap.objs.size ∧ ∃ (o : Obj) (Hc : Heap → Prop), Begins (.ref a) o Hc ∧ Hc s.heap ∧
    ∀ (A : Around) (it : Addr), A.handled = none → a ≠ it → ∃ St : Nat → Heap → Prop, Draws X.prog X.w A it [it, a] its.length (fun j v => its[j]? = some v) St ∧ ∀ h : Heap, h.get? it = some o → (∀ b ob, s.heap.get? b = some ob → h.get? b = some ob) → St 0 h := by
  rcases hq with hq | hq
  · obtain ⟨its, rv, p, hz⟩ := I.list hq
    refine ⟨its, rv, hz, p.lt, _, _, begins_list a its.toArray, p.isList, fun A it hh hne => ⟨fun i h => h.IsListIter it a i ∧ h.IsList a its.toArray, ?_, fun h hi hk => ⟨⟨_, hi, rfl, rfl⟩, p.isList.at fun o e => hk a o e⟩⟩⟩
    have D := Draws.list (prog := X.prog) (w := X.w) (A := A) hh it a hne its.toArray
    simpa using D
  · obtain ⟨its, rv, p, hz⟩ := I.tuple hq
    have p' : s.heap.IsTuple a its.toArray := p
    obtain ⟨o1, ho1, _⟩ := id p
    refine ⟨its, rv, hz, Heap.lt_size ho1, _, _, begins_tuple a its.toArray, p', fun A it hh hne => ⟨fun i h => h.IsTupleIter it a i ∧ h.IsTuple a its.toArray, ?_, fun h hi hk => ⟨⟨_, hi, rfl, rfl⟩, p'.at fun o e => hk a o e⟩⟩⟩
    have D := Draws.tuple (prog := X.prog) (w := X.w) (A := A) hh it a hne its.toArray
    simpa using D
end
def tListZip (K : PySem.W.Frag) (ta : TA) : TE := fun σ H Q => ta σ H fun vs H1 => ∃ a b xs ys, vs = [.ref a, .ref b] ∧ (SqL K H1 a xs ∨ SqT K H1 a xs) ∧ (SqL K H1 b ys ∨ SqT K H1 b ys) ∧ xs.length = ys.length ∧ 0 < xs.length ∧
  ∀ (S : Addr) (Ts : List Addr) (H2 : Hp), Ex H1 H2 → H1 S = none → H2 S = some (.lst (Ts.map V.ref)) → Ts.length = xs.length → (∀ (j : Nat) T x y, Ts[j]? = some T → xs[j]? = some x → ys[j]? = some y → H1 T = none ∧ H2 T = some (.tup [x, y])) → Q (.ref S) H2
theorem pe_listZip {X : Cx} {e e2 : Expr} {ta : TA} {p p2 q pos : Pos} (hg : Gl X "list") (hm : X.mg "list" = none) (hg2 : Gl X "zip") (hm2 : X.mg "zip" = none) (ha : PA X [e, e2] ta) (hc : X.calm = true := by rfl)
    (hs : starEach [e, e2] X.env = (false, eval e X.env) :: starEach [e2] X.env := by rfl) (hpl : (backTo q (starEach [e2] X.env)).any (·.1) = false := by rfl)
    (na : starEach [.Call (.Name "zip" p2) [e, e2] [] q] X.env = (false, eval (.Call (.Name "zip" p2) [e, e2] [] q) X.env) :: starEach [] X.env := by rfl) :
    PE X (.Call (.Name "list" p) [.Call (.Name "zip" p2) [e, e2] [] q] [] pos) (tListZip X.K ta) := by
  refine ⟨fun pins s σ H Q I h => ?_⟩
  refine Call_ (ld_blt I hg hm PyProof.Rows.boot_list ?_)
  refine PyProof.Rows.callWith_type1 (PyProof.Rows.args_cons ?_ na) na rfl
  refine Call_ (ld_blt I hg2 hm2 PyProof.Rows.boot_zip (PyProof.Rows.callWith_type1 (thn (ha.run q pins s σ H _ I h) fun us s1 ⟨vs, H1, I1, r1, q1⟩ => ?_) hs hpl))
  obtain ⟨a, b, xs, ys, ex, hqx, hqy, hl, h0, q1⟩ := q1
  subst ex
  cases r1 with
  | cons r rr =>
    cases rr with
    | cons r' rr =>
      cases rr
      cases r
      cases r'
      have hh : X.A.handled = none := I1.ok.hd hc
      obtain ⟨its, rv, hz, la, o1, Hc1, B1, hb1, d1⟩ := begun I1 hqx
      obtain ⟨its2, rv2, hz2, lb, o2, Hc2, B2, hb2, d2⟩ := begun I1 hqy
      obtain ⟨St1, D1, k1⟩ := d1 X.A.in1.in1.in1 s1.heap.objs.size hh (Nat.ne_of_lt la)
      obtain ⟨St2, D2, k2⟩ := d2 X.A.in1.in1.in1 (s1.heap.objs.size + 1) hh (Nat.ne_of_lt (Nat.lt_succ_of_lt lb))
      have e1 : its.length = xs.length := rv.length.symm
      have e2 : its2.length = xs.length := by rw [hl]; exact rv2.length.symm
      rw [e1] at D1
      rw [e2] at D2
      have fa : ∀ c ∈ [a], c < s1.heap.objs.size := fun c hc => by rw [List.mem_singleton.mp hc]; exact la
      have fb : ∀ c ∈ [b], c < s1.heap.objs.size := fun c hc => by rw [List.mem_singleton.mp hc]; exact lb
      have Z := zip_sep2 (N := s1.heap.objs.size) fa fb
      refine zip_begins2 B1 B2 hb1 hb2 fun h' zz zTI zTO g1 g2 zs zk => ?_
      refine PyProof.Rows.args_nil ?_
      have zs' : ({ s1 with heap := h' } : Shared).heap.objs.size = s1.heap.objs.size + 5 := zs
      have up5 : ∀ {c k : Nat}, c < s1.heap.objs.size + k → k ≤ 5 → c < s1.heap.objs.size + 5 := fun h hk => Nat.lt_of_lt_of_le h (Nat.add_le_add_left hk _)
      refine call_list_zip (s := { s1 with heap := h' }) Z D1 D2 hz h0 (fun c hc => ?_) (fun c hc => ?_) zz zTI zTO (k1 h' g1 zk) (k2 h' g2 zk) fun h2 tk acc' c' Ts hk hS hG => ?_
      · rw [zs']
        rcases List.mem_cons.mp hc with z | z
        · rw [z]; exact Nat.lt_add_of_pos_right (by decide)
        · exact Nat.lt_add_right _ (fa c z)
      · rw [zs']
        rcases List.mem_cons.mp hc with z | z
        · rw [z]; exact Nat.add_lt_add_left (by decide) _
        · exact Nat.lt_add_right _ (fb c z)
      · rw [zs'] at hS hG ⊢
        have old : ∀ c o, s1.heap.get? c = some o → h2.get? c = some o := fun c o e => by
          have lc := Heap.lt_size e
          refine hk c o ?_ ?_ ?_ ?_ (zk c o e)
          · exact Nat.ne_of_lt (Nat.lt_add_right _ lc)
          · exact Nat.ne_of_lt (Nat.lt_add_right _ lc)
          · exact Nat.ne_of_lt lc
          · exact Nat.ne_of_lt (Nat.lt_add_right _ lc)
        let S : Addr := s1.heap.objs.size + 5
        have above : ∀ T ∈ Ts, s1.heap.objs.size + 5 < T := fun T hT => hG.above T hT
        have Hfresh : ∀ c, s1.heap.objs.size ≤ c → H1 c = none := fun c hc => I1.hok.fresh hc
        let H' : Hp := fun c => if c = S then some (.lst (Ts.map V.ref)) else match (Ts.zip (xs.zip ys)).lookup c with
          | some p => some (.tup [p.1, p.2])
          | none => H1 c
        have atS : H' S = some (.lst (Ts.map V.ref)) := if_pos rfl
        have low : ∀ c, c < s1.heap.objs.size → H' c = H1 c := fun c hc => by
          have n1 : c ≠ S := Nat.ne_of_lt (Nat.lt_add_right _ hc)
          have n2 : c ∉ Ts := fun hm => Nat.lt_irrefl _ (Nat.lt_trans (Nat.lt_of_lt_of_le hc (Nat.le_add_right _ 5)) (above c hm))
          show (if c = S then _ else _) = _
          rw [if_neg n1, look_no n2]
        have same : ∀ c u, H1 c = some u → H' c = some u := fun c u e => by
          have lc : c < s1.heap.objs.size := Nat.lt_of_not_le fun q => by rw [Hfresh c q] at e; cases e
          rw [low c lc]
          exact e
        have atT : ∀ (j : Nat) T x y, Ts[j]? = some T → xs[j]? = some x → ys[j]? = some y → H1 T = none ∧ H' T = some (.tup [x, y]) := fun j T x y h1 h2 h3 => by
          have aT := above T (List.mem_of_getElem? h1)
          refine ⟨Hfresh T (Nat.le_of_lt (Nat.lt_trans (Nat.lt_add_of_pos_right (by decide)) aT)), ?_⟩
          have n1 : T ≠ S := Nat.ne_of_gt aT
          have hxy : (xs.zip ys)[j]? = some (x, y) := by
            rw [List.getElem?_zip_eq_some]
            exact ⟨h2, h3⟩
          show (if T = S then _ else _) = _
          rw [if_neg n1, look_at hG.inc h1 hxy]
        have hTl : Ts.length = xs.length := hG.len
        have hok : HOk X.prog X.w H' h2 := fun c u e => by
          by_cases hc : c = S
          · subst hc
            rw [atS] at e
            cases e
            refine ⟨by rw [List.length_map, hTl]; exact hz, Ts.map Value.ref, c', vals_refs Ts, ?_⟩
            have e3 : acc' = (Ts.map Value.ref).toArray := by rw [← hG.acc]
            rw [← e3]
            exact hS
          · have e' : (match (Ts.zip (xs.zip ys)).lookup c with
              | some p => some (HO.tup [p.1, p.2])
              | none => H1 c) = some u := by
              have : H' c = some u := e
              have z : H' c = _ := if_neg hc
              rw [z] at this
              exact this
            cases q : (Ts.zip (xs.zip ys)).lookup c with
            | some pr =>
              rw [q] at e'
              cases e'
              obtain ⟨x, y⟩ := pr
              obtain ⟨j, hj, hp⟩ := look_of q
              rw [List.getElem?_zip_eq_some] at hp
              obtain ⟨u1, hu1, ru1⟩ := rv.get hp.1
              obtain ⟨u2, hu2, ru2⟩ := rv2.get hp.2
              obtain ⟨w1, w2, hw1, hw2, hT⟩ := hG.at_ j c hj
              have f1 : w1 = u1 := Option.some.inj (hw1.symm.trans hu1)
              have f2 : w2 = u2 := Option.some.inj (hw2.symm.trans hu2)
              subst f1 f2
              exact ⟨by show 2 ≤ sizeLine; decide, [w1, w2], .cons ru1 (.cons ru2 .nil), ⟨_, hT, rfl, _, rfl⟩⟩
            | none =>
              rw [q] at e'
              exact (I1.hok c u e').stay (fun d v _ z => old d v z) (fun d z => same d _ z) fun d zs z => same d _ z
        have un : Un X.fs [] H1 H' s1.heap h2 := ⟨fun c o e _ _ _ => old c o e, fun c o e _ _ _ => ⟨o.slots, old c o e⟩, fun c o e n _ => by rw [low c (Heap.lt_size e)]; exact n, fun c o e _ => ⟨o, old c o e⟩, fun c zs e => same c _ e, fun c o u e => same c _ e, fun c ps e => ⟨#[], by rw [same c _ e]; simp⟩⟩
        have I2 : Inv X pins σ H' { s1 with heap := h2, toks := tk } := I1.un un hok
        exact ⟨.ref S, H', I2, rfl, q1 S Ts H' (fun c o e => same c o e) (Hfresh _ (Nat.le_add_right _ 5)) atS hTl atT⟩
open Dl
theorem ed_listZip {K : PySem.W.Frag} {σ : L2.St} {H : Hp} {ta : TA} {x y : PyData} {ds es : List PyData} (hx : x = .list ds ∨ x = .tuple ds) (hy : y = .list es ∨ y = .tuple es) (hl : ds.length = es.length) (h0 : 0 < ds.length) (h : EvDs ta σ H [x, y]) : EvD (tListZip K ta) σ H (.list (zipD ds es)) := fun H1 e Q q => h H1 e _ fun vs H2 e2 hv => by
  have sq : ∀ {v : V} {z : PyData} {zs : List PyData}, (z = .list zs ∨ z = .tuple zs) → Tp (gr H H1 H2) v z → ∃ a vs, v = .ref a ∧ (SqL K H2 a vs ∨ SqT K H2 a vs) ∧ TpAll (gr H H1 H2) vs zs := fun hz t => by
    rcases hz with rfl | rfl
    · cases t with
      | lst ha hs => exact ⟨_, _, rfl, .inl (sq_of (gr_sub e e2 _ _ ha)), hs⟩
    · cases t with
      | tup ha hs => exact ⟨_, _, rfl, .inr (st_of (gr_sub e e2 _ _ ha)), hs⟩
  cases hv with
  | cons t1 hv =>
    cases hv with
    | cons t2 hv =>
      cases hv
      obtain ⟨a, vs, rfl, qa, ta1⟩ := sq hx t1
      obtain ⟨b, ws, rfl, qb, ta2⟩ := sq hy t2
      have l1 := dp_len ta1
      have l2 := dp_len ta2
      refine ⟨a, b, vs, ws, rfl, qa, qb, by omega, by omega, fun S Ts H3 e3 hS hS3 hTl hT => q _ H3 (e2.trans e3) (.lst (gr_new (fresh_back e2 hS) hS3) ?_)⟩
      have gg : Ex (gr H H1 H2) (gr H H1 H3) := gr_l e3
      have key : ∀ (Ts : List Addr) (vs ws : List V) (ds es : List PyData), Ts.length = vs.length → TpAll (gr H H1 H2) vs ds → TpAll (gr H H1 H2) ws es → ds.length = es.length → (∀ (j : Nat) T x y, Ts[j]? = some T → vs[j]? = some x → ws[j]? = some y → H2 T = none ∧ H3 T = some (.tup [x, y])) → TpAll (gr H H1 H3) (Ts.map V.ref) (zipD ds es) := by
        intro Ts
        induction Ts with
        | nil =>
          intro vs ws ds es hl1 h1 h2 hl2 _
          cases h1 with
          | nil => exact .nil
          | cons _ _ => simp at hl1
        | cons T Ts ih =>
          intro vs ws ds es hl1 h1 h2 hl2 hT
          cases h1 with
          | nil => simp at hl1
          | cons a1 t1 =>
            cases h2 with
            | nil => simp at hl2
            | cons a2 t2 =>
              obtain ⟨n1, n2⟩ := hT 0 T _ _ rfl rfl rfl
              refine .cons (.tup (gr_new (fresh_back e2 n1) n2) (.cons (Tp.ex gg _ _ a1) (.cons (Tp.ex gg _ _ a2) .nil))) (ih _ _ _ _ (by simpa using hl1) t1 t2 (by simpa using hl2) fun j T' x y h1 h2 h3 => hT (j + 1) T' x y (by simpa using h1) (by simpa using h2) (by simpa using h3))
      exact key Ts vs ws ds es hTl ta1 ta2 hl hT
end Lz
set_option maxHeartbeats 4000000
namespace Lz
open PySem
open Sem (wp)
theorem meets_enum1 {v : Value} {o : Obj} {H : Heap → Prop} (B : Begins v o H) :
    Meets (Builtin.«enumerate.__new__» ⟨[.type "enumerate", v], []⟩) (fun _ R s => H s.heap ∧
      R (.ok (.ret (.ref (s.heap.push o).objs.size))) { s with heap := (s.heap.push o).push { cls := .type "enumerate", data := .fields #[.none, .bool false, .ref s.heap.objs.size, rawInt 0, .none, .none] } }) :=
  .of_wp fun prog w A R s h => by
    obtain ⟨hp, g, d, tk, os⟩ := s; obtain ⟨h1, h⟩ := h
    have hsub := sub_enumerate
    have q1 : ∀ {A' : Around} {E : Value → Shared → Prop} {Q : Value → Shared → Prop}, Q (.ref hp.objs.size) ⟨hp.push o, g, d, tk, os⟩ → wpAny (model prog w) A' (pyIter v) Q E ⟨hp, g, d, tk, os⟩ :=
      fun q => B.iter prog w _ _ ⟨hp, g, d, tk, os⟩ _ h1 q
    wp_walk using q1
    refine wpAny_stack_any fun st => wpAny_pure ?_
    split
    · rename_i c _ _ _ _ _
      cases (c == Value.type "enumerate")
      · wp_walk using q1
        exact ⟨_, rfl, h⟩
      · wp_walk using q1
        exact ⟨_, rfl, h⟩
    · wp_walk using q1
      exact ⟨_, rfl, h⟩
section
variable {prog : Program} {w : World} {A : Around} {E : Value → Shared → Prop} {s : Shared}
theorem enum_begins1 {v : Value} {o : Obj} {H : Heap → Prop} {Q : Value → Shared → Prop} (B : Begins v o H) (h1 : H s.heap)
    (h : ∀ h', IsEnum h' (s.heap.objs.size + 1) s.heap.objs.size 0 .none → h'.get? s.heap.objs.size = some o → h'.objs.size = s.heap.objs.size + 2 →
      (∀ b o, s.heap.get? b = some o → h'.get? b = some o) → Q (.ref (s.heap.objs.size + 1)) { s with heap := h' }) :
    wpAny (model prog w) A (call (.type "enumerate") [v]) Q E s := by
  refine callType_new F.called_enumerate (by decide) (F.typeCall_enumerate_1 _) (F.newCall_enumerate_1 _) (fun obj => F.args_object_init_2 obj _) F.entry_enumerate_new (meets_enum1 B) ⟨h1, ?_⟩
  have hz : (s.heap.push o).objs.size = s.heap.objs.size + 1 := Heap.size_push ..
  show _ ∧ _
  rw [hz]
  have he : IsEnum ((s.heap.push o).push { cls := .type "enumerate", data := .fields #[.none, .bool false, .ref s.heap.objs.size, rawInt 0, .none, .none] }) (s.heap.objs.size + 1) s.heap.objs.size 0 .none := by
    have := Heap.get?_push_size (s.heap.push o) (o := { cls := .type "enumerate", data := .fields #[.none, .bool false, .ref s.heap.objs.size, rawInt 0, .none, .none] }) rfl
    rw [hz] at this; exact this
  exact ⟨⟨_, he, rfl⟩, h _ he (Heap.get?_push_of_some _ (Heap.get?_push_size _ B.free)) (by rw [Heap.size_push, hz]) fun b o x => Heap.get?_push_of_some _ (Heap.get?_push_of_some _ x)⟩
end
end Lz
namespace Lz
open PySem PySem.Spec PyProof.Rows L2 Evl RZ
/-! ### enumerate(tuple) -/
def IteT (K : PySem.W.Frag) (a : Addr) : It :=
  ⟨fun i H => ∃ (xs : List V) (x : V), SqT K H a xs ∧ xs[i]? = some x, fun i H v H' => ∃ T x, v = .ref T ∧ H T = none ∧ H' = upd H T (.tup [.int (i : Nat), x]) ∧ ∀ xs, SqT K H a xs → xs[i]? = some x, fun i H => ∃ xs : List V, SqT K H a xs ∧ xs.length ≤ i⟩
theorem turn_enumT {P : Program} {w : World} {K : PySem.W.Frag} {elts : List Expr} {kk : Nat} {tpos : Pos} (a e it : Addr) :
    Turn P w K (.Tuple elts kk tpos) (IteT K a) [e, it] e (fun i h => (∃ old, IsEnum h e it ((i : Nat) : Int) old) ∧ h.IsTupleIter it a i ∧ e ≠ it ∧ a ≠ it ∧ e ≠ a) where
  mem := by simp
  obj := fun i h st b hb => by
    obtain ⟨⟨old, he⟩, ⟨o, ho, hc, hd⟩, _⟩ := st
    have e' : b = e ∨ b = it := by simpa using hb
    rcases e' with z | z
    · rw [z]; exact ⟨_, he, fun v q => nomatch q⟩
    · rw [z]; exact ⟨o, ho, fun v q => by rw [hd] at q; cases q⟩
  keep := fun i h h' st k => let ⟨⟨old, he⟩, hi, hne⟩ := st; ⟨⟨old, k e (by simp) _ he⟩, hi.at fun o q => k it (by simp) o q, hne⟩
  item := by
    intro X hP hw hK hc i pins s σ H E I hf st hg
    subst hP hw hK
    obtain ⟨⟨old, he⟩, hit, hne, hai, hea⟩ := st
    obtain ⟨xs, x, hq, hx⟩ := hg
    obtain ⟨its, rv, p, hz⟩ := I.tuple hq
    have p' : s.heap.IsTuple a its.toArray := p
    obtain ⟨u, hu, ru⟩ := rv.get hx
    have hel : e < s.heap.objs.size := Heap.lt_size he
    have hil : it < s.heap.objs.size := by obtain ⟨_, q, _⟩ := hit; exact Heap.lt_size q
    have hlt : i < its.toArray.size := by
      have := (List.getElem?_eq_some_iff.mp hu).1
      simpa using this
    refine wpAny_pyNext_enum_itemC (Draws.tuple (A := X.A.in1) (I.ok.hd hc) it a hai its.toArray) he ⟨hit, p'⟩ hlt hne (by simp [hne, hea]) fun x' h' tk hp ho hst' hT hsz hk => ?_
    have ex : x' = u := by
      have h1 : its.toArray[i]? = some x' := hp
      have h2 : its.toArray[i]? = some u := by simpa using hu
      exact Option.some.inj (h1.symm.trans h2)
    subst ex
    refine ⟨_, rfl, wpAny_letOwnedTupleGo_enum (s := { s with heap := h', toks := tk + 1 }) ho fun h'' he' sb => ?_⟩
    have hT2 : h''.get? s.heap.objs.size = some { cls := .type "tuple", data := .seq #[.int i tk, x'] } := (sb.2 _ (Nat.ne_of_gt hel)).trans hT
    have new : ObjOk X.prog X.w (upd H s.heap.objs.size (.tup [.int (i : Nat), x])) h'' s.heap.objs.size (.tup [.int (i : Nat), x]) :=
      ⟨by show 2 ≤ sizeLine; decide, [.int i tk, x'], .cons ⟨_, rfl⟩ (.cons ru .nil), ⟨_, hT2, rfl, _, rfl⟩⟩
    have I1 : Inv X pins σ (upd H s.heap.objs.size (.tup [.int (i : Nat), x])) { s with heap := h'', toks := tk + 1 } :=
      I.turnedNew (ch := [e, it]) (fun b ob hb q => (sb.2 b (fun z => hb (by simp [z]))).trans (hk b ob (fun z => hb (by simp [z])) (fun z => hb (by simp [z])) q)) hf (Nat.le_refl _) new
    refine ⟨.ref s.heap.objs.size, _, I1, rfl, ⟨_, x, rfl, I.hok.fresh (Nat.le_refl _), rfl, fun ys hy => by rw [I.tuple_inj hy hq]; exact hx⟩, ⟨⟨x', ?_⟩, hst'.1.at fun o q => (sb.2 it (Ne.symm hne)).trans q, hne, hai, hea⟩, fun b hb => ?_⟩
    · have e1 : ((i + 1 : Nat) : Int) = (i : Int) + 1 := by omega
      rw [e1]; exact he'
    · have hb' : b < s.heap.objs.size := by
        have e' : b = e ∨ b = it := by simpa using hb
        rcases e' with z | z
        · rw [z]; exact hel
        · rw [z]; exact hil
      rw [upd_ne (Nat.ne_of_lt hb')]
      exact (hf b hb).1
  done := by
    intro X hP hw hK hc i pins s σ H E I hf st hg
    subst hP hw hK
    obtain ⟨⟨old, he⟩, hit, hne, hai, hea⟩ := st
    obtain ⟨xs, hq, hx⟩ := hg
    obtain ⟨its, rv, p, hz⟩ := I.tuple hq
    have p' : s.heap.IsTuple a its.toArray := p
    obtain ⟨f0, f1, f2, f3, f4, f5⟩ := hf it (by simp)
    have hl := rv.length
    have hn : its.toArray[i]? = none := by simp; omega
    have hT : s.TypeIs (.ref e) "enumerate" := ⟨_, he, rfl⟩
    unfold pyNext
    refine wpAny_bind (wpAny_attempt (wpAny_callSpecial?_slot (name := Str.ofString "__next__") hT F.slot_enumerate_next
      (wpAny_call_entry F.slot_enumerate_next hT F.entry_enumerate_next ?_ (F.args_enumerate_next_1 _))))
    show wpAny _ _ (field (.ref e) 2 >>= _) _ _ _
    refine wpAny_bind (wpAny_field he rfl (x := .ref it) rfl ?_)
    refine wpAny_bind (wpAny_nextOf_tuple_end (I.ok.hd hc) hit p' hn fun h' ee hx' hee => ?_)
    obtain ⟨o, ho, hcl⟩ := hee
    refine wpAny_bind (wpAny_isInstance (T := "StopIteration") (b := true) ⟨o, ho, hcl⟩ isSubtype_stop ?_)
    exact wpAny_pure ⟨rfl, I.turned (t' := s.toks) (fun b o hb q => hx' b o hb q) f0 f1 f3 f4 f5⟩
  self := fun A i s Q E st h => let ⟨⟨_, he⟩, _⟩ := st; wpAny_pyIter_enum he h
def iEnumT (K : PySem.W.Frag) (ta : TA) : TI := fun σ H R => ta σ H fun vs H1 => ∃ a xs, vs = [.ref a] ∧ SqT K H1 a xs ∧ R (IteT K a) H1
theorem pi_enumT {X : Cx} {e : Expr} {ta : TA} {p pos tpos : Pos} {elts : List Expr} {kk : Nat} (hg : Gl X "enumerate") (hm : X.mg "enumerate" = none) (ha : PA X [e] ta) (hs : starEach [e] X.env = [(false, eval e X.env)] := by rfl) :
    PI X (.Tuple elts kk tpos) (.Call (.Name "enumerate" p) [e] [] pos) (iEnumT X.K ta) := by
  refine ⟨fun pins s σ H R I h => ?_⟩
  refine Call_ (ld_blt I hg hm boot_enumerate (PyProof.Rows.callWith_type1 (thn (ha.run pos pins s σ H _ I h) fun us s1 ⟨vs, H1, I1, r1, q1⟩ => ?_) hs rfl))
  obtain ⟨a, xs, ex, hq, q⟩ := q1
  subst ex
  cases r1 with
  | cons r rr =>
    cases rr
    cases r
    obtain ⟨its, rv, p', hz⟩ := I1.tuple hq
    have p2 : s1.heap.IsTuple a its.toArray := p'
    obtain ⟨oa, hoa, _⟩ := id p'
    have la : a < s1.heap.objs.size := Heap.lt_size hoa
    refine enum_begins1 (begins_tuple a its.toArray) p2 fun h' he hit hsz hk => wpAny_pyIter_enum he ?_
    have I2 : Inv X pins σ H1 { s1 with heap := h' } := I1.kept (t' := s1.toks) hk
    refine ⟨s1.heap.objs.size + 1, [s1.heap.objs.size + 1, s1.heap.objs.size], _, _, H1, rfl, I2, turn_enumT a (s1.heap.objs.size + 1) s1.heap.objs.size, ⟨⟨.none, he⟩, ⟨_, hit, rfl, rfl⟩, Nat.succ_ne_self _, Nat.ne_of_lt la, Nat.ne_of_gt (Nat.lt_succ_of_lt la)⟩, fun b hb => ?_, q⟩
    have e' : b = s1.heap.objs.size + 1 ∨ b = s1.heap.objs.size := by simpa using hb
    have hle : s1.heap.objs.size ≤ b := by
      rcases e' with z | z
      · rw [z]; exact Nat.le_add_right _ _
      · rw [z]; exact Nat.le_refl _
    exact I1.fpOk hle (I1.hok.fresh hle)
open Dl
theorem walk_eT {K : PySem.W.Frag} {ds : List PyData} {a : Addr} {B : Hp} {xs : List V} (h : B a = some (.tup xs)) (hd : TpAll B xs ds) : WalkD (IteT K a) B (enumD 0 ds) where
  go := fun i H' hi e => ⟨xs, xs[i]'(by rw [dp_len hd]; rw [enum_len] at hi; exact hi), st_of (e a _ h), by simp⟩
  stop := fun H' e => ⟨xs, st_of (e a _ h), by rw [enum_len]; exact Nat.le_of_eq (dp_len hd)⟩
  yld := fun i H' x H'' hi e y => by
    obtain ⟨T, v, rfl, hT, rfl, y⟩ := y
    obtain ⟨d, h1, h2⟩ := dp_getV hd (y xs (st_of (e a _ h)))
    refine ⟨Ex.new hT, _, enum_get 0 i ds d h1, .tup (gr_upd hT) ?_⟩
    rw [Nat.zero_add]
    exact .cons (.int _) (.cons (Tp.ex (gr_ex e) d v h2) .nil)
theorem ei_enumT {K : PySem.W.Frag} {σ : L2.St} {H : Hp} {ds : List PyData} {tr : TA} (h : EvDs tr σ H [.tuple ds]) : EvI (iEnumT K tr) σ H (enumD 0 ds) := fun H1 e R q => h H1 e _ fun vs H2 e2 hv => by
  cases hv with
  | cons a b =>
    cases b
    cases a with
    | tup ha hs => exact ⟨_, _, rfl, st_of (gr_sub e e2 _ _ ha), q _ H2 e2 (walk_eT ha hs)⟩
end Lz
set_option maxHeartbeats 4000000
namespace Lz
open PySem PySem.Spec PyProof.Rows L2 LamX NdefX K0
/-! ### a lambda made: all but its table stays -/
def ExtP (P : Addr) (H H' : Hp) : Prop := ∀ b o, H b = some o → b ≠ P → H' b = some o
section
variable {X : Cx} {pins : List (Addr × Obj)} {σ : L2.St} {H : Hp} {s : Shared}
theorem lam_mkP {T : List (Addr × Str)} {c P : Addr} {params : Arguments} {body : Expr} {scope : Scope} {pos : Pos} {E : Value → Shared → Prop} {Q : Value → Shared → Prop} (I : Inv X pins σ H s) (TB : TabB X.base X.mg c P) (hcode : X.env.code = .ref c)
    (hm : (P, X.env.qual ++ "<lambda>") ∈ T) (hu : ∀ p ∈ T, p.1 = P → p.2 = X.env.qual ++ "<lambda>") (hT : Tabs T H) (hdef : defaultsOf params X.env = ([], [])) (hnf : ∀ y ∈ scope.names, y.2 ≠ .free) (hcl : cloFrom X.env.cells scope.names [] = [])
    (h : ∀ (f c' : Addr) (H1 : Hp) (s' : Shared), Inv X pins σ H1 s' → ExtP P H H1 → Tabs T H1 → H f = none → H1 f = some (LamO f ⟨X.env.qual ++ "<lambda>", params, body, scope⟩ c') → H1 c' = some (CodeO c' (X.env.qual ++ "<lambda>")) → Q (.ref f) s') :
    wpAny (model X.prog X.w) X.A (eval (.Lambda params body scope pos) X.env) Q E s := by
  obtain ⟨ps, hP, ht, ha⟩ := hT _ hm
  refine PySem.W.kla_eval hdef ?_
  have hfree : ∀ y ∈ scope.names, y.2 = .free → ∃ c, X.env.cells.lookup y.1 = some c := fun y hy e => absurd e (hnf y hy)
  have bP : s.heap.BuiltinsAt X.mg P := TB.bm.keeps I.bk
  have hP' : s.heap.get? P = some { cls := .none, data := .fields ps } := I.hok P _ hP
  cases hc : codeAmong pos ps.toList with
  | none =>
    refine PySem.W.kla_makeFunction (mg := X.mg) (c := c) (P := P) (ps := ps) (closure_ok hfree) I.ok.glob (I.mod.glob.keeps I.bk) hcode (TB.code.keeps I.bk) hP' ht hc TB.gP bP fun c' ctv h' tk hx hge hlt hrec htb => ?_
    obtain ⟨c2, oc, vs, t, e2, hoc, hd, hv⟩ := hrec
    cases e2
    have nC : H c' = none := I.hok.fresh hge
    have I1 := inv_table (t' := tk) (more := #[rawInt pos.line, rawInt pos.col, .ref c']) (h' := h') I hP (fun b o hb e => hx b o hb e) htb hge ⟨oc, vs, t, hoc, hd, hv⟩
    have hE0 : ExtP P H (upd (upd H P (.tbl (ps ++ #[rawInt pos.line, rawInt pos.col, .ref c']))) c' (CodeO c' (X.env.qual ++ "<lambda>"))) := fun b o e n => by
      rw [upd_ne (ne_of_none e nC), upd_ne n]
      exact e
    have hE : ExtN H (upd (upd H P (.tbl (ps ++ #[rawInt pos.line, rawInt pos.col, .ref c']))) c' (CodeO c' (X.env.qual ++ "<lambda>"))) := fun b o e n => hE0 b o e (fun z => n ps (Option.some.inj (e.symm.trans (by rw [z]; exact hP))))
    have eL : (ps ++ #[rawInt pos.line, rawInt pos.col, .ref c']).toList = ps.toList ++ [rawInt pos.line, rawInt pos.col, .ref c'] := by simp
    have T1 : Tabs T (upd (upd H P (.tbl (ps ++ #[rawInt pos.line, rawInt pos.col, .ref c']))) c' (CodeO c' (X.env.qual ++ "<lambda>"))) := fun p hp => by
      by_cases hb : p.1 = P
      · rw [hu p hp hb, hb]
        refine ⟨_, by rw [upd_ne (ne_of_none hP nC), upd_same], by rw [eL]; exact PySem.TriplesOk_snoc _ _ _ _ ht, fun p' cv hcv => ?_⟩
        rw [eL] at hcv
        rcases among_app _ ht hcv with z | z
        · obtain ⟨c0, e1, e2⟩ := ha p' cv z
          exact ⟨c0, e1, hE _ _ e2 codeO_ne⟩
        · exact ⟨c', z, upd_same⟩
      · obtain ⟨ps', a1, a2, a3⟩ := hT p hp
        refine ⟨ps', by rw [upd_ne (ne_of_none a1 nC), upd_ne hb]; exact a1, a2, fun p' cv hcv => ?_⟩
        obtain ⟨c0, e1, e2⟩ := a3 p' cv hcv
        exact ⟨c0, e1, hE _ _ e2 codeO_ne⟩
    have nF := I1.hok.fresh (Nat.le_refl _)
    have I2 := inv_lam (L := ⟨X.env.qual ++ "<lambda>", params, body, scope⟩) (c := c') (t' := tk) (pm := (X.mg "__name__").getD .none) (ctv := ctv) (o := PySem.W.kla_obj "<lambda>" (X.env.qual ++ "<lambda>") params body scope (cloFrom X.env.cells scope.names []) ((X.mg "__name__").getD .none) c' ctv) I1 (by rw [hcl])
    refine h h'.objs.size c' _ _ I2 (fun b o e n => ?_) (T1.ext fun b o e => ?_) (I.hok.fresh (Nat.le_trans hge (Nat.le_of_lt hlt))) upd_same ?_
    · have e1 := hE0 b o e n
      exact (upd_ne (ne_of_none e1 nF)).trans e1
    · exact (upd_ne (ne_of_none e nF)).trans e
    · exact (upd_ne (Nat.ne_of_lt hlt)).trans upd_same
  | some cv =>
    obtain ⟨c', e, hco⟩ := ha pos cv hc
    subst e
    refine PySem.W.kla_makeFunctionHit (mg := X.mg) (c := c) (P := P) (ps := ps) (closure_ok hfree) I.ok.glob (I.mod.glob.keeps I.bk) hcode (TB.code.keeps I.bk) hP' ht hc bP fun ctv h' tk hx hsz => ?_
    have I1 : Inv X pins σ H { s with heap := h', toks := tk } := I.kept hx
    have nF : H h'.objs.size = none := I1.hok.fresh (Nat.le_refl _)
    have I2 := inv_lam (L := ⟨X.env.qual ++ "<lambda>", params, body, scope⟩) (c := c') (t' := tk) (pm := (X.mg "__name__").getD .none) (ctv := ctv) (o := PySem.W.kla_obj "<lambda>" (X.env.qual ++ "<lambda>") params body scope (cloFrom X.env.cells scope.names []) ((X.mg "__name__").getD .none) c' ctv) I1 (by rw [hcl])
    refine h h'.objs.size c' _ _ I2 (fun b o e n => ?_) (hT.ext fun b o e => ?_) nF upd_same ?_
    · exact (upd_ne (ne_of_none e nF)).trans e
    · exact (upd_ne (ne_of_none e nF)).trans e
    · exact (upd_ne (ne_of_none hco nF)).trans hco
/-- a lambda's value -/
def tLamP (T : List (Addr × Str)) (P : Addr) (L : LS) : TE := fun _ H Q => Tabs T H ∧ ∀ (f c' : Addr) (H1 : Hp), ExtP P H H1 → Tabs T H1 → H f = none → H1 f = some (LamO f L c') → H1 c' = some (CodeO c' L.qual) → Q (.ref f) H1
theorem pe_lamP {T : List (Addr × Str)} {c P : Addr} {params : Arguments} {body : Expr} {scope : Scope} {pos : Pos} (TB : TabB X.base X.mg c P) (hcode : X.env.code = .ref c) (hm : (P, X.env.qual ++ "<lambda>") ∈ T) (hu : ∀ p ∈ T, p.1 = P → p.2 = X.env.qual ++ "<lambda>")
    (hdef : defaultsOf params X.env = ([], [])) (hnf : ∀ y ∈ scope.names, y.2 ≠ .free) (hcl : cloFrom X.env.cells scope.names [] = []) :
    PE X (.Lambda params body scope pos) (tLamP T P ⟨X.env.qual ++ "<lambda>", params, body, scope⟩) := by
  refine ⟨fun pins s σ H Q I h => ?_⟩
  obtain ⟨hT, h⟩ := h
  exact lam_mkP I TB hcode hm hu hT hdef hnf hcl fun f c' H1 s' I1 eN T1 hf e1 e2 => ⟨.ref f, H1, I1, rfl, h f c' H1 eN T1 hf e1 e2⟩
end
open Dl Evl
/-- a lambda called -/
theorem ed_lamC {P : Program} {w : World} {K : PySem.W.Frag} {mg : Str → Option Value} {base : Heap} {k i m : Nat} {σ : L2.St} {B : Hp} {ta : TA} {f c : Addr} {L : LS} {ds : List PyData} {d : PyData} {R : List PyData → PyData → Prop}
    (hs : σ[i]? = some (some (.ref f))) (hf : B f = some (LamO f L c)) (hc : B c = some (CodeO c L.qual)) (ok : LOk P w K mg base k L m (spP m R)) (h : EvDs ta σ B ds) (hl : ds.length = m) (hR : R ds d) : EvD (tLamC P w K mg base k i ta) σ B d := fun H1 e Q q =>
  ⟨f, c, L, m, spP m R, hs, e _ _ hf, ok, h H1 e _ fun vs H2 e2 dvs => ⟨e2 _ _ (e _ _ hf), e2 _ _ (e _ _ hc), gr B H1 H2, ds, d, gr_sub e e2, dvs, hl, hR, fun v H3 e3 g => q v H3 (e2.trans e3) (Tp.ex (gr_gr e2 e3) d v g)⟩⟩
end Lz
set_option maxHeartbeats 4000000
namespace K50
open PySem PySem.W PySem.Spec PyProof.Rows L2 LamX Evl RZ Dl Dn Dm Lz K0
/-! ### list_fault, of senses that are right -/
def rGood : List PyData → PyData → Prop := fun ds d => ∃ a x, ds = [a, x] ∧ d = .bool (isDoor x)
def spLF (P : Program) (w : World) (K : PySem.W.Frag) (mg : Str → Option Value) (base : Heap) : Sp := fun vs H Q _ => ∃ (B : Hp) (f c : Addr) (L : LS) (v : V) (x : PyData) (es : List Int), vs = [v, .int (es.length : Int), .ref f] ∧ Ex B H ∧ Tp B v x ∧ Row x (es.map PyData.int) ∧ es.length ≤ 400 ∧ (∀ e ∈ es, e = 0 ∨ e = 1) ∧
  B f = some (LamO f L c) ∧ B c = some (CodeO c L.qual) ∧ LOk P w K mg base 3 L 2 (spP 2 rGood) ∧ ∀ H2, Ex H H2 → Q .non H2
abbrev nLF : List Str := ["thing", "many", "is_good", "at", "item"]
theorem row_len {x : PyData} {xs : List PyData} (r : Row x xs) : True := trivial
theorem ei_enumR {K : PySem.W.Frag} {σ : L2.St} {H : Hp} {x : PyData} {xs : List PyData} {tr : TA} (r : Row x xs) (h : EvDs tr σ H [x]) : EvI (iOr (iEnum K tr) (iEnumT K tr)) σ H (enumD 0 xs) := by
  rcases r with rfl | rfl
  · exact ei_or1 (ei_enum h)
  · exact ei_or2 (ei_enumT h)
section
variable {P : Program} {w : World} {K : PySem.W.Frag} {mg : Str → Option Value} {base : Heap}
end
end K50
set_option maxHeartbeats 4000000
namespace K50
open PySem PySem.W PySem.Spec PyProof.Rows L2 LamX NdefX Evl RZ Dl Dn Dm Lz K0
/-! ### a def whose code object is known -/
structure FunC (K : PySem.W.Frag) (x qual : Str) (st : Stmt) (f c : Addr) (fd : FuncData) : Prop where
  ex : ∃ (oc : Value) (od : Option Addr) (kV doc pm : Value) (an : Option Addr) (ct : Value) (osl : Array (Option Value)),
    fd = PySem.W.fnOf x qual (defArgs st) (defBody st) (defScope st) .none kV doc pm an (.ref c) ct ∧ K.lookup f = some ⟨oc, od, .func fd, osl⟩ ∧ PySem.W.codeIn K (.ref c) qual = true
  kp : PySem.W.keepIn K (.ref f) = true
section
variable {P : Program} {w : World} {K : PySem.W.Frag} {mg : Str → Option Value} {base : Heap}
theorem FunC.ok {x qual : Str} {st : Stmt} {f c : Addr} {fd : FuncData} {N ps : List Str} {k : Nat} {sp : Sp} (F : FunC K x qual st f c fd) (S : FnScope N ps (defScope st)) (len : ∀ vs H Q E, sp vs H Q E → vs.length = ps.length)
    (hbody : ∀ (A : Around) (outer : List Env) (s : Shared) (H : Hp) (vs : List V) (Q : VK) (E : XK), Room k (A.deeper (envOfC qual (defScope st) s.heap.objs.size f (.ref c))) → sp vs H Q E →
      ∃ t, PSs (cxOf CX0 P w K mg base N qual (defScope st) f (.ref c) A outer s H E).nox (defBody st) t ∧ t { nx := fun _ H' => Q .non H', rt := Q } (L2.start N vs) H) : FnOk P w K mg base CX0 (k + 1) f fd ps sp := by
  obtain ⟨oc, od, kV, doc, pm, an, ct, osl, rfl, lk, hcd⟩ := F.ex
  refine fn_of lk hcd S len fun A outer s H vs Q E hr hsp => ?_
  obtain ⟨t, h, q⟩ := hbody A outer s H vs Q E hr hsp
  exact ⟨t, h.nox, q⟩
end
/-- the table in which a def's lambda finds its code object -/
structure TabN (base : Heap) (mg : Str → Option Value) (c Pn : Addr) (T : List (Addr × Str)) (qual : Str) : Prop where
  tb : TabB base mg c Pn
  mem : (Pn, qual ++ ".<locals>." ++ "<lambda>") ∈ T
  un : ∀ p ∈ T, p.1 = Pn → p.2 = qual ++ ".<locals>." ++ "<lambda>"
/-! ### promises of defs that may make lambdas -/
def spT (T : List (Addr × Str)) (n : Nat) (pre : List PyData → Prop) (post : List PyData → PyData → Prop) : Sp := fun vs H Q E => ∃ p l, spM (mdS p l T) n pre post (fun _ => 0) vs H Q E
theorem spT_len {T : List (Addr × Str)} {n : Nat} {pre : List PyData → Prop} {post : List PyData → PyData → Prop} {vs : List V} {H : Hp} {Q : VK} {E : XK} (h : spT T n pre post vs H Q E) : vs.length = n := by
  obtain ⟨p, l, h⟩ := h
  exact spM_len h
theorem em_callT {p l : Addr} {T : List (Addr × Str)} {σ : L2.St} {B : Hp} {ta : TA} {Rs : List PyData → Prop} {k n : Nat} {pre : List PyData → Prop} {post : List PyData → PyData → Prop} {E : XK} (c : Cl (mdS p l T) B) (h : EvsM (mdS p l T) ta σ B Rs k) (hf : ∀ ds, Rs ds → ds.length = n ∧ pre ds) :
    EvM (mdS p l T) (tCall (spT T n pre post) [] E ta) σ B (fun d => ∃ ds, Rs ds ∧ post ds d) k := fun s H1 e j hk Q q => by
  have z := em_call (kk := fun _ => 0) (k2 := 0) (E := E) c h (pre := pre) (post := post) (n := n) fun ds hd => ⟨(hf ds hd).1, (hf ds hd).2, Nat.le_refl 0⟩
  refine h s H1 e j (by omega) _ fun vs H2 ds rd m2 j2 dvs => ?_
  obtain ⟨h1, h2⟩ := hf ds rd
  rw [List.append_nil]
  exact ⟨p, l, gr B H1 H2, ds, s + k, gr_subM c e m2, cl_gr c j, j2, by show s + k + 0 ≤ 100000; omega, dvs, h1, h2, fun v H3 d hp m3 j3 g => q v H3 d ⟨ds, rd, hp⟩ (m2.trans m3) j3 (Tp.ex (gr_grM j j2 m2 m3) d v g)⟩
theorem fz_ex {B Hc : Hp} {p : Addr} (e : Ex B Hc) : Ex B (fz B Hc p) ∧ Ex (fz B Hc p) Hc := by
  refine ⟨fun b o h => ?_, fun b o h => ?_⟩
  · unfold fz
    split
    · rename_i q
      rw [← q]
      exact e b o h
    · exact h
  · unfold fz at h
    split at h
    · rename_i q
      rw [q]
      exact h
    · exact e b o h
theorem StreamAt.keepP {H H' : Hp} {p l Pn : Addr} {N : Int} {ps : Array Value} (s : StreamAt H p l N) (e : ExtP Pn H H') (hP : H Pn = some (.tbl ps)) : StreamAt H' p l N := by
  obtain ⟨⟨ns, a, b, c, h1, h2, h3⟩, n⟩ := s
  refine ⟨⟨ns, a, b, c, e _ _ h1 fun z => ?_, e _ _ h2 fun z => ?_, h3⟩, n⟩
  · rw [z, hP] at h1; cases h1
  · rw [z, hP] at h2; cases h2
/-! ### need_pattern -/
def okQ (ps : List (PyData × Int)) : Prop := 0 < ps.length ∧ ps.length ≤ 400 ∧ ∀ p ∈ ps, p.1 ∈ wd ∧ (p.2 = 0 ∨ p.2 = 1)
/-- signs and senses as they are handed in, the pattern that they tell -/
def NP (ds : List PyData) (ps : List (PyData × Int)) : Prop := ∃ x y xs, ds = [x, y] ∧ Row x xs ∧ Words xs ∧ Row y (ps.map fun p => .int p.2) ∧ xs.map (fun x => (readZ x).1) = ps.map (·.1) ∧ okQ ps
def npPre : List PyData → Prop := fun ds => ∃ ps, NP ds ps
def npPost : List PyData → PyData → Prop := fun ds d => ∃ ps, NP ds ps ∧ d = pD ps
theorem row_inj {x : PyData} {xs ys : List PyData} (h : Row x xs) (h2 : Row x ys) : xs = ys := by
  rcases h with rfl | rfl
  · rcases h2 with h | h
    · injection h
    · cases h
  · rcases h2 with h | h
    · cases h
    · injection h
theorem ps_ext : ∀ {ps qs : List (PyData × Int)}, ps.map (·.1) = qs.map (·.1) → ps.map (fun p => PyData.int p.2) = qs.map (fun p => PyData.int p.2) → ps = qs
  | [], [], _, _ => rfl
  | [], q :: qs, h, _ => by simp at h
  | p :: ps, [], h, _ => by simp at h
  | p :: ps, q :: qs, h, h2 => by
    rw [List.map_cons, List.map_cons] at h h2
    injection h with h1 h3
    injection h2 with h4 h5
    injection h4 with h4
    rw [ps_ext h3 h5]
    congr 1
    exact Prod.ext h1 h4
theorem np_inj {ds : List PyData} {ps qs : List (PyData × Int)} (h : NP ds ps) (h2 : NP ds qs) : ps = qs := by
  obtain ⟨x, y, xs, rfl, hx, _, hy, e, _⟩ := h
  obtain ⟨x', y', xs', z, hx', _, hy', e', _⟩ := h2
  injection z with z1 z2
  injection z2 with z2 _
  subst z1 z2
  have := row_inj hx hx'
  subst this
  exact ps_ext (e.symm.trans e') (row_inj hy hy')
theorem zip_pD : ∀ ps : List (PyData × Int), zipD (ps.map (·.1)) (ps.map fun p => .int p.2) = ps.map prD
  | [] => rfl
  | p :: ps => by
    show PyData.tuple [p.1, .int p.2] :: zipD (ps.map (·.1)) (ps.map fun p => .int p.2) = _
    rw [zip_pD ps]
    rfl
theorem rd_notN {d : PyData} (h : d = .none) : RD (fun x y H Q => y = .non ∧ Q (.bl (!decide (x = .non))) H) d .none (.bool false) := fun H H1 v w e hv hw Q q => by
  subst h
  cases hv
  cases hw
  exact ⟨rfl, q _ H1 (Ex.refl H1) (.bl _)⟩
abbrev nNP : List Str := ["signs", "senses", "words", "fault"]
section
variable {P : Program} {w : World} {K : PySem.W.Frag} {mg : Str → Option Value} {base : Heap}
theorem lok_door {qual : Str} {a : Arguments} {p1 p2 p3 : Pos} {sc : Scope} (S : NScope ["_", "sense"] ["_", "sense"] [] sc) (hg : sc.names.lookup ("is_door" : Str) = some NameKind.globalImplicit) (hv : Vis sc "sense")
    (hb : ∀ (pm cv ctv : Value) (us : List Value), us.length = 2 → bindArgs (PySem.W.kla_fn "<lambda>" qual a (.Call (.Name "is_door" p1) [.Name "sense" p2] [] p3) sc [] pm cv ctv) ⟨us, []⟩ = pure ((["_", "sense"] : List Str).zip us))
    (D : CallF P w K mg base 2 "is_door" ["thing"] (spP 1 rDoor)) : LOk P w K mg base 3 ⟨qual, a, .Call (.Name "is_door" p1) [.Name "sense" p2] [] p3, sc⟩ 2 (spP 2 rGood) := by
  obtain ⟨fD, dD, oD, gD, kD, bD⟩ := D
  refine lok_of (ps := ["_", "sense"]) S hb (fun vs H Q E h => spP_len h) (fun A outer s H vs Q f c hr h => ?_)
  refine ⟨_, pe_call oD hr hg gD kD bD .nil pass0 (pa_cons (pe_var (i := 1) rfl hv) pa_nil), ?_⟩
  obtain ⟨B, ds, d, e, hv, hn, ⟨a, x, rfl, rfl⟩, q⟩ := h
  obtain ⟨v, u, rfl, hx, hy⟩ := tp2 hv
  exact (ed_call (ds := [x]) (es_cons (ed_var (i := 1) rfl hy) es_nil) rfl ⟨x, rfl, rfl⟩) H e Q fun v2 H2 e2 t => q v2 H2 e2 t
end
end K50
set_option maxHeartbeats 4000000
namespace Dm
open PySem PySem.Spec PyProof.Rows L2 Evl RZ Dl
section
variable {D : Md} {K : PySem.W.Frag} {σ : L2.St} {B : Hp} {ta : TA} {te : TE} {Rs : List PyData → Prop} {R : PyData → Prop} {k n : Nat}
theorem em_callP {f : List PyData → PyData → Prop} {E : XK} (c : Cl D B) (h : EvsM D ta σ B Rs k) (hf : ∀ ds, Rs ds → ds.length = n ∧ ∃ d, f ds d ∧ R d) : EvM D (tCall (spP n f) [] E ta) σ B R k := fun s H1 e j hk Q q => h s H1 e j hk _ fun vs H2 ds rd m2 j2 dvs => by
  obtain ⟨h1, d, h2, h3⟩ := hf ds rd
  rw [List.append_nil]
  exact ⟨gr B H1 H2, ds, d, gr_subM c e m2, dvs, h1, h2, fun v H3 e3 g => q v H3 d h3 (m2.trans (ExM.of e3)) (D.keep _ _ _ e3 j2) (Tp.ex (gr_grM j j2 m2 (ExM.of e3)) d v g)⟩
theorem q_whenTru {H H1 Hc : Hp} {s : Nat} {tu tz : TS} {Dd : Ends} {ds : List PyData} (b : BsM D H H1 B Hc s) (h : EvM D te σ B (· = .list ds) k) (l : s + k ≤ 100000)
    (h1 : ds ≠ [] → ∀ Hn, ExM D Hc Hn → D.J (s + k) Hn → tu { Dd with nx := tz Dd } σ Hn) (h2 : ds = [] → ∀ Hn, ExM D Hc Hn → D.J (s + k) Hn → tz Dd σ Hn) : tSeq (tIfS (tTru K te) tu tNext) tz Dd σ Hc := h s Hc b.c b.j l _ fun v H2 d hd m2 j2 hv => by
  subst hd
  cases hv with
  | lst ha hs =>
    refine ⟨_, .inl ⟨_, sq_of (gr_subM b.cl b.c m2 _ _ ha), rfl⟩, ?_⟩
    cases hs with
    | nil =>
      rw [if_neg (by decide)]
      exact h2 rfl H2 m2 j2
    | cons _ _ =>
      rw [if_pos (by rfl)]
      exact h1 (List.cons_ne_nil _ _) H2 m2 j2
end
end Dm
namespace K50
open PySem PySem.W PySem.Spec PyProof.Rows L2 LamX NdefX Evl RZ Dl Dn Dm Lz K0
theorem q_nil {ps : List (PyData × Int)} (h : okQ ps) : okP ps := ⟨h.2.1, fun p hp => (h.2.2 p hp).1⟩
theorem rc_listR {K : PySem.W.Frag} {x : PyData} {xs : List PyData} (r : Row x xs) : RCD (rListOf K) [x] (.list xs) := by
  rcases r with rfl | rfl
  · exact rc_listL
  · exact rc_listT
/-! ### first pairs -/
def DueQ (C : Nat → Nat → Prop) (n : Nat) (d : PyData) : Prop := (d = .none ∧ ∀ a b, a < b → b < n → ¬ C a b) ∨
  ∃ a b : Nat, d = .tuple [.int a, .int b] ∧ a < b ∧ b < n ∧ C a b ∧ ∀ a' b', a' < b' → b' < n → C a' b' → a < a' ∨ (a = a' ∧ b ≤ b')
theorem dueQ_same {C C' : Nat → Nat → Prop} {n : Nat} {d d' : PyData} (h : DueQ C n d) (h' : DueQ C' n d') (e : ∀ a b, a < b → b < n → (C a b ↔ C' a b)) : d = d' := by
  rcases h with ⟨h1, h2⟩ | ⟨a, b, rfl, h1, h2, h3, h4⟩
  · rcases h' with ⟨g1, _⟩ | ⟨a, b, _, g1, g2, g3, _⟩
    · rw [h1, g1]
    · exact absurd ((e a b g1 g2).mpr g3) (h2 a b g1 g2)
  · rcases h' with ⟨_, g2⟩ | ⟨a', b', rfl, g1, g2, g3, g4⟩
    · exact absurd ((e a b h1 h2).mp h3) (g2 a b h1 h2)
    · have z1 := h4 a' b' g1 g2 ((e a' b' g1 g2).mpr g3)
      have z2 := g4 a b h1 h2 ((e a b h1 h2).mp h3)
      have ea : a = a' := by omega
      have eb : b = b' := by omega
      rw [ea, eb]
theorem dueQ_at {C : Nat → Nat → Prop} {n i j : Nat} (hij : i < j) (hj : j < n) (hb : C i j) (hn : ∀ a b, a < b → b < n → (a < i ∨ (a = i ∧ b < j)) → ¬ C a b) : DueQ C n (.tuple [.int i, .int j]) :=
  .inr ⟨i, j, rfl, hij, hj, hb, fun a b h1 h2 h3 => by
    have y : ¬ (a < i ∨ (a = i ∧ b < j)) := fun q => hn a b h1 h2 q h3
    omega⟩
def barAx (ps : List (PyData × Int)) (a b : Nat) : Prop := (((a + b) % ps.length : Nat) : Int) ∈ axes ps
instance (ps : List (PyData × Int)) (a b : Nat) : Decidable (barAx ps a b) := inferInstanceAs (Decidable (_ ∈ _))
def rsPost : List PyData → PyData → Prop := fun ds d => ∃ ps, NP ds ps ∧ ((axes ps ≠ [] ∧ d = .none) ∨ (axes ps = [] ∧ d = .list (ps.map fun p => .int p.2)))
def bbPost : List PyData → PyData → Prop := fun ds d => ∃ ps, NP ds ps ∧ DueQ (barAx ps) ps.length d
def lcPost : List PyData → PyData → Prop := fun ds d => ∃ ps, NP ds ps ∧ (((per ps = 1 ∨ axes ps ≠ []) ∧ d = .none) ∨ (per ps ≠ 1 ∧ axes ps = [] ∧ d = .int (if per ps % 2 = 0 then 2 else 3)))
abbrev nRSe : List Str := ["signs", "senses"]
abbrev nBB : List Str := ["signs", "senses", "pattern", "many", "axes", "one", "other"]
abbrev nLC : List Str := ["signs", "senses", "pattern", "period"]
section
variable {P : Program} {w : World} {K : PySem.W.Frag} {mg : Str → Option Value} {base : Heap} {T : List (Addr × Str)}
/-- need_pattern called with the first two names -/
theorem em_np {p l : Addr} {σ : L2.St} {B : Hp} {v u : V} {x y : PyData} {ps : List (PyData × Int)} {E : XK} (cl : Cl (mdS p l T) B) (h0 : σ[0]? = some (some v)) (h1 : σ[1]? = some (some u)) (hx : Tp B v x) (hy : Tp B u y) (hNP : NP [x, y] ps) :
    EvM (mdS p l T) (tCall (spT T 2 npPre npPost) [] E (tCons (tVar 0) (tCons (tVar 1) tNil))) σ B (· = pD ps) 0 :=
  em_is (em_callT (Rs := fun ds => ds = [x, y]) cl (fun n H1 e j hk Q q => (esm_cons cl (em_of (ed_var h0 hx)) (esm_cons cl (em_of (ed_var h1 hy)) esm_nil)) n H1 e j hk Q fun vs H2 ds rd m j2 t => q vs H2 ds (by obtain ⟨d1, ds1, rfl, rfl, d2, ds2, rfl, rfl, rfl⟩ := rd; rfl) m j2 t)
    fun ds hd => by subst hd; exact ⟨rfl, ps, hNP⟩) fun d ⟨ds, hd, ps', h1, h2⟩ => by
      subst hd
      rw [h2, np_inj h1 hNP]
end
end K50
set_option maxHeartbeats 4000000
namespace K50
open PySem PySem.W PySem.Spec PyProof.Rows L2 LamX NdefX Evl RZ Dl Dn Dm Lz K0
/-! ### colours that are due -/
def jP (cs : List Int) : List (Int × Int) := (List.range cs.length).map fun i => (cs.getD i 0, cs.getD ((i + 1) % cs.length) 0)
def onceP (js : List (Int × Int)) : List (Int × Int) := js.foldl (fun acc x => if acc.any (fun z => decide (z = x)) then acc else acc ++ [x]) []
theorem eqv_pT (z x : Int × Int) : PyData.eqv (pT z) (pT x) = decide (z = x) := by
  show (PyData.eqv (.int z.1) (.int x.1) && (PyData.eqv (.int z.2) (.int x.2) && true)) = _
  rw [Bool.and_true]
  show (decide (z.1 = x.1) && decide (z.2 = x.2)) = decide (z = x)
  obtain ⟨a, b⟩ := z
  obtain ⟨c, d⟩ := x
  by_cases h1 : a = c <;> by_cases h2 : b = d <;> simp [h1, h2]
theorem once_pT (js : List (Int × Int)) : onceD (js.map pT) = (onceP js).map pT := by
  have key : ∀ (js acc : List (Int × Int)), (js.map pT).foldl (fun acc x => if acc.any (fun z => PyData.eqv z x) then acc else acc ++ [x]) (acc.map pT) = (js.foldl (fun acc x => if acc.any (fun z => decide (z = x)) then acc else acc ++ [x]) acc).map pT := by
    intro js
    induction js with
    | nil => intro acc; rfl
    | cons j js ih =>
      intro acc
      rw [List.map_cons, List.foldl_cons, List.foldl_cons, List.any_map]
      have e : (acc.any ((fun z => PyData.eqv z (pT j)) ∘ pT)) = acc.any fun z => decide (z = j) := by
        congr 1
        funext z
        exact eqv_pT z j
      rw [e]
      split
      · exact ih acc
      · have : acc.map pT ++ [pT j] = (acc ++ [j]).map pT := by rw [List.map_append]; rfl
        rw [this]
        exact ih _
  exact key js []
theorem onceP_mem {js : List (Int × Int)} : ∀ p, p ∈ onceP js ↔ p ∈ js := by
  have key : ∀ (js acc : List (Int × Int)) (p : Int × Int), p ∈ js.foldl (fun acc x => if acc.any (fun z => decide (z = x)) then acc else acc ++ [x]) acc ↔ p ∈ acc ∨ p ∈ js := by
    intro js
    induction js with
    | nil => intro acc p; simp
    | cons j js ih =>
      intro acc p
      rw [List.foldl_cons, ih]
      split
      · rename_i h
        obtain ⟨z, hz, e⟩ := List.any_eq_true.mp h
        have e2 : z = j := of_decide_eq_true e
        subst e2
        constructor
        · rintro (h | h)
          · exact .inl h
          · exact .inr (List.mem_cons_of_mem _ h)
        · rintro (h | h)
          · exact .inl h
          · rcases List.mem_cons.mp h with rfl | h
            · exact .inl hz
            · exact .inr h
      · constructor
        · rintro (h | h)
          · rcases List.mem_append.mp h with h | h
            · exact .inl h
            · rw [List.mem_singleton.mp h]; exact .inr List.mem_cons_self
          · exact .inr (List.mem_cons_of_mem _ h)
        · rintro (h | h)
          · exact .inl (List.mem_append_left _ h)
          · rcases List.mem_cons.mp h with rfl | h
            · exact .inl (List.mem_append_right _ (List.mem_singleton.mpr rfl))
            · exact .inr h
  intro p
  have := key js [] p
  rw [show (p ∈ ([] : List (Int × Int)) ∨ p ∈ js) ↔ p ∈ js from ⟨fun h => h.elim (fun h => nomatch h) id, .inr⟩] at this
  exact this
theorem onceP_len (js : List (Int × Int)) : (onceP js).length ≤ js.length := by
  have key : ∀ (js acc : List (Int × Int)), (js.foldl (fun acc x => if acc.any (fun z => decide (z = x)) then acc else acc ++ [x]) acc).length ≤ acc.length + js.length := by
    intro js
    induction js with
    | nil => intro acc; simp
    | cons j js ih =>
      intro acc
      rw [List.foldl_cons, List.length_cons]
      refine Nat.le_trans (ih _) ?_
      split
      · omega
      · rw [List.length_append, List.length_singleton]; omega
  have := key js []
  simpa [onceP] using this
def mxP (js : List (Int × Int)) : List Int := js.map fun p => max p.1 p.2
def mOf (cs : List Int) : Nat := (1 + maxI (mxP (onceP (jP cs)))).toNat
def colN (cs : List Int) : Option Int := ([1, 2, 3, 4] : List Int).find? fun n => canB (onceP (jP cs)) (mOf cs) n 11 []
def colD (cs : List Int) : PyData := match colN cs with
  | some n => .int n
  | none => .none
def rCol : List PyData → PyData → Prop := fun ds d => ∃ cs : List Int, ds = [.list (cs.map .int)] ∧ 0 < cs.length ∧ cs.length ≤ 10 ∧ (∀ c ∈ cs, 0 ≤ c ∧ c < 10) ∧ d = colD cs
abbrev nCol : List Str := ["classes", "many", "joined", "number", "place"]
theorem jP_mem {cs : List Int} (h : ∀ c ∈ cs, 0 ≤ c ∧ c < 10) : ∀ p ∈ jP cs, (0 ≤ p.1 ∧ p.1 < 10) ∧ 0 ≤ p.2 ∧ p.2 < 10 := fun p hp => by
  obtain ⟨i, hi, rfl⟩ := List.mem_map.mp hp
  have hi2 : i < cs.length := List.mem_range.mp hi
  have hm : (i + 1) % cs.length < cs.length := Nat.mod_lt _ (by omega)
  exact ⟨h _ (List.mem_of_getElem? (getD_at hi2)), h _ (List.mem_of_getElem? (getD_at hm))⟩
theorem maxI_lt {ns : List Int} {b : Int} (hne : ns ≠ []) (h : ∀ n ∈ ns, 0 ≤ n ∧ n < b) : 0 ≤ maxI ns ∧ maxI ns < b := by
  obtain ⟨h1, _⟩ := maxI_is ns hne
  exact h _ h1
theorem can_pre {cs : List Int} (h0 : 0 < cs.length) (h10 : cs.length ≤ 10) (h : ∀ c ∈ cs, 0 ≤ c ∧ c < 10) {n : Int} (n1 : 1 ≤ n) (n4 : n ≤ 4) : rCan 11 [jD (onceP (jP cs)), .int n, .list (([] : List Int).map PyData.int)] (.bool (canB (onceP (jP cs)) (mOf cs) n 11 [])) := by
  have jl : (jP cs).length = cs.length := by simp [jP]
  have hne : onceP (jP cs) ≠ [] := fun z => by
    have : (jP cs)[0]'(by omega) ∈ onceP (jP cs) := (onceP_mem _).mpr (List.getElem_mem _)
    rw [z] at this
    exact nomatch this
  have ol := onceP_len (jP cs)
  have hpos : ∀ p ∈ onceP (jP cs), (0 ≤ p.1 ∧ p.1 < 10) ∧ 0 ≤ p.2 ∧ p.2 < 10 := fun p hp => jP_mem h p ((onceP_mem p).mp hp)
  have mne : mxP (onceP (jP cs)) ≠ [] := fun z => hne (List.map_eq_nil_iff.mp z)
  have mb := maxI_lt (b := 10) mne fun n hn => by
    obtain ⟨p, hp, rfl⟩ := List.mem_map.mp hn
    have := hpos p hp
    omega
  refine ⟨onceP (jP cs), mOf cs, n, [], rfl, hne, by omega, fun p hp => ⟨(hpos p hp).1.1, (hpos p hp).2.1⟩, ?_, ?_, ?_, ?_, n1, n4, (fun w hw => nomatch hw), rfl⟩
  · show 1 + maxI (mxP (onceP (jP cs))) = ((1 + maxI (mxP (onceP (jP cs)))).toNat : Int)
    omega
  · exact Nat.zero_le _
  · show (1 + maxI (mxP (onceP (jP cs)))).toNat ≤ 400
    omega
  · show (1 + maxI (mxP (onceP (jP cs)))).toNat - 0 < 11
    omega
section
variable {P : Program} {w : World} {K : PySem.W.Frag} {mg : Str → Option Value} {base : Heap}
end
end K50
set_option maxHeartbeats 4000000
namespace K50
open PySem PySem.W PySem.Spec PyProof.Rows L2 Evl RZ Dl Dn
/-! ### lists of numbers -/
theorem cover_len : ∀ (N : Nat) (l : List Int), (∀ v : Nat, v < N → (v : Int) ∈ l) → N ≤ l.length
  | 0, _, _ => Nat.zero_le _
  | N + 1, l, h => by
    have hm := h N (Nat.lt_succ_self N)
    have h2 := cover_len N (l.erase (N : Int)) fun v hv => (List.mem_erase_of_ne (by omega)).mpr (h v (by omega))
    rw [List.length_erase_of_mem hm] at h2
    have := List.length_pos_of_mem hm
    omega
theorem nodup_of_erase {α : Type} [BEq α] [LawfulBEq α] : ∀ (l : List α), (∀ x, x ∉ l.erase x) → l.Nodup
  | [], _ => List.nodup_nil
  | a :: l, h => by
    refine List.nodup_cons.mpr ⟨fun ha => h a (by simpa using ha), nodup_of_erase l fun x hx => h x ?_⟩
    by_cases e : a = x
    · subst e
      rw [List.erase_cons_head]
      exact List.mem_of_mem_erase hx
    · rw [List.erase_cons_tail (by simpa using e)]
      exact List.mem_cons_of_mem _ hx
theorem pig {N : Nat} {l : List Int} (h : ∀ v : Nat, v < N → (v : Int) ∈ l) (hl : l.length = N) : l.Nodup := nodup_of_erase l fun x hx => by
  have hm := List.mem_of_mem_erase hx
  have h2 := cover_len N (l.erase x) fun v hv => by
    by_cases e : (v : Int) = x
    · rw [e]; exact hx
    · exact (List.mem_erase_of_ne e).mpr (h v hv)
  rw [List.length_erase_of_mem hm] at h2
  have := List.length_pos_of_mem hm
  omega
theorem nodup_len : ∀ (N : Nat) (l : List Int), l.Nodup → (∀ x ∈ l, 0 ≤ x ∧ x < (N : Int)) → l.length ≤ N
  | 0, l, _, h => by
    cases l with
    | nil => exact Nat.le_refl _
    | cons a l => have := h a List.mem_cons_self; omega
  | N + 1, l, hn, h => by
    by_cases hm : (N : Int) ∈ l
    · have h2 := nodup_len N (l.erase (N : Int)) (hn.erase _) fun x hx => by
        have h3 := h x (List.mem_of_mem_erase hx)
        have h4 : x ≠ (N : Int) := fun e => by
          rw [e] at hx
          exact ((List.Nodup.mem_erase_iff hn).mp hx).1 rfl
        omega
      rw [List.length_erase_of_mem hm] at h2
      have := List.length_pos_of_mem hm
      omega
    · have h2 := nodup_len N l hn fun x hx => by
        have h3 := h x hx
        have h4 : x ≠ (N : Int) := fun e => hm (e ▸ hx)
        omega
      omega
theorem map_inj {α β : Type} {f : α → β} : ∀ {l : List α}, (l.map f).Nodup → ∀ {a b : α}, a ∈ l → b ∈ l → f a = f b → a = b
  | [], _, _, _, h, _, _ => nomatch h
  | c :: l, hn, a, b, ha, hb, e => by
    rw [List.map_cons, List.nodup_cons] at hn
    rcases List.mem_cons.mp ha with e1 | ha1
    · rcases List.mem_cons.mp hb with e2 | hb1
      · rw [e1, e2]
      · exact (hn.1 (List.mem_map.mpr ⟨b, hb1, by rw [← e, e1]⟩)).elim
    · rcases List.mem_cons.mp hb with e2 | hb1
      · exact (hn.1 (List.mem_map.mpr ⟨a, ha1, by rw [e, e2]⟩)).elim
      · exact map_inj hn.2 ha1 hb1 e
/-! ### the numbers of keys -/
theorem numK_lt {ks : List NestedKey} {k : NestedKey} (h : k ∈ ks) : numK ks k < (onceK ks).length := List.idxOf_lt_length_of_mem (onceK_mem.mpr h)
theorem numK_get {ks : List NestedKey} {k : NestedKey} (h : k ∈ ks) : (onceK ks)[numK ks k]'(numK_lt h) = k := List.getElem_idxOf _
theorem numK_inj {ks : List NestedKey} {k l : NestedKey} (hk : k ∈ ks) (hl : l ∈ ks) (e : numK ks k = numK ks l) : k = l := by
  rw [← numK_get hk, ← numK_get hl]
  congr 1
theorem numK_at {ks : List NestedKey} {v : Nat} (h : v < (onceK ks).length) : (onceK ks)[v] ∈ ks ∧ numK ks (onceK ks)[v] = v := ⟨onceK_mem.mp (List.getElem_mem h), (onceK_nodup ks).idxOf_getElem v h⟩
section
variable {xs : List PyData} {ks : List NestedKey}
theorem numsI_map (h : nkAll xs = some ks) : numsI xs = ks.map fun k => ((numK ks k : Nat) : Int) := by
  unfold numsI
  rw [h]
theorem numsI_at (h : nkAll xs = some ks) {i : Nat} {k : NestedKey} (hk : ks[i]? = some k) : (numsI xs).getD i 0 = (numK ks k : Nat) := by
  rw [numsI_map h, List.getD_eq_getElem?_getD, List.getElem?_map, hk]
  rfl
theorem numsI_iff (h : nkAll xs = some ks) {i j : Nat} {k l : NestedKey} (hk : ks[i]? = some k) (hl : ks[j]? = some l) : (numsI xs).getD i 0 = (numsI xs).getD j 0 ↔ k = l := by
  rw [numsI_at h hk, numsI_at h hl]
  exact ⟨fun e => numK_inj (List.mem_of_getElem? hk) (List.mem_of_getElem? hl) (by omega), fun e => by rw [e]⟩
theorem numsI_max (h : nkAll xs = some ks) (hne : xs ≠ []) : maxI (numsI xs) + 1 = (onceK ks).length := by
  have hl := nkAll_len h
  have hks : ks ≠ [] := fun z => hne (List.length_eq_zero_iff.mp (by rw [← hl, z]; rfl))
  obtain ⟨k, hk⟩ := List.exists_mem_of_ne_nil _ hks
  have hpos : 0 < (onceK ks).length := List.length_pos_of_mem (onceK_mem.mpr hk)
  have hv : (onceK ks).length - 1 < (onceK ks).length := by omega
  obtain ⟨m1, m2⟩ := numK_at hv
  have : maxI (numsI xs) = (((onceK ks).length - 1 : Nat) : Int) := maxI_eq (by
      rw [numsI_map h]
      exact List.mem_map.mpr ⟨_, m1, by rw [m2]⟩) fun y hy => by
    rw [numsI_map h] at hy
    obtain ⟨l, hl2, rfl⟩ := List.mem_map.mp hy
    have := numK_lt hl2
    omega
  rw [this]
  omega
theorem numsI_cover (h : nkAll xs = some ks) {v : Nat} (hv : v < (onceK ks).length) : ∃ i, i < xs.length ∧ (numsI xs).getD i 0 = (v : Int) := by
  obtain ⟨m1, m2⟩ := numK_at hv
  obtain ⟨i, hi⟩ := List.mem_iff_getElem?.mp m1
  have hlt := (List.getElem?_eq_some_iff.mp hi).1
  rw [nkAll_len h] at hlt
  exact ⟨i, hlt, by rw [numsI_at h hi, m2]⟩
theorem numsI_range (h : nkAll xs = some ks) : ∀ c ∈ numsI xs, 0 ≤ c ∧ c < (onceK ks).length := fun c hc => by
  rw [numsI_map h] at hc
  obtain ⟨l, hl2, rfl⟩ := List.mem_map.mp hc
  have := numK_lt hl2
  omega
/-- at the first places numbers stand as they come -/
theorem onceK_prefix : ∀ (ks : List NestedKey), ks.Nodup → onceK ks = ks := by
  have key : ∀ (ks acc : List NestedKey), (acc ++ ks).Nodup → ks.foldl addK acc = acc ++ ks := by
    intro ks
    induction ks with
    | nil => intro acc _; rw [List.append_nil]; rfl
    | cons k ks ih =>
      intro acc hn
      have hk : k ∉ acc := fun hm => by
        rw [List.nodup_append] at hn
        exact hn.2.2 k hm k List.mem_cons_self rfl
      rw [List.foldl_cons]
      have e : addK acc k = acc ++ [k] := if_neg hk
      rw [e, ih _ (by rw [List.append_assoc]; exact hn), List.append_assoc]
      rfl
  intro ks h
  have := key ks [] (by simpa using h)
  simpa [onceK] using this
theorem onceK_app_old : ∀ (ks acc : List NestedKey), (∀ k ∈ ks, k ∈ acc) → ks.foldl addK acc = acc
  | [], acc, _ => rfl
  | k :: ks, acc, h => by
    rw [List.foldl_cons, show addK acc k = acc from if_pos (h k List.mem_cons_self)]
    exact onceK_app_old ks acc fun l hl => h l (List.mem_cons_of_mem _ hl)
/-- the numbers of a row that goes round: places of the first period are unlike, the later ones come again -/
theorem numsI_mod (h : nkAll xs = some ks) {p : Nat} (hp : p ≤ xs.length) (p0 : 0 < p) (hu : ∀ (i j : Nat) (k l : NestedKey), i < p → j < p → ks[i]? = some k → ks[j]? = some l → k = l → i = j) (hm : ∀ (i : Nat), i < xs.length → ks[i]? = ks[i % p]?) {i : Nat} (hi : i < xs.length) : (numsI xs).getD i 0 = ((i % p : Nat) : Int) := by
  have hl := nkAll_len h
  have nd : (ks.take p).Nodup := by
    rw [List.nodup_iff_pairwise_ne, List.pairwise_iff_getElem]
    intro a b ha hb hab e
    rw [List.length_take] at ha hb
    have z := hu a b _ _ (by omega) (by omega) (by rw [List.getElem?_eq_getElem (by omega)]) (by rw [List.getElem?_eq_getElem (by omega)]) (by simpa using e)
    omega
  have e1 : onceK ks = ks.take p := by
    have e2 : ks = ks.take p ++ ks.drop p := (List.take_append_drop p ks).symm
    have e3 : onceK ks = (ks.drop p).foldl addK (onceK (ks.take p)) := by
      unfold onceK
      rw [← List.foldl_append, ← e2]
    rw [e3, onceK_prefix _ nd]
    refine onceK_app_old _ _ fun k hk => ?_
    obtain ⟨j, hj⟩ := List.mem_iff_getElem?.mp hk
    rw [List.getElem?_drop] at hj
    have hjl := (List.getElem?_eq_some_iff.mp hj).1
    rw [hm (p + j) (by omega)] at hj
    have : (p + j) % p < p := Nat.mod_lt _ p0
    exact List.mem_of_getElem? (i := (p + j) % p) (by rw [List.getElem?_take_of_lt this]; exact hj)
  have him : i % p < p := Nat.mod_lt _ p0
  have hk : ks[i]? = some (ks[i % p]'(by omega)) := by
    rw [hm i hi, List.getElem?_eq_getElem]
  rw [numsI_at h hk]
  unfold numK
  rw [e1]
  have e4 : ks[i % p]'(by omega) = (ks.take p)[i % p]'(by rw [List.length_take]; omega) := by simp
  rw [e4, nd.idxOf_getElem]
end
end K50
set_option maxHeartbeats 4000000
namespace K50
open PySem PySem.W PySem.Spec PyProof.Rows L2 Evl RZ Dl Dn
/-! ### what a place of a ring hears -/
def prv (n i : Nat) : Nat := if i = 0 then n - 1 else i - 1
theorem nxt_iff {n k i : Nat} (hk : k < n) (hi : i < n) : nxt n k = i ↔ k = prv n i := by
  unfold nxt prv
  by_cases h : k + 1 < n
  · rw [Nat.mod_eq_of_lt h]
    split <;> omega
  · have e : k + 1 = n := by omega
    rw [e, Nat.mod_self]
    split <;> omega
theorem prv_lt {n i : Nat} (hi : i < n) : prv n i < n := by unfold prv; split <;> omega
theorem nxt_lt {n i : Nat} (hi : i < n) : nxt n i < n := Nat.mod_lt _ (by omega)
section
variable {α β : Type}
theorem flat_perm (A B : α → List β) : ∀ l : List α, (l.flatMap fun k => A k ++ B k).Perm (l.flatMap A ++ l.flatMap B)
  | [] => .nil
  | k :: l => by
    rw [List.flatMap_cons, List.flatMap_cons, List.flatMap_cons]
    have ih := flat_perm A B l
    refine ((List.Perm.refl (A k ++ B k)).append ih).trans ?_
    have e1 : A k ++ B k ++ (l.flatMap A ++ l.flatMap B) = A k ++ ((B k ++ l.flatMap A) ++ l.flatMap B) := by simp [List.append_assoc]
    have e2 : A k ++ l.flatMap A ++ (B k ++ l.flatMap B) = A k ++ ((l.flatMap A ++ B k) ++ l.flatMap B) := by simp [List.append_assoc]
    rw [e1, e2]
    exact (List.Perm.refl _).append (List.perm_append_comm.append (List.Perm.refl _))
theorem flat_none (g : Nat → β) (i : Nat) : ∀ n, n ≤ i → (List.range n).flatMap (fun k => if k = i then [g k] else []) = []
  | 0, _ => rfl
  | n + 1, h => by
    rw [List.range_succ, List.flatMap_append, flat_none g i n (by omega), List.flatMap_cons, if_neg (by omega)]
    rfl
theorem flat_one (g : Nat → β) (i : Nat) : ∀ n, i < n → (List.range n).flatMap (fun k => if k = i then [g k] else []) = [g i]
  | 0, h => absurd h (Nat.not_lt_zero _)
  | n + 1, h => by
    rw [List.range_succ, List.flatMap_append, List.flatMap_cons, List.flatMap_nil, List.append_nil]
    by_cases e : n = i
    · subst e
      rw [flat_none g n n (Nat.le_refl _), if_pos rfl]
      rfl
    · rw [flat_one g i n (by omega), if_neg e]
      rfl
theorem flat_congr {f g : Nat → List β} : ∀ n, (∀ k, k < n → f k = g k) → (List.range n).flatMap f = (List.range n).flatMap g
  | 0, _ => rfl
  | n + 1, h => by
    rw [List.range_succ, List.flatMap_append, List.flatMap_append, flat_congr n fun k hk => h k (by omega), List.flatMap_cons, List.flatMap_cons, h n (by omega)]
    rfl
end
theorem ints4 (a b c d : Int) : intsT [a, b, c, d] = .tuple [.int a, .int b, .int c, .int d] := rfl
theorem toP_road (es : List Int) (k i : Nat) : toP (i : Int) (roadR es k) = decide (nxt es.length k = i) := by
  show decide (((nxt es.length k : Nat) : Int) = (i : Int)) = decide (nxt es.length k = i)
  by_cases h : nxt es.length k = i
  · rw [decide_eq_true h, decide_eq_true (by omega)]
  · rw [decide_eq_false h, decide_eq_false (by omega)]
theorem toP_back (es : List Int) (k i : Nat) : toP (i : Int) (backT (roadR es k)) = decide (k = i) := by
  show decide ((k : Int) = (i : Int)) = decide (k = i)
  by_cases h : k = i
  · rw [decide_eq_true h, decide_eq_true (by omega)]
  · rw [decide_eq_false h, decide_eq_false (by omega)]
theorem in_perm {es : List Int} {i : Nat} (hi : i < es.length) : (inD (netR es) (i : Int)).Perm [roadR es (prv es.length i), backT (roadR es i)] := by
  unfold inD
  refine (List.mergeSort_perm _ _).trans ?_
  unfold netR
  rw [List.filter_flatMap]
  have e1 : (List.range es.length).flatMap (fun k => (netPair es k).filter (toP (i : Int))) = (List.range es.length).flatMap (fun k => (if k = prv es.length i then [roadR es k] else []) ++ (if k = i then [backT (roadR es k)] else [])) := flat_congr _ fun k hk => by
    show List.filter _ [roadR es k, backT (roadR es k)] = _
    rw [List.filter_cons, List.filter_cons, List.filter_nil, toP_road, toP_back]
    by_cases h1 : nxt es.length k = i
    · rw [if_pos (decide_eq_true h1), if_pos ((nxt_iff hk hi).mp h1)]
      by_cases h2 : k = i
      · rw [if_pos (decide_eq_true h2), if_pos h2]; rfl
      · rw [if_neg (by simp [h2]), if_neg h2]; rfl
    · rw [if_neg (by simp [h1]), if_neg fun z => h1 ((nxt_iff hk hi).mpr z)]
      by_cases h2 : k = i
      · rw [if_pos (decide_eq_true h2), if_pos h2]; rfl
      · rw [if_neg (by simp [h2]), if_neg h2]; rfl
  rw [e1]
  refine (flat_perm _ _ _).trans ?_
  rw [flat_one _ _ _ (prv_lt hi), flat_one _ _ _ hi]
  exact List.Perm.refl _
theorem le01 (a b c d : Int) : dataLe false keyD (intsT [1, a, b]) (intsT [0, c, d]) = false := rfl
theorem asc_two {l : List PyData} {x y : PyData} (h : l.Perm [x, y]) (hxy : dataLe false keyD y x = false) : ascD l = [x, y] := by
  have T := sortLe_total (listOrd itemOrd) false fun b : PyData => keyToks (keyD b)
  have hs := List.pairwise_mergeSort (le := dataLe false keyD) (fun a b c h1 h2 => T.trans a b c h1 h2) (fun a b => by
    have := T.total a b
    show (sortLe (listOrd itemOrd) false (fun b => keyToks (keyD b)) a b || sortLe (listOrd itemOrd) false (fun b => keyToks (keyD b)) b a) = true
    simpa using this) l
  have hp : (ascD l).Perm [x, y] := (List.mergeSort_perm l _).trans h
  have hl := hp.length_eq
  match q : ascD l, hl with
  | [a, b], _ =>
    rw [q] at hp
    have hs2 : [a, b].Pairwise fun a b => dataLe false keyD a b = true := by
      have : ascD l = l.mergeSort (dataLe false keyD) := rfl
      rw [← this, q] at hs
      exact hs
    have hab : dataLe false keyD a b = true := (List.pairwise_cons.mp hs2).1 b (List.mem_singleton.mpr rfl)
    have ha : a ∈ [x, y] := hp.subset List.mem_cons_self
    rcases List.mem_cons.mp ha with e | ha
    · subst e
      have := (List.perm_cons a).mp hp
      rw [List.singleton_perm_singleton.mp this]
    · have e := List.mem_singleton.mp ha
      subst e
      have h3 : [a, b].Perm [a, x] := hp.trans (List.Perm.swap a x [])
      have := (List.perm_cons a).mp h3
      have e2 : b = x := List.singleton_perm_singleton.mp this
      subst e2
      rw [hxy] at hab
      cases hab
def nb (es : List Int) (i : Nat) (d : Int) : Nat := if d = es.getD i 0 then nxt es.length i else prv es.length i
def ou (es : List Int) (i : Nat) (d : Int) : Int := if d = es.getD i 0 then 1 - es.getD (nxt es.length i) 0 else es.getD (prv es.length i) 0
def is01 (es : List Int) : Prop := ∀ i, i < es.length → es.getD i 0 = 0 ∨ es.getD i 0 = 1
theorem heard_ring {es c : List Int} (h01 : is01 es) {i : Nat} (hi : i < es.length) : ascD ((inD (netR es) (i : Int)).map (heardD c)) = [intsT [0, ou es i 0, c.getD (nb es i 0) 0], intsT [1, ou es i 1, c.getD (nb es i 1) 0]] := by
  have hp := (in_perm hi).map (heardD c)
  have hn : nxt es.length (prv es.length i) = i := (nxt_iff (prv_lt hi) hi).mpr rfl
  have e1 : heardD c (roadR es (prv es.length i)) = intsT [1 - es.getD i 0, es.getD (prv es.length i) 0, c.getD (prv es.length i) 0] := by
    show intsT [1 - es.getD (nxt es.length (prv es.length i)) 0, es.getD (prv es.length i) 0, c.getD ((prv es.length i : Nat) : Int).toNat 0] = _
    rw [hn, Int.toNat_natCast]
  have e2 : heardD c (backT (roadR es i)) = intsT [es.getD i 0, 1 - es.getD (nxt es.length i) 0, c.getD (nxt es.length i) 0] := by
    show intsT [es.getD i 0, 1 - es.getD (nxt es.length i) 0, c.getD ((nxt es.length i : Nat) : Int).toNat 0] = _
    rw [Int.toNat_natCast]
  have hp2 : ((inD (netR es) (i : Int)).map (heardD c)).Perm [intsT [1 - es.getD i 0, es.getD (prv es.length i) 0, c.getD (prv es.length i) 0], intsT [es.getD i 0, 1 - es.getD (nxt es.length i) 0, c.getD (nxt es.length i) 0]] := by
    rw [← e1, ← e2]
    exact hp
  unfold ou nb
  rcases h01 i hi with h | h
  · rw [h] at hp2 ⊢
    rw [if_pos rfl, if_pos rfl, if_neg (by decide), if_neg (by decide)]
    exact asc_two (hp2.trans (List.Perm.swap _ _ [])) (le01 _ _ _ _)
  · rw [h] at hp2 ⊢
    rw [if_neg (by decide), if_neg (by decide), if_pos rfl, if_pos rfl]
    exact asc_two hp2 (le01 _ _ _ _)
/-! ### the keys of the lots of a ring -/
def lotK (es c : List Int) (i : Nat) : NestedKey := .tup [.num (c.getD i 0), .tup [.tup [.num 0, .num (ou es i 0), .num (c.getD (nb es i 0) 0)], .tup [.num 1, .num (ou es i 1), .num (c.getD (nb es i 1) 0)]]]
theorem nkAll_of {β : Type} {f : β → PyData} {g : β → NestedKey} : ∀ (l : List β), (∀ x ∈ l, nk (f x) = some (g x)) → nkAll (l.map f) = some (l.map g)
  | [], _ => rfl
  | x :: l, h => by
    rw [List.map_cons, List.map_cons]
    unfold nkAll
    rw [h x List.mem_cons_self, nkAll_of l fun y hy => h y (List.mem_cons_of_mem _ hy)]
theorem lots_keys {es c : List Int} (h01 : is01 es) (hl : c.length = es.length) : nkAll (lotsD c (netR es)) = some ((List.range c.length).map (lotK es c)) := by
  unfold lotsD
  refine nkAll_of _ fun i hi => ?_
  have hi2 : i < es.length := by rw [← hl]; exact List.mem_range.mp hi
  unfold lotD
  rw [heard_ring h01 hi2]
  rfl
theorem lotK_iff {es c : List Int} {i j : Nat} : lotK es c i = lotK es c j ↔ c.getD i 0 = c.getD j 0 ∧ (ou es i 0 = ou es j 0 ∧ c.getD (nb es i 0) 0 = c.getD (nb es j 0) 0) ∧ ou es i 1 = ou es j 1 ∧ c.getD (nb es i 1) 0 = c.getD (nb es j 1) 0 := by
  unfold lotK
  constructor
  · intro h
    injection h with h
    injection h with h1 h2
    injection h2 with h2 _
    injection h2 with h2
    injection h2 with h3 h4
    injection h4 with h4 _
    injection h3 with h3
    injection h4 with h4
    injection h3 with _ h3
    injection h3 with h5 h3
    injection h3 with h6 _
    injection h4 with _ h4
    injection h4 with h7 h4
    injection h4 with h8 _
    injection h1 with h1
    injection h5 with h5
    injection h6 with h6
    injection h7 with h7
    injection h8 with h8
    exact ⟨h1, ⟨h5, h6⟩, h7, h8⟩
  · rintro ⟨h1, ⟨h2, h3⟩, h4, h5⟩
    rw [h1, h2, h3, h4, h5]
/-- one round more -/
theorem step_iff {es c : List Int} (h01 : is01 es) (hl : c.length = es.length) {i j : Nat} (hi : i < es.length) (hj : j < es.length) : (stepC (netR es) c).getD i 0 = (stepC (netR es) c).getD j 0 ↔ c.getD i 0 = c.getD j 0 ∧ (ou es i 0 = ou es j 0 ∧ c.getD (nb es i 0) 0 = c.getD (nb es j 0) 0) ∧ ou es i 1 = ou es j 1 ∧ c.getD (nb es i 1) 0 = c.getD (nb es j 1) 0 := by
  have h := lots_keys (c := c) h01 hl
  unfold stepC
  rw [numsI_iff h (i := i) (j := j) (k := lotK es c i) (l := lotK es c j) (by rw [List.getElem?_map, List.getElem?_range (by omega)]; rfl) (by rw [List.getElem?_map, List.getElem?_range (by omega)]; rfl)]
  exact lotK_iff
/-- where a round parts nothing more -/
theorem stable_step {es c : List Int} (h01 : is01 es) (hl : c.length = es.length) (h0 : 0 < es.length) {ys : List PyData} {kz : List NestedKey} (hc : c = numsI ys) (hk : nkAll ys = some kz) (hs : maxI (stepC (netR es) c) = maxI c) {i j : Nat} (hi : i < es.length) (hj : j < es.length) (e : c.getD i 0 = c.getD j 0) :
    (stepC (netR es) c).getD i 0 = (stepC (netR es) c).getD j 0 := by
  have h := lots_keys (c := c) h01 hl
  have ly : ys.length = es.length := by rw [← hl, hc, numsI_len hk]
  have ne1 : lotsD c (netR es) ≠ [] := fun z => by
    have h3 : c.length = 0 := by
      have := congrArg List.length z
      rw [lots_len] at this
      exact this
    omega
  have ne2 : ys ≠ [] := fun z => by rw [z] at ly; simp at ly; omega
  have m1 := numsI_max h ne1
  have m2 := numsI_max hk ne2
  have m3 : (onceK ((List.range c.length).map (lotK es c))).length = (onceK kz).length := by
    have : maxI (numsI (lotsD c (netR es))) = maxI (numsI ys) := by rw [← hc]; exact hs
    omega
  let fst : NestedKey → Int := fun k => match k with
    | .tup (.num a :: _) => a
    | _ => 0
  have nd : ((onceK ((List.range c.length).map (lotK es c))).map fst).Nodup := by
    refine pig (N := (onceK kz).length) (fun v hv => ?_) (by rw [List.length_map, m3])
    obtain ⟨t, ht, hv2⟩ := numsI_cover hk hv
    refine List.mem_map.mpr ⟨lotK es c t, onceK_mem.mpr (List.mem_map.mpr ⟨t, List.mem_range.mpr (by omega), rfl⟩), ?_⟩
    show c.getD t 0 = (v : Int)
    rw [hc]
    exact hv2
  have key : lotK es c i = lotK es c j := map_inj nd (onceK_mem.mpr (List.mem_map.mpr ⟨i, List.mem_range.mpr (by omega), rfl⟩)) (onceK_mem.mpr (List.mem_map.mpr ⟨j, List.mem_range.mpr (by omega), rfl⟩)) e
  exact (step_iff h01 hl hi hj).mpr (lotK_iff.mp key)
end K50
set_option maxHeartbeats 4000000
namespace K50
open PySem PySem.W PySem.Spec PyProof.Rows L2 Evl RZ Dl Dn
/-! ### a pattern that goes round -/
section
variable (ps : List (PyData × Int))
def q (x : Int) : PyData × Int := at2 ps (x % (ps.length : Int))
def Rot (t : Int) : Prop := ∀ x, q ps (x + t) = q ps x
def Axi (a : Int) : Prop := ∀ x, (q ps (a - x)).1 = (q ps x).1 ∧ (q ps (a - x)).2 ≠ (q ps x).2
def ci (c : List Int) (x : Int) : Int := c.getD (x % (ps.length : Int)).toNat 0
end
theorem emod_uniq {n x r k : Int} (h0 : 0 ≤ r) (h1 : r < n) (e : x = r + n * k) : x % n = r := by
  rw [e, Int.add_mul_emod_self_left]
  exact Int.emod_eq_of_lt h0 h1
theorem emod_bd {n x : Int} (h : 0 < n) : 0 ≤ x % n ∧ x % n < n := ⟨Int.emod_nonneg _ (by omega), Int.emod_lt_of_pos _ h⟩
theorem emod_back (n x : Int) : x = x % n + n * (x / n) := (Int.emod_add_mul_ediv x n).symm
section
variable {ps : List (PyData × Int)}
theorem q_per (k x : Int) : q ps (x + (ps.length : Int) * k) = q ps x := by
  unfold q
  rw [Int.add_mul_emod_self_left]
theorem q_nat {i : Nat} (h : i < ps.length) : q ps (i : Int) = at2 ps (i : Int) := by
  unfold q
  rw [Int.emod_eq_of_lt (by omega) (by omega)]
theorem q_idx (h : 0 < ps.length) (x : Int) : ∃ i : Nat, i < ps.length ∧ x % (ps.length : Int) = (i : Int) ∧ q ps x = at2 ps (i : Int) := by
  have b := emod_bd (n := (ps.length : Int)) (x := x) (by omega)
  refine ⟨(x % (ps.length : Int)).toNat, by omega, by omega, ?_⟩
  unfold q
  congr 1
  omega
theorem q_mem (h : 0 < ps.length) (x : Int) : q ps x ∈ ps := by
  obtain ⟨i, hi, _, e⟩ := q_idx h x
  rw [e]
  exact List.mem_of_getElem? (at2_get (by omega) (by omega))
theorem nxt_of {n : Nat} {x : Int} {i : Nat} (hi : i < n) (e : x % (n : Int) = (i : Int)) : (x + 1) % (n : Int) = ((nxt n i : Nat) : Int) := by
  have z := emod_back n x
  unfold nxt
  by_cases h : i + 1 < n
  · rw [Nat.mod_eq_of_lt h]
    exact emod_uniq (k := x / n) (by omega) (by omega) (by omega)
  · have e2 : i + 1 = n := by omega
    rw [e2, Nat.mod_self]
    refine emod_uniq (k := x / n + 1) (by omega) (by omega) ?_
    rw [Int.mul_add]
    omega
theorem prv_of {n : Nat} {x : Int} {i : Nat} (hi : i < n) (e : x % (n : Int) = (i : Int)) : (x - 1) % (n : Int) = ((prv n i : Nat) : Int) := by
  have z := emod_back n x
  unfold prv
  by_cases h : i = 0
  · rw [if_pos h]
    refine emod_uniq (k := x / n - 1) (by omega) (by omega) ?_
    rw [Int.mul_sub]
    omega
  · rw [if_neg h]
    exact emod_uniq (k := x / n) (by omega) (by omega) (by omega)
theorem es_at {i : Nat} (h : i < ps.length) : (ps.map (·.2)).getD i 0 = (at2 ps (i : Int)).2 := by
  rw [List.getD_eq_getElem?_getD, List.getElem?_map, List.getElem?_eq_getElem h]
  unfold at2
  rw [Int.toNat_natCast, List.getElem?_eq_getElem h]
  rfl
theorem es_q {i : Nat} {x : Int} (h : i < ps.length) (e : x % (ps.length : Int) = (i : Int)) : (ps.map (·.2)).getD i 0 = (q ps x).2 := by
  rw [es_at h]
  unfold q
  rw [e]
theorem ci_at {c : List Int} {i : Nat} {x : Int} (e : x % (ps.length : Int) = (i : Int)) : ci ps c x = c.getD i 0 := by
  unfold ci
  rw [e, Int.toNat_natCast]
theorem ok_is01 (h : okQ ps) : is01 (ps.map (·.2)) := fun i hi => by
  rw [List.length_map] at hi
  rw [es_at hi]
  exact (h.2.2 _ (List.mem_of_getElem? (at2_get (by omega) (by omega)))).2
theorem se01 (h : okQ ps) (x : Int) : (q ps x).2 = 0 ∨ (q ps x).2 = 1 := (h.2.2 _ (q_mem h.1 x)).2
/-- one round more, by places counted on and on -/
theorem step_same (h : okQ ps) {c : List Int} (hl : c.length = ps.length) {x y : Int} (e : (q ps x).2 = (q ps y).2) :
    ci ps (stepC (netR (ps.map (·.2))) c) x = ci ps (stepC (netR (ps.map (·.2))) c) y ↔ ci ps c x = ci ps c y ∧ ((q ps (x + 1)).2 = (q ps (y + 1)).2 ∧ ci ps c (x + 1) = ci ps c (y + 1)) ∧ (q ps (x - 1)).2 = (q ps (y - 1)).2 ∧ ci ps c (x - 1) = ci ps c (y - 1) := by
  obtain ⟨i, hi, xi, qi⟩ := q_idx h.1 x
  obtain ⟨j, hj, xj, qj⟩ := q_idx h.1 y
  have lm : (ps.map (·.2)).length = ps.length := List.length_map _
  rw [ci_at xi, ci_at xj, step_iff (ok_is01 h) (by rw [hl, lm]) (by omega) (by omega), ci_at xi, ci_at xj]
  have ei := es_q hi xi
  have ej := es_q hj xj
  have a1 := es_q (nxt_lt hi) (nxt_of hi xi)
  have a2 := es_q (nxt_lt hj) (nxt_of hj xj)
  have a3 := es_q (prv_lt hi) (prv_of hi xi)
  have a4 := es_q (prv_lt hj) (prv_of hj xj)
  rw [ci_at (nxt_of hi xi), ci_at (nxt_of hj xj), ci_at (prv_of hi xi), ci_at (prv_of hj xj)]
  unfold ou nb
  rw [ei, ej, lm, a1, a2, a3, a4]
  rcases se01 h y with z | z
  · rw [e, z, if_pos rfl, if_pos rfl, if_pos rfl, if_pos rfl, if_neg (by decide), if_neg (by decide), if_neg (by decide), if_neg (by decide)]
    constructor
    · rintro ⟨h1, ⟨h2, h3⟩, h4, h5⟩; exact ⟨h1, ⟨by omega, h3⟩, h4, h5⟩
    · rintro ⟨h1, ⟨h2, h3⟩, h4, h5⟩; exact ⟨h1, ⟨by omega, h3⟩, h4, h5⟩
  · rw [e, z, if_neg (by decide), if_neg (by decide), if_neg (by decide), if_neg (by decide), if_pos rfl, if_pos rfl, if_pos rfl, if_pos rfl]
    constructor
    · rintro ⟨h1, ⟨h2, h3⟩, h4, h5⟩; exact ⟨h1, ⟨by omega, h5⟩, h2, h3⟩
    · rintro ⟨h1, ⟨h2, h3⟩, h4, h5⟩; exact ⟨h1, ⟨h4, h5⟩, by omega, h3⟩
theorem step_turn (h : okQ ps) {c : List Int} (hl : c.length = ps.length) {x y : Int} (e : (q ps x).2 ≠ (q ps y).2) :
    ci ps (stepC (netR (ps.map (·.2))) c) x = ci ps (stepC (netR (ps.map (·.2))) c) y ↔ ci ps c x = ci ps c y ∧ ((q ps (x + 1)).2 ≠ (q ps (y - 1)).2 ∧ ci ps c (x + 1) = ci ps c (y - 1)) ∧ (q ps (x - 1)).2 ≠ (q ps (y + 1)).2 ∧ ci ps c (x - 1) = ci ps c (y + 1) := by
  obtain ⟨i, hi, xi, qi⟩ := q_idx h.1 x
  obtain ⟨j, hj, xj, qj⟩ := q_idx h.1 y
  have lm : (ps.map (·.2)).length = ps.length := List.length_map _
  rw [ci_at xi, ci_at xj, step_iff (ok_is01 h) (by rw [hl, lm]) (by omega) (by omega), ci_at xi, ci_at xj]
  have ei := es_q hi xi
  have ej := es_q hj xj
  have a1 := es_q (nxt_lt hi) (nxt_of hi xi)
  have a2 := es_q (nxt_lt hj) (nxt_of hj xj)
  have a3 := es_q (prv_lt hi) (prv_of hi xi)
  have a4 := es_q (prv_lt hj) (prv_of hj xj)
  have s1 := se01 h (x + 1)
  have s2 := se01 h (x - 1)
  have s3 := se01 h (y + 1)
  have s4 := se01 h (y - 1)
  have n01 : ¬ ((0 : Int) = 1) := by decide
  have n10 : ¬ ((1 : Int) = 0) := by decide
  rw [ci_at (nxt_of hi xi), ci_at (nxt_of hj xj), ci_at (prv_of hi xi), ci_at (prv_of hj xj)]
  unfold ou nb
  rw [ei, ej, lm, a1, a2, a3, a4]
  rcases se01 h x with z | z
  · have zy : (q ps y).2 = 1 := by rcases se01 h y with w | w; exact absurd (z.trans w.symm) e; exact w
    rw [z, zy]
    simp only [n01, n10, ↓reduceIte]
    constructor
    · rintro ⟨h1, ⟨h2, h3⟩, h4, h5⟩; exact ⟨h1, ⟨by omega, h3⟩, by omega, h5⟩
    · rintro ⟨h1, ⟨h2, h3⟩, h4, h5⟩; exact ⟨h1, ⟨by omega, h3⟩, by omega, h5⟩
  · have zy : (q ps y).2 = 0 := by rcases se01 h y with w | w; exact w; exact absurd (z.trans w.symm) e
    rw [z, zy]
    simp only [n01, n10, ↓reduceIte]
    constructor
    · rintro ⟨h1, ⟨h2, h3⟩, h4, h5⟩; exact ⟨h1, ⟨by omega, h5⟩, by omega, h3⟩
    · rintro ⟨h1, ⟨h2, h3⟩, h4, h5⟩; exact ⟨h1, ⟨by omega, h5⟩, by omega, h3⟩
/-! ### the classes of a ring -/
def ssP (ps : List (PyData × Int)) : List PyData := ps.map (·.1)
def cP (ps : List (PyData × Int)) (m : Nat) : List Int := clsC (netR (ps.map (·.2))) (ssP ps) m
theorem nk_wd : ∀ a ∈ wd, ∃ k, nk a = some k ∧ k.depth ≤ 8 := by
  intro a ha
  unfold wd at ha
  simp only [List.mem_cons, List.not_mem_nil, or_false] at ha
  rcases ha with rfl | rfl | rfl | rfl | rfl | rfl <;> exact ⟨_, rfl, by decide +kernel⟩
theorem nk_wd_inj : ∀ a ∈ wd, ∀ b ∈ wd, nk a = nk b → a = b := by
  intro a ha b hb
  unfold wd at ha hb
  simp only [List.mem_cons, List.not_mem_nil, or_false] at ha hb
  rcases ha with rfl | rfl | rfl | rfl | rfl | rfl <;> rcases hb with rfl | rfl | rfl | rfl | rfl | rfl <;> first | (intro _; rfl) | (intro h; exfalso; revert h; simp [nk, nkAll]; try decide)
theorem ss_nk (h : okQ ps) : ∃ ks, nkAll (ssP ps) = some ks ∧ (∀ k ∈ ks, k.depth ≤ 8) := by
  obtain ⟨ks, h1, h2, _⟩ := nkAll_ok (m := 8) (xs := ssP ps) fun x hx => by
    obtain ⟨p, hp, rfl⟩ := List.mem_map.mp hx
    exact nk_wd _ (h.2.2 p hp).1
  exact ⟨ks, h1, h2⟩
theorem net_roads (ps : List (PyData × Int)) : RoadsIn ps.length (netR (ps.map (·.2))) := fun r hr => by
  have lm : (ps.map (·.2)).length = ps.length := List.length_map _
  unfold netR at hr
  obtain ⟨k, hk, hr⟩ := List.mem_flatMap.mp hr
  have hk2 : k < ps.length := by rw [← lm]; exact List.mem_range.mp hk
  have hn := nxt_lt hk2
  rw [← lm] at hn
  unfold netPair at hr
  rcases List.mem_cons.mp hr with rfl | hr
  · exact ⟨_, _, _, _, rfl, by omega, by omega⟩
  · rw [List.mem_singleton.mp hr]
    exact ⟨_, _, _, _, rfl, by omega, by rw [lm] at hn ⊢; omega⟩
theorem cP_len (h : okQ ps) (m : Nat) : (cP ps m).length = ps.length := by
  obtain ⟨ks, h1, _⟩ := ss_nk h
  have lr := net_roads ps
  have := cls_len lr h1 m
  rw [show (ssP ps).length = ps.length from List.length_map _] at this
  exact this
theorem cP_zero (h : okQ ps) {x y : Int} : ci ps (cP ps 0) x = ci ps (cP ps 0) y ↔ (q ps x).1 = (q ps y).1 := by
  obtain ⟨ks, h1, _⟩ := ss_nk h
  obtain ⟨i, hi, xi, qi⟩ := q_idx h.1 x
  obtain ⟨j, hj, xj, qj⟩ := q_idx h.1 y
  have gi : (ssP ps)[i]? = some (q ps x).1 := by
    unfold ssP
    rw [qi, List.getElem?_map, show ps[i]? = some (at2 ps (i : Int)) from by have := at2_get (ps := ps) (i := (i : Int)) (by omega) (by omega); rwa [Int.toNat_natCast] at this]
    rfl
  have gj : (ssP ps)[j]? = some (q ps y).1 := by
    unfold ssP
    rw [qj, List.getElem?_map, show ps[j]? = some (at2 ps (j : Int)) from by have := at2_get (ps := ps) (i := (j : Int)) (by omega) (by omega); rwa [Int.toNat_natCast] at this]
    rfl
  obtain ⟨k, k1, k2⟩ := nkAll_get h1 gi
  obtain ⟨l, l1, l2⟩ := nkAll_get h1 gj
  rw [ci_at xi, ci_at xj]
  show (numsI (ssP ps)).getD i 0 = (numsI (ssP ps)).getD j 0 ↔ _
  rw [numsI_iff h1 k1 l1]
  constructor
  · intro e
    exact nk_wd_inj _ (h.2.2 _ (q_mem h.1 x)).1 _ (h.2.2 _ (q_mem h.1 y)).1 (by rw [k2, l2, e])
  · intro e
    rw [e, l2] at k2
    exact (Option.some.inj k2).symm
theorem cP_sign (h : okQ ps) : ∀ (m : Nat) {x y : Int}, ci ps (cP ps m) x = ci ps (cP ps m) y → (q ps x).1 = (q ps y).1
  | 0, x, y, e => (cP_zero h).mp e
  | m + 1, x, y, e => by
    have e2 : ci ps (stepC (netR (ps.map (·.2))) (cP ps m)) x = ci ps (stepC (netR (ps.map (·.2))) (cP ps m)) y := e
    refine cP_sign h m ?_
    by_cases hs : (q ps x).2 = (q ps y).2
    · exact ((step_same h (cP_len h m) hs).mp e2).1
    · exact ((step_turn h (cP_len h m) hs).mp e2).1
theorem rot_cls (h : okQ ps) {t : Int} (ht : Rot ps t) : ∀ (m : Nat) (x : Int), ci ps (cP ps m) (x + t) = ci ps (cP ps m) x
  | 0, x => (cP_zero h).mpr (by rw [ht x])
  | m + 1, x => by
    refine (step_same h (cP_len h m) (by rw [ht x])).mpr ⟨rot_cls h ht m x, ⟨?_, ?_⟩, ?_, ?_⟩
    · rw [show x + t + 1 = x + 1 + t by omega, ht]
    · rw [show x + t + 1 = x + 1 + t by omega, rot_cls h ht m]
    · rw [show x + t - 1 = x - 1 + t by omega, ht]
    · rw [show x + t - 1 = x - 1 + t by omega, rot_cls h ht m]
theorem axi_cls (h : okQ ps) {a : Int} (ha : Axi ps a) : ∀ (m : Nat) (x : Int), ci ps (cP ps m) (a - x) = ci ps (cP ps m) x
  | 0, x => (cP_zero h).mpr (ha x).1
  | m + 1, x => by
    refine (step_turn h (cP_len h m) (ha x).2).mpr ⟨axi_cls h ha m x, ⟨?_, ?_⟩, ?_, ?_⟩
    · rw [show a - x + 1 = a - (x - 1) by omega]; exact (ha _).2
    · rw [show a - x + 1 = a - (x - 1) by omega]; exact axi_cls h ha m _
    · rw [show a - x - 1 = a - (x + 1) by omega]; exact (ha _).2
    · rw [show a - x - 1 = a - (x + 1) by omega]; exact axi_cls h ha m _
theorem cP_num (h : okQ ps) : ∀ m, ∃ ys kz, cP ps m = numsI ys ∧ nkAll ys = some kz
  | 0 => by
    obtain ⟨ks, h1, _⟩ := ss_nk h
    exact ⟨_, ks, rfl, h1⟩
  | m + 1 => ⟨_, _, rfl, lots_keys (ok_is01 h) (by rw [List.length_map]; exact cP_len h m)⟩
/-- for ever: two places are in one class just if one is carried to the other -/
theorem cls_iff (h : okQ ps) {m : Nat} (hs : Stable (netR (ps.map (·.2))) (ssP ps) m) {x y : Int} :
    ci ps (cP ps m) x = ci ps (cP ps m) y ↔ ((q ps x).2 = (q ps y).2 ∧ Rot ps (y - x)) ∨ ((q ps x).2 ≠ (q ps y).2 ∧ Axi ps (x + y)) := by
  have lm : (ps.map (·.2)).length = ps.length := List.length_map _
  obtain ⟨ys, kz, hc, hk⟩ := cP_num h m
  have st : ∀ {x y : Int}, ci ps (cP ps m) x = ci ps (cP ps m) y → ci ps (stepC (netR (ps.map (·.2))) (cP ps m)) x = ci ps (stepC (netR (ps.map (·.2))) (cP ps m)) y := fun {x y} e => by
    obtain ⟨i, hi, xi, _⟩ := q_idx h.1 x
    obtain ⟨j, hj, xj, _⟩ := q_idx h.1 y
    rw [ci_at xi, ci_at xj] at e ⊢
    exact stable_step (ok_is01 h) (by rw [cP_len h m, lm]) (by rw [lm]; exact h.1) hc hk hs (by omega) (by omega) e
  constructor
  · intro e
    by_cases hs : (q ps x).2 = (q ps y).2
    · refine .inl ⟨hs, ?_⟩
      have walk : ∀ k : Nat, ci ps (cP ps m) (x + k) = ci ps (cP ps m) (y + k) ∧ (q ps (x + k)).2 = (q ps (y + k)).2 := by
        intro k
        induction k with
        | zero => simpa using ⟨e, hs⟩
        | succ k ih =>
          obtain ⟨_, ⟨h2, h3⟩, _⟩ := (step_same h (cP_len h m) ih.2).mp (st ih.1)
          have a1 : x + ((k + 1 : Nat) : Int) = x + k + 1 := by omega
          have a2 : y + ((k + 1 : Nat) : Int) = y + k + 1 := by omega
          rw [a1, a2]
          exact ⟨h3, h2⟩
      intro z
      have b := emod_bd (n := (ps.length : Int)) (x := z - x) (by have := h.1; omega)
      have zb := emod_back (ps.length : Int) (z - x)
      obtain ⟨k, hk⟩ : ∃ k : Nat, (z - x) % (ps.length : Int) = (k : Int) := ⟨((z - x) % (ps.length : Int)).toNat, by omega⟩
      obtain ⟨w1, w2⟩ := walk k
      have w3 := cP_sign h m w1
      have e1 : z = x + k + (ps.length : Int) * ((z - x) / (ps.length : Int)) := by omega
      have e2 : z + (y - x) = y + k + (ps.length : Int) * ((z - x) / (ps.length : Int)) := by omega
      have e3 : q ps z = q ps (x + k) := by
        conv => lhs; rw [e1]
        rw [q_per]
      rw [e2, q_per, e3]
      exact (Prod.ext w3 w2).symm
    · refine .inr ⟨hs, ?_⟩
      have walk : ∀ k : Nat, ci ps (cP ps m) (x + k) = ci ps (cP ps m) (y - k) ∧ (q ps (x + k)).2 ≠ (q ps (y - k)).2 := by
        intro k
        induction k with
        | zero => simpa using ⟨e, hs⟩
        | succ k ih =>
          obtain ⟨_, ⟨h2, h3⟩, _⟩ := (step_turn h (cP_len h m) ih.2).mp (st ih.1)
          have a1 : x + ((k + 1 : Nat) : Int) = x + k + 1 := by omega
          have a2 : y - ((k + 1 : Nat) : Int) = y - k - 1 := by omega
          rw [a1, a2]
          exact ⟨h3, h2⟩
      intro z
      have b := emod_bd (n := (ps.length : Int)) (x := z - x) (by have := h.1; omega)
      have zb := emod_back (ps.length : Int) (z - x)
      obtain ⟨k, hk⟩ : ∃ k : Nat, (z - x) % (ps.length : Int) = (k : Int) := ⟨((z - x) % (ps.length : Int)).toNat, by omega⟩
      obtain ⟨w1, w2⟩ := walk k
      have w3 := cP_sign h m w1
      have e1 : z = x + k + (ps.length : Int) * ((z - x) / (ps.length : Int)) := by omega
      have e2 : x + y - z = y - k + (ps.length : Int) * (-((z - x) / (ps.length : Int))) := by
        rw [Int.mul_neg]
        omega
      have e3 : q ps z = q ps (x + k) := by
        conv => lhs; rw [e1]
        rw [q_per]
      rw [e2, q_per, e3]
      exact ⟨w3.symm, fun z => w2 z.symm⟩
  · rintro (⟨_, hr⟩ | ⟨_, ha⟩)
    · have := rot_cls h hr m x
      rw [show x + (y - x) = y by omega] at this
      exact this.symm
    · have := axi_cls h ha m y
      rw [show x + y - y = x by omega] at this
      exact this
end
end K50
set_option maxHeartbeats 4000000
namespace K50
open PySem PySem.W PySem.Spec PyProof.Rows L2 Evl RZ Dl Dn
section
variable {ps qs : List (PyData × Int)}
/-! ### axes -/
theorem q_mod (h : 0 < ps.length) (x : Int) : q ps (x % (ps.length : Int)) = q ps x := by
  unfold q
  rw [Int.emod_emod_of_dvd x (Int.dvd_refl _)]
theorem q_congr {x y : Int} (h : 0 < ps.length) (e : x % (ps.length : Int) = y % (ps.length : Int)) : q ps x = q ps y := by
  rw [← q_mod h x, e, q_mod h y]
theorem axi_mod (h : 0 < ps.length) (a : Int) : Axi ps (a % (ps.length : Int)) ↔ Axi ps a := by
  have z := emod_back (ps.length : Int) a
  have e : ∀ x, q ps (a % (ps.length : Int) - x) = q ps (a - x) := fun x => by
    have e1 : a - x = a % (ps.length : Int) - x + (ps.length : Int) * (a / (ps.length : Int)) := by omega
    conv => rhs; rw [e1]
    rw [q_per]
  unfold Axi
  constructor
  · intro ha x
    rw [← e]
    exact ha x
  · intro ha x
    rw [e]
    exact ha x
theorem turned_iff (h : okQ ps) {i j : Int} (hi : 0 ≤ i ∧ i < ps.length) (hj : 0 ≤ j ∧ j < ps.length) : turned ps i j = true ↔ (at2 ps i).1 = (at2 ps j).1 ∧ (at2 ps i).2 ≠ (at2 ps j).2 := by
  unfold turned
  rw [Bool.and_eq_true, decide_eq_true_eq, wd_eqv (h.2.2 _ (List.mem_of_getElem? (at2_get hi.1 hi.2))).1 (h.2.2 _ (List.mem_of_getElem? (at2_get hj.1 hj.2))).1]
theorem fmod_is {a : Int} {n : Nat} : a.fmod (n : Int) = a % (n : Int) := Int.fmod_eq_emod_of_nonneg a (by omega)
theorem mem_below_iff {n i : Int} : i ∈ below n ↔ 0 ≤ i ∧ i < n := by
  constructor
  · exact mem_below
  · rintro ⟨h0, h1⟩
    unfold below
    exact List.mem_map.mpr ⟨i.toNat, List.mem_range.mpr (by omega), by omega⟩
theorem mem_axes (h : okQ ps) {a : Int} : a ∈ axes ps ↔ (0 ≤ a ∧ a < ps.length) ∧ Axi ps a := by
  unfold axes
  rw [List.mem_filter, mem_below_iff, List.all_eq_true]
  refine and_congr_right fun ha => ?_
  have hn := h.1
  constructor
  · intro ht x
    have b := emod_bd (n := (ps.length : Int)) (x := x) (by omega)
    have z := ht (x % (ps.length : Int)) (mem_below_iff.mpr b)
    have b2 := emod_bd (n := (ps.length : Int)) (x := a - x % (ps.length : Int)) (by omega)
    rw [fmod_is, turned_iff h b b2] at z
    have e1 : at2 ps (x % (ps.length : Int)) = q ps x := rfl
    have e2 : at2 ps ((a - x % (ps.length : Int)) % (ps.length : Int)) = q ps (a - x) := by
      show q ps (a - x % (ps.length : Int)) = _
      refine q_congr hn ?_
      rw [Int.sub_emod, Int.emod_emod_of_dvd x (Int.dvd_refl _), ← Int.sub_emod]
    rw [e1, e2] at z
    exact ⟨z.1.symm, fun e => z.2 e.symm⟩
  · intro hA i hi
    have b := mem_below_iff.mp hi
    have b2 := emod_bd (n := (ps.length : Int)) (x := a - i) (by omega)
    rw [fmod_is, turned_iff h b b2]
    have e1 : at2 ps i = q ps i := by
      unfold q
      rw [Int.emod_eq_of_lt b.1 b.2]
    have e2 : at2 ps ((a - i) % (ps.length : Int)) = q ps (a - i) := rfl
    rw [e1, e2]
    exact ⟨(hA i).1.symm, fun e => (hA i).2 e.symm⟩
theorem axes_nil (h : okQ ps) : axes ps = [] ↔ ∀ a, ¬ Axi ps a := by
  constructor
  · intro e a ha
    have b := emod_bd (n := (ps.length : Int)) (x := a) (by have := h.1; omega)
    have : a % (ps.length : Int) ∈ axes ps := (mem_axes h).mpr ⟨b, (axi_mod h.1 a).mpr ha⟩
    rw [e] at this
    exact nomatch this
  · intro hn
    cases z : axes ps with
    | nil => rfl
    | cons a l =>
      have : a ∈ axes ps := by rw [z]; exact List.mem_cons_self
      exact absurd ((mem_axes h).mp this).2 (hn a)
theorem barAx_iff (h : okQ ps) {a b : Nat} : barAx ps a b ↔ Axi ps ((a : Int) + b) := by
  unfold barAx
  rw [mem_axes h, ← axi_mod h.1 ((a : Int) + b)]
  have e : ((a : Int) + b) % (ps.length : Int) = (((a + b) % ps.length : Nat) : Int) := by
    rw [Int.natCast_emod]
    rfl
  rw [e]
  have : (a + b) % ps.length < ps.length := Nat.mod_lt _ h.1
  exact ⟨fun z => z.2, fun z => ⟨⟨by omega, by omega⟩, z⟩⟩
theorem bars_iff (h : okQ ps) {m : Nat} (hs : Stable (netR (ps.map (·.2))) (ssP ps) m) {a b : Nat} (ha : a < ps.length) (hb : b < ps.length) : bars (ps.map (·.2)) (cP ps m) a b ↔ Axi ps ((a : Int) + b) := by
  unfold bars
  have ea : ((a : Int)) % (ps.length : Int) = (a : Int) := Int.emod_eq_of_lt (by omega) (by omega)
  have eb : ((b : Int)) % (ps.length : Int) = (b : Int) := Int.emod_eq_of_lt (by omega) (by omega)
  rw [es_q ha ea, es_q hb eb, ← ci_at (c := cP ps m) ea, ← ci_at (c := cP ps m) eb, cls_iff h hs]
  constructor
  · rintro ⟨⟨h1, _⟩ | ⟨_, h2⟩, h3⟩
    · exact absurd h1 h3
    · exact h2
  · intro hA
    have z := (hA (b : Int)).2
    rw [show (a : Int) + b - b = a by omega] at z
    exact ⟨.inr ⟨z, hA⟩, z⟩
theorem axes_pair (h : okQ ps) : axes ps ≠ [] ↔ ∃ a b : Nat, a < b ∧ b < ps.length ∧ Axi ps ((a : Int) + b) := by
  constructor
  · intro hne
    obtain ⟨a, ha⟩ := List.exists_mem_of_ne_nil _ hne
    obtain ⟨⟨a0, a1⟩, hA⟩ := (mem_axes h).mp ha
    have z := (hA 0).2
    have hz : a ≠ 0 := fun e => by
      subst e
      exact z rfl
    exact ⟨0, a.toNat, by omega, by omega, by rw [show ((0 : Nat) : Int) + (a.toNat : Int) = a by omega]; exact hA⟩
  · rintro ⟨a, b, _, _, hA⟩ e
    exact (axes_nil h).mp e _ hA
theorem axes_odd (h : okQ ps) (ho : ps.length % 2 = 1) : axes ps = [] := (axes_nil h).mpr fun a hA => by
  rcases Int.emod_two_eq a with e | e
  · have z := (hA (a / 2)).2
    rw [show a - a / 2 = a / 2 by omega] at z
    exact z rfl
  · have z := (hA ((a + ps.length) / 2)).2
    have e2 : a - (a + ps.length) / 2 = (a + ps.length) / 2 + (ps.length : Int) * (-1) := by omega
    rw [e2, q_per] at z
    exact z rfl
/-! ### periods -/
theorem q_ext (hl : ps.length = qs.length) (h : ∀ x, q ps x = q qs x) : ps = qs := by
  refine List.ext_getElem hl fun i h1 h2 => ?_
  have z := h (i : Int)
  rw [q_nat h1, q_nat h2] at z
  have a1 := at2_get (ps := ps) (i := (i : Int)) (by omega) (by omega)
  have a2 := at2_get (ps := qs) (i := (i : Int)) (by omega) (by omega)
  rw [Int.toNat_natCast] at a1 a2
  rw [List.getElem?_eq_getElem h1] at a1
  rw [List.getElem?_eq_getElem h2] at a2
  exact (Option.some.inj a1).trans (z.trans (Option.some.inj a2).symm)
def rotL (k : Nat) (ps : List (PyData × Int)) : List (PyData × Int) := ps.drop k ++ ps.take k
theorem rotL_len (k : Nat) : (rotL k ps).length = ps.length := by
  unfold rotL
  rw [List.length_append, List.length_drop, List.length_take]
  omega
theorem at2_of {i : Nat} {p : PyData × Int} (h : ps[i]? = some p) : at2 ps (i : Int) = p := by
  unfold at2
  rw [Int.toNat_natCast, h]
  rfl
theorem q_of {i : Nat} {x : Int} {p : PyData × Int} (e : x % (ps.length : Int) = (i : Int)) (h : ps[i]? = some p) : q ps x = p := by
  unfold q
  rw [e]
  exact at2_of h
theorem q_rot {k : Nat} (hk : k ≤ ps.length) (h0 : 0 < ps.length) (x : Int) : q (rotL k ps) x = q ps (x + k) := by
  have hl := rotL_len (ps := ps) k
  have b := emod_bd (n := (ps.length : Int)) (x := x) (by omega)
  obtain ⟨i, hi⟩ : ∃ i : Nat, x % (ps.length : Int) = (i : Int) := ⟨(x % (ps.length : Int)).toNat, by omega⟩
  have zb := emod_back (ps.length : Int) x
  have hil : i < ps.length := by omega
  have key : ∀ j : Nat, j < ps.length → (rotL k ps)[i]? = ps[j]? → (x + k) % (ps.length : Int) = (j : Int) → q (rotL k ps) x = q ps (x + k) := fun j hj e1 e2 => by
    have a := List.getElem?_eq_getElem hj
    rw [q_of (ps := rotL k ps) (by rw [hl]; exact hi) (e1.trans a), q_of e2 a]
  by_cases hc : i + k < ps.length
  · refine key (i + k) hc ?_ (emod_uniq (k := x / (ps.length : Int)) (by omega) (by omega) (by omega))
    unfold rotL
    rw [List.getElem?_append_left (by rw [List.length_drop]; omega), List.getElem?_drop, Nat.add_comm]
  · refine key (i + k - ps.length) (by omega) ?_ (emod_uniq (k := x / (ps.length : Int) + 1) (by omega) (by omega) (by rw [Int.mul_add]; omega))
    unfold rotL
    rw [List.getElem?_append_right (by rw [List.length_drop]; omega), List.length_drop, List.getElem?_take_of_lt (by omega)]
    congr 1
    omega
theorem rot_iff {k : Nat} (hk : k ≤ ps.length) (h0 : 0 < ps.length) : rotL k ps = ps ↔ Rot ps k := by
  constructor
  · intro e x
    rw [← q_rot hk h0, e]
  · intro h
    exact q_ext (rotL_len k) fun x => by rw [q_rot hk h0, h]
theorem rot_add {s t : Int} (h1 : Rot ps s) (h2 : Rot ps t) : Rot ps (s + t) := fun x => by
  rw [← Int.add_assoc, h2, h1]
theorem rot_neg {t : Int} (h : Rot ps t) : Rot ps (-t) := fun x => by
  have := h (x + -t)
  rw [show x + -t + t = x by omega] at this
  exact this.symm
theorem rot_n : Rot ps (ps.length : Int) := fun x => by
  have := q_per (ps := ps) 1 x
  rwa [Int.mul_one] at this
theorem rot_zero : Rot ps 0 := fun x => by rw [Int.add_zero]
theorem rot_mul {t : Int} (h : Rot ps t) (k : Nat) : Rot ps (t * k) := by
  induction k with
  | zero => simpa using rot_zero
  | succ k ih =>
    have e : t * ((k + 1 : Nat) : Int) = t * k + t := by
      rw [Int.natCast_add, Int.mul_add]
      simp
    rw [e]
    exact rot_add ih h
theorem per_find (h : okQ ps) {k : Nat} (hk : k ≤ ps.length) : (decide (ps.length % k = 0) && PyData.eqvAll ((ps.drop k ++ ps.take k).map prD) (ps.map prD)) = true ↔ ps.length % k = 0 ∧ Rot ps k := by
  rw [Bool.and_eq_true, decide_eq_true_eq]
  refine and_congr_right fun _ => ?_
  have hw : ∀ p ∈ ps, p.1 ∈ wd := fun p hp => (h.2.2 p hp).1
  have hw2 : ∀ p ∈ ps.drop k ++ ps.take k, p.1 ∈ wd := fun p hp => by
    rcases List.mem_append.mp hp with hp | hp
    · exact hw p (List.mem_of_mem_drop hp)
    · exact hw p (List.mem_of_mem_take hp)
  rw [eqv_list _ _ hw2 hw]
  exact rot_iff hk h.1
theorem per_spec (h : okQ ps) : 0 < per ps ∧ per ps ≤ ps.length ∧ ps.length % per ps = 0 ∧ Rot ps (per ps) ∧ ∀ k : Nat, 0 < k → k < per ps → ps.length % k = 0 → ¬ Rot ps k := by
  have h0 := h.1
  unfold per
  cases z : ((List.range ps.length).drop 1).find? fun k => decide (ps.length % k = 0) && PyData.eqvAll ((ps.drop k ++ ps.take k).map prD) (ps.map prD) with
  | none =>
    rw [Option.getD_none]
    rw [List.find?_eq_none] at z
    refine ⟨h0, Nat.le_refl _, Nat.mod_self _, rot_n, fun k k0 k1 k2 hr => ?_⟩
    refine z k ?_ ((per_find h (by omega)).mpr ⟨k2, hr⟩)
    refine List.mem_of_getElem? (i := k - 1) ?_
    rw [List.getElem?_drop, List.getElem?_range (by omega)]
    congr 1
    omega
  | some p =>
    rw [Option.getD_some]
    rw [List.find?_eq_some_iff_getElem] at z
    obtain ⟨hp, i, hi, he, hlt⟩ := z
    have e2 : ((List.range ps.length).drop 1)[i]? = some p := by rw [List.getElem?_eq_getElem hi, he]
    rw [List.getElem?_drop] at e2
    have hil := (List.getElem?_eq_some_iff.mp e2).1
    rw [List.length_range] at hil
    rw [List.getElem?_range hil] at e2
    have e3 : p = 1 + i := (Option.some.inj e2).symm
    have hpl : p ≤ ps.length := by omega
    obtain ⟨p1, p2⟩ := (per_find h hpl).mp hp
    refine ⟨by omega, hpl, p1, p2, fun k k0 k1 k2 hr => ?_⟩
    have hj : k - 1 < i := by omega
    have e4 : ((List.range ps.length).drop 1)[k - 1]? = some k := by
      rw [List.getElem?_drop, List.getElem?_range (by omega)]
      congr 1
      omega
    have e5 : ((List.range ps.length).drop 1)[k - 1]'(by omega) = k := by
      have := List.getElem?_eq_getElem (l := (List.range ps.length).drop 1) (i := k - 1) (by omega)
      rw [e4] at this
      exact (Option.some.inj this).symm
    have z := hlt (k - 1) hj
    rw [e5] at z
    rw [(per_find h (by omega)).mpr ⟨k2, hr⟩] at z
    cases z
/-- no lesser turn keeps the pattern -/
theorem per_min (h : okQ ps) : ∀ k : Nat, 0 < k → k < per ps → ¬ Rot ps k := by
  obtain ⟨_, p1, _, _, p4⟩ := per_spec h
  intro k
  induction k using Nat.strongRecOn with
  | ind k ih =>
    intro k0 k1 hr
    by_cases hd : ps.length % k = 0
    · exact p4 k k0 k1 hd hr
    · have hlt : ps.length % k < k := Nat.mod_lt _ k0
      refine ih (ps.length % k) hlt (by omega) (by omega) ?_
      have e : ((ps.length % k : Nat) : Int) = (ps.length : Int) + -((k : Int) * ((ps.length / k : Nat) : Int)) := by
        have := Nat.div_add_mod ps.length k
        have e1 : (k : Int) * ((ps.length / k : Nat) : Int) = ((k * (ps.length / k) : Nat) : Int) := by rw [Int.natCast_mul]
        omega
      rw [e]
      exact rot_add rot_n (rot_neg (rot_mul hr _))
theorem rot_per (h : okQ ps) {t : Int} : Rot ps t ↔ t % (per ps : Int) = 0 := by
  obtain ⟨p0, _, _, p3, _⟩ := per_spec h
  have b := emod_bd (n := (per ps : Int)) (x := t) (by omega)
  have zb := emod_back (per ps : Int) t
  have mul : ∀ z : Int, Rot ps ((per ps : Int) * z) := fun z => by
    rcases Int.le_total 0 z with hz | hz
    · obtain ⟨k, rfl⟩ := Int.eq_ofNat_of_zero_le hz
      exact rot_mul p3 k
    · obtain ⟨k, hk⟩ := Int.eq_ofNat_of_zero_le (show 0 ≤ -z by omega)
      have : (per ps : Int) * z = -((per ps : Int) * (k : Int)) := by rw [← hk, Int.mul_neg, Int.neg_neg]
      rw [this]
      exact rot_neg (rot_mul p3 k)
  constructor
  · intro ht
    refine Classical.byContradiction fun hn => ?_
    refine per_min h (t % (per ps : Int)).toNat (by omega) (by omega) ?_
    have e : ((t % (per ps : Int)).toNat : Int) = t + -((per ps : Int) * (t / (per ps : Int))) := by omega
    rw [e]
    exact rot_add ht (rot_neg (mul _))
  · intro e
    rw [zb, e, Int.zero_add]
    exact mul _
theorem per_eq (h : okQ ps) (h' : okQ qs) (e : ∀ t : Nat, Rot ps t ↔ Rot qs t) : per ps = per qs := by
  obtain ⟨a0, _, _, a3, _⟩ := per_spec h
  obtain ⟨b0, _, _, b3, _⟩ := per_spec h'
  rcases Nat.lt_trichotomy (per ps) (per qs) with z | z | z
  · exact absurd ((e _).mp a3) (per_min h' _ a0 z)
  · exact z
  · exact absurd ((e _).mpr b3) (per_min h _ b0 z)
/-! ### turned, and mirrored -/
theorem ok_rot (h : okQ ps) (k : Nat) : okQ (rotL k ps) := by
  refine ⟨by rw [rotL_len]; exact h.1, by rw [rotL_len]; exact h.2.1, fun p hp => ?_⟩
  rcases List.mem_append.mp hp with hp | hp
  · exact h.2.2 p (List.mem_of_mem_drop hp)
  · exact h.2.2 p (List.mem_of_mem_take hp)
theorem rot_rot {k : Nat} (hk : k ≤ ps.length) (h0 : 0 < ps.length) (t : Int) : Rot (rotL k ps) t ↔ Rot ps t := by
  constructor
  · intro h x
    have := h (x - k)
    rw [q_rot hk h0, q_rot hk h0] at this
    rw [show x - k + t + k = x + t by omega, show x - k + k = x by omega] at this
    exact this
  · intro h x
    rw [q_rot hk h0, q_rot hk h0, show x + t + k = x + k + t by omega, h]
theorem axi_rot {k : Nat} (hk : k ≤ ps.length) (h0 : 0 < ps.length) (a : Int) : Axi (rotL k ps) a ↔ Axi ps (a + 2 * k) := by
  constructor
  · intro h x
    have := h (x - k)
    rw [q_rot hk h0, q_rot hk h0] at this
    rw [show a - (x - k) + k = a + 2 * k - x by omega, show x - k + k = x by omega] at this
    exact this
  · intro h x
    rw [q_rot hk h0, q_rot hk h0, show a - x + k = a + 2 * k - (x + k) by omega]
    exact h _
def flip1 (p : PyData × Int) : PyData × Int := (p.1, 1 - p.2)
def mirL (ps : List (PyData × Int)) : List (PyData × Int) := ps.reverse.map flip1
theorem mirL_len : (mirL ps).length = ps.length := by
  unfold mirL
  rw [List.length_map, List.length_reverse]
theorem q_mir (h0 : 0 < ps.length) (x : Int) : q (mirL ps) x = flip1 (q ps (-1 - x)) := by
  have hl := mirL_len (ps := ps)
  have b := emod_bd (n := (ps.length : Int)) (x := x) (by omega)
  obtain ⟨i, hi⟩ : ∃ i : Nat, x % (ps.length : Int) = (i : Int) := ⟨(x % (ps.length : Int)).toNat, by omega⟩
  have zb := emod_back (ps.length : Int) x
  have hil : i < ps.length := by omega
  have hj : ps.length - 1 - i < ps.length := by omega
  have e2 : (-1 - x) % (ps.length : Int) = ((ps.length - 1 - i : Nat) : Int) := emod_uniq (k := -(x / (ps.length : Int)) - 1) (by omega) (by omega) (by
    rw [Int.mul_sub, Int.mul_neg]
    omega)
  have a := List.getElem?_eq_getElem hj
  rw [q_of (ps := mirL ps) (p := flip1 (ps[ps.length - 1 - i])) (by rw [hl]; exact hi) ?_, q_of e2 a]
  unfold mirL
  rw [List.getElem?_map, List.getElem?_reverse hil, a]
  rfl
theorem ok_mir (h : okQ ps) : okQ (mirL ps) := by
  refine ⟨by rw [mirL_len]; exact h.1, by rw [mirL_len]; exact h.2.1, fun p hp => ?_⟩
  obtain ⟨r, hr, rfl⟩ := List.mem_map.mp hp
  have := h.2.2 r (List.mem_reverse.mp hr)
  exact ⟨this.1, by show 1 - r.2 = 0 ∨ 1 - r.2 = 1; omega⟩
theorem flip_inj {a b : PyData × Int} : flip1 a = flip1 b ↔ a = b := by
  constructor
  · intro h
    have h1 := congrArg Prod.fst h
    have h2 : 1 - a.2 = 1 - b.2 := congrArg Prod.snd h
    exact Prod.ext h1 (by omega)
  · intro h; rw [h]
theorem rot_mir (h0 : 0 < ps.length) (t : Int) : Rot (mirL ps) t ↔ Rot ps t := by
  constructor
  · intro h x
    have := h (-1 - (x + t))
    rw [q_mir h0, q_mir h0, flip_inj] at this
    rw [show -1 - (-1 - (x + t) + t) = x by omega, show -1 - (-1 - (x + t)) = x + t by omega] at this
    exact this.symm
  · intro h x
    rw [q_mir h0, q_mir h0, flip_inj]
    have := h (-1 - (x + t))
    rw [show -1 - (x + t) + t = -1 - x by omega] at this
    exact this.symm
theorem axi_mir (h0 : 0 < ps.length) (a : Int) : Axi (mirL ps) a ↔ Axi ps (-2 - a) := by
  constructor
  · intro h x
    have := h (-1 - x)
    rw [q_mir h0, q_mir h0] at this
    rw [show -1 - (a - (-1 - x)) = -2 - a - x by omega, show -1 - (-1 - x) = x by omega] at this
    exact ⟨this.1, fun e => this.2 (by show 1 - _ = 1 - _; omega)⟩
  · intro h x
    rw [q_mir h0, q_mir h0]
    have := h (-1 - x)
    rw [show -2 - a - (-1 - x) = -1 - (a - x) by omega] at this
    exact ⟨this.1, fun e => this.2 (by have e2 : 1 - (q ps (-1 - (a - x))).2 = 1 - (q ps (-1 - x)).2 := e; omega)⟩
theorem axes_rot (h : okQ ps) {k : Nat} (hk : k ≤ ps.length) : axes (rotL k ps) = [] ↔ axes ps = [] := by
  rw [axes_nil (ok_rot h k), axes_nil h]
  constructor
  · intro hn a ha
    refine hn (a - 2 * k) ((axi_rot hk h.1 _).mpr ?_)
    rw [show a - 2 * (k : Int) + 2 * k = a by omega]
    exact ha
  · intro hn a ha
    exact hn _ ((axi_rot hk h.1 _).mp ha)
theorem axes_mir (h : okQ ps) : axes (mirL ps) = [] ↔ axes ps = [] := by
  rw [axes_nil (ok_mir h), axes_nil h]
  constructor
  · intro hn a ha
    refine hn (-2 - a) ((axi_mir h.1 _).mpr ?_)
    rw [show -2 - (-2 - a) = a by omega]
    exact ha
  · intro hn a ha
    exact hn _ ((axi_mir h.1 _).mp ha)
theorem per_rot (h : okQ ps) {k : Nat} (hk : k ≤ ps.length) : per (rotL k ps) = per ps := per_eq (ok_rot h k) h fun t => rot_rot hk h.1 _
theorem per_mir (h : okQ ps) : per (mirL ps) = per ps := per_eq (ok_mir h) h fun t => rot_mir h.1 _
end
end K50
set_option maxHeartbeats 4000000
namespace K50
open PySem PySem.W PySem.Spec PyProof.Rows L2 Evl RZ Dl Dn
section
variable {ps : List (PyData × Int)}
/-! ### a round that parts nothing comes -/
theorem cP_max (h : okQ ps) (m : Nat) : ∃ ys kz, cP ps m = numsI ys ∧ nkAll ys = some kz ∧ ys.length = ps.length ∧ maxI (cP ps m) + 1 = (onceK kz).length := by
  obtain ⟨ys, kz, hc, hk⟩ := cP_num h m
  have hl : ys.length = ps.length := by rw [← cP_len h m, hc, numsI_len hk]
  have h0 := h.1
  exact ⟨ys, kz, hc, hk, hl, by rw [hc]; exact numsI_max hk fun z => by rw [z] at hl; simp at hl; omega⟩
theorem max_up (h : okQ ps) (m : Nat) : maxI (cP ps m) ≤ maxI (cP ps (m + 1)) := by
  obtain ⟨ys, kz, hc, hk, hl, hm⟩ := cP_max h m
  have lm : (ps.map (·.2)).length = ps.length := List.length_map _
  have lc := cP_len h m
  have hq := lots_keys (c := cP ps m) (ok_is01 h) (by rw [lc, lm])
  have h0 := h.1
  have ne1 : lotsD (cP ps m) (netR (ps.map (·.2))) ≠ [] := fun z => by
    have h3 : (cP ps m).length = 0 := by
      have := congrArg List.length z
      rw [lots_len] at this
      exact this
    omega
  have m1 : maxI (cP ps (m + 1)) + 1 = _ := numsI_max hq ne1
  let fst : NestedKey → Int := fun k => match k with
    | .tup (.num a :: _) => a
    | _ => 0
  have cov := cover_len (onceK kz).length ((onceK ((List.range (cP ps m).length).map (lotK (ps.map (·.2)) (cP ps m)))).map fst) fun v hv => by
    obtain ⟨t, ht, hv2⟩ := numsI_cover hk hv
    refine List.mem_map.mpr ⟨lotK (ps.map (·.2)) (cP ps m) t, onceK_mem.mpr (List.mem_map.mpr ⟨t, List.mem_range.mpr (by omega), rfl⟩), ?_⟩
    show (cP ps m).getD t 0 = (v : Int)
    rw [hc]
    exact hv2
  rw [List.length_map] at cov
  omega
theorem max_lt (h : okQ ps) (m : Nat) : 0 ≤ maxI (cP ps m) ∧ maxI (cP ps m) < ps.length := by
  obtain ⟨ys, kz, hc, hk, hl, hm⟩ := cP_max h m
  have h1 := onceK_len kz
  have h2 := nkAll_len hk
  have h3 : 0 < (onceK kz).length := by
    have hne : kz ≠ [] := fun z => by rw [z] at h2; simp at h2; have := h.1; omega
    obtain ⟨k, hk2⟩ := List.exists_mem_of_ne_nil _ hne
    exact List.length_pos_of_mem (onceK_mem.mpr hk2)
  omega
theorem stable_ex (h : okQ ps) : ∃ m, m ≤ ps.length ∧ Stable (netR (ps.map (·.2))) (ssP ps) m ∧ ∀ j < m, ¬ Stable (netR (ps.map (·.2))) (ssP ps) j := by
  have grow : ∀ m, (∀ j < m, ¬ Stable (netR (ps.map (·.2))) (ssP ps) j) → (m : Int) ≤ maxI (cP ps m) := by
    intro m
    induction m with
    | zero => intro _; exact (max_lt h 0).1
    | succ m ih =>
      intro hn
      have h1 := ih fun j hj => hn j (by omega)
      have h2 := max_up h m
      have h3 : maxI (cP ps (m + 1)) ≠ maxI (cP ps m) := hn m (Nat.lt_succ_self m)
      omega
  have ex : ∃ m, m ≤ ps.length ∧ Stable (netR (ps.map (·.2))) (ssP ps) m := by
    refine Classical.byContradiction fun hn => ?_
    have h1 := grow ps.length fun j hj hs => hn ⟨j, by omega, hs⟩
    have h2 := max_lt h ps.length
    omega
  obtain ⟨m, hm, hs⟩ := ex
  induction m using Nat.strongRecOn with
  | ind m ih =>
    by_cases hj : ∃ j, j < m ∧ Stable (netR (ps.map (·.2))) (ssP ps) j
    · obtain ⟨j, hj1, hj2⟩ := hj
      exact ih j hj1 (by omega) hj2
    · exact ⟨m, hm, hs, fun j hj1 hj2 => hj ⟨j, hj1, hj2⟩⟩
/-! ### colours -/
theorem can_self {js : List (Int × Int)} {m c : Nat} {num : Int} (hc : c < m) (hj : ((c : Int), (c : Int)) ∈ js) : ∀ (k : Nat) (row : List Int), row.length ≤ c → canB js m num k row = false
  | 0, _, _ => rfl
  | k + 1, row, hr => by
    unfold canB
    rw [if_neg (by omega), List.any_eq_false]
    intro w _
    by_cases e : row.length = c
    · have hs : selfI js row = true := by
        unfold selfI
        refine List.any_eq_true.mpr ⟨_, hj, ?_⟩
        unfold lenI
        rw [e]
        simp
      rw [hs]
      simp
    · rw [can_self hc hj k (row ++ [w]) (by rw [List.length_append, List.length_singleton]; omega)]
      simp
theorem col_self {cs : List Int} {c : Nat} (hj : ((c : Int), (c : Int)) ∈ jP cs) : colD cs = .none := by
  have ho := (onceP_mem _).mpr hj
  have hne : mxP (onceP (jP cs)) ≠ [] := fun z => by
    have := List.map_eq_nil_iff.mp z
    rw [this] at ho
    exact nomatch ho
  have hmx := (maxI_is (mxP (onceP (jP cs))) hne).2 (c : Int) (List.mem_map.mpr ⟨_, ho, Int.max_self _⟩)
  have hcm : c < mOf cs := by
    unfold mOf
    omega
  unfold colD colN
  have : ([1, 2, 3, 4] : List Int).find? (fun n => canB (onceP (jP cs)) (mOf cs) n 11 []) = none := by
    rw [List.find?_eq_none]
    intro n _
    rw [can_self hcm ho 11 [] (Nat.zero_le _)]
    decide
  rw [this]
theorem col_tableB : ((List.range 11).all fun n => (List.range 11).all fun p => !(decide (0 < p) && (decide (0 < n) && decide (n % p = 0))) || decide (colN ((List.range n).map fun i => ((i % p : Nat) : Int)) = if p = 1 then none else some (if p % 2 = 0 then 2 else 3))) = true := by decide +kernel
theorem col_table (n : Nat) (hn : n < 11) (p : Nat) (hp : p < 11) (p0 : 0 < p) (n0 : 0 < n) (hd : n % p = 0) : colN ((List.range n).map fun i => ((i % p : Nat) : Int)) = if p = 1 then none else some (if p % 2 = 0 then 2 else 3) := by
  have h1 := List.all_eq_true.mp col_tableB n (List.mem_range.mpr hn)
  have h2 := List.all_eq_true.mp h1 p (List.mem_range.mpr hp)
  rw [decide_eq_true p0, decide_eq_true n0, decide_eq_true hd] at h2
  exact of_decide_eq_true h2
theorem rot_same (h : okQ ps) {t x : Int} (hr : Rot ps t) : (q ps (x + t)).2 = (q ps x).2 := by rw [hr]
theorem cls_per (h : okQ ps) (ha : axes ps = []) {m : Nat} (hs : Stable (netR (ps.map (·.2))) (ssP ps) m) {i j : Nat} (hi : i < ps.length) (hj : j < ps.length) : (cP ps m).getD i 0 = (cP ps m).getD j 0 ↔ ((j : Int) - i) % (per ps : Int) = 0 := by
  have ea : ((i : Int)) % (ps.length : Int) = (i : Int) := Int.emod_eq_of_lt (by omega) (by omega)
  have eb : ((j : Int)) % (ps.length : Int) = (j : Int) := Int.emod_eq_of_lt (by omega) (by omega)
  rw [← ci_at (c := cP ps m) ea, ← ci_at (c := cP ps m) eb, cls_iff h hs, ← rot_per h]
  constructor
  · rintro (⟨_, h1⟩ | ⟨_, h2⟩)
    · exact h1
    · exact absurd h2 ((axes_nil h).mp ha _)
  · intro hr
    have := rot_same h (x := (i : Int)) hr
    rw [show (i : Int) + ((j : Int) - i) = j by omega] at this
    exact .inl ⟨this.symm, hr⟩
theorem cls_mod (h : okQ ps) (ha : axes ps = []) {m : Nat} (hs : Stable (netR (ps.map (·.2))) (ssP ps) m) : cP ps m = (List.range ps.length).map fun i => ((i % per ps : Nat) : Int) := by
  obtain ⟨ys, kz, hc, hk, hl, hm⟩ := cP_max h m
  obtain ⟨p0, p1, p2, _, _⟩ := per_spec h
  have hkl := nkAll_len hk
  have key : ∀ i j : Nat, i < ps.length → j < ps.length → (kz[i]? = kz[j]? ↔ ((j : Int) - i) % (per ps : Int) = 0) := fun i j hi hj => by
    have a := List.getElem?_eq_getElem (l := kz) (i := i) (by omega)
    have b := List.getElem?_eq_getElem (l := kz) (i := j) (by omega)
    rw [a, b, ← cls_per h ha hs hi hj, hc, numsI_iff hk a b]
    exact ⟨Option.some.inj, fun e => by rw [e]⟩
  refine List.ext_getElem (by rw [cP_len h m, List.length_map, List.length_range]) fun i h1 h2 => ?_
  have hi : i < ps.length := by rw [← cP_len h m]; exact h1
  have z := numsI_mod hk (p := per ps) (by omega) p0 (fun i j k l hi hj ek el e => by
    have e2 := (key i j (by omega) (by omega)).mp (by rw [ek, el, e])
    have b1 : ((j : Int) - i) % (per ps : Int) = 0 := e2
    rcases Nat.lt_trichotomy i j with z | z | z
    · rw [Int.emod_eq_of_lt (by omega) (by omega)] at b1
      omega
    · exact z
    · have e3 : ((j : Int) - i) % (per ps : Int) = (j : Int) - i + per ps := emod_uniq (k := -1) (by omega) (by omega) (by omega)
      rw [e3] at b1
      omega) (fun j hj => by
    have hj2 : j < ps.length := by omega
    have hmod : j % per ps < per ps := Nat.mod_lt _ p0
    refine (key j (j % per ps) hj2 (by omega)).mpr ?_
    have e1 := Nat.div_add_mod j (per ps)
    have e2 : ((j % per ps : Nat) : Int) - j = 0 + (per ps : Int) * (-((j / per ps : Nat) : Int)) := by
      rw [Int.mul_neg, ← Int.natCast_mul]
      omega
    rw [e2, Int.add_mul_emod_self_left]
    rfl) (i := i) (by omega)
  rw [← hc] at z
  rw [List.getElem_map, List.getElem_range, ← z, List.getD_eq_getElem?_getD, List.getElem?_eq_getElem h1]
  rfl
/-- the colours due, by the period and the axes -/
theorem col_due (h : okQ ps) (h10 : ps.length ≤ 10) {m : Nat} (hs : Stable (netR (ps.map (·.2))) (ssP ps) m) : colD (cP ps m) = if per ps = 1 ∨ axes ps ≠ [] then .none else .int (if per ps % 2 = 0 then 2 else 3) := by
  have h0 := h.1
  by_cases ha : axes ps = []
  · obtain ⟨p0, p1, p2, _, _⟩ := per_spec h
    have z := col_table ps.length (by omega) (per ps) (by omega) p0 h0 p2
    unfold colD
    rw [cls_mod h ha hs, z]
    by_cases hp : per ps = 1
    · rw [if_pos hp, if_pos (.inl hp)]
    · have hn : ¬ (per ps = 1 ∨ axes ps ≠ []) := fun z => z.elim hp fun z => z ha
      rw [if_neg hp, if_neg hn]
  · rw [if_pos (.inr ha)]
    obtain ⟨a, hm⟩ := List.exists_mem_of_ne_nil _ ha
    obtain ⟨⟨a0, a1⟩, hA⟩ := (mem_axes h).mp hm
    have ho : a % 2 = 1 := by
      rcases Int.emod_two_eq a with e | e
      · have z := (hA (a / 2)).2
        rw [show a - a / 2 = a / 2 by omega] at z
        exact absurd rfl z
      · exact e
    obtain ⟨k, hk⟩ : ∃ k : Nat, a = 2 * (k : Int) + 1 := ⟨(a / 2).toNat, by omega⟩
    have hk2 : k + 1 < ps.length := by omega
    have ea : ((k : Int)) % (ps.length : Int) = (k : Int) := Int.emod_eq_of_lt (by omega) (by omega)
    have eb : ((k + 1 : Nat) : Int) % (ps.length : Int) = ((k + 1 : Nat) : Int) := Int.emod_eq_of_lt (by omega) (by omega)
    have e := axi_cls h hA m (k : Int)
    rw [show a - (k : Int) = ((k + 1 : Nat) : Int) by omega, ci_at eb, ci_at ea] at e
    have hr := max_lt h m
    have hlen := cP_len h m
    obtain ⟨ys, kz, hc, hkk, _, _⟩ := cP_max h m
    have hpos : 0 ≤ (cP ps m).getD k 0 := by
      have hmem : (cP ps m).getD k 0 ∈ numsI ys := by
        rw [← hc]
        exact List.mem_of_getElem? (getD_at (by omega))
      exact (numsI_range hkk _ hmem).1
    refine col_self (c := ((cP ps m).getD k 0).toNat) ?_
    unfold jP
    refine List.mem_map.mpr ⟨k, List.mem_range.mpr (by omega), ?_⟩
    rw [show (k + 1) % (cP ps m).length = k + 1 from Nat.mod_eq_of_lt (by omega), e]
    have : (((cP ps m).getD k 0).toNat : Int) = (cP ps m).getD k 0 := by omega
    rw [this]
/-! ### what was chosen -/
theorem onceP_nodup (js : List (Int × Int)) : (onceP js).Nodup := by
  have key : ∀ (js acc : List (Int × Int)), acc.Nodup → (js.foldl (fun acc x => if acc.any (fun z => decide (z = x)) then acc else acc ++ [x]) acc).Nodup := by
    intro js
    induction js with
    | nil => intro acc h; exact h
    | cons j js ih =>
      intro acc h
      rw [List.foldl_cons]
      refine ih _ ?_
      split
      · exact h
      · rename_i hn
        rw [List.nodup_append]
        refine ⟨h, by simp, fun a ha b hb e => hn (List.any_eq_true.mpr ⟨a, ha, ?_⟩)⟩
        rw [List.mem_singleton.mp hb] at e
        exact decide_eq_true e
  exact key js [] List.nodup_nil
theorem nodup_map {α β : Type} {f : α → β} : ∀ {l : List α}, l.Nodup → (∀ a ∈ l, ∀ b ∈ l, f a = f b → a = b) → (l.map f).Nodup
  | [], _, _ => List.nodup_nil
  | a :: l, h, hi => by
    rw [List.map_cons, List.nodup_cons]
    rw [List.nodup_cons] at h
    refine ⟨fun hm => ?_, nodup_map h.2 fun b hb c hc => hi b (List.mem_cons_of_mem _ hb) c (List.mem_cons_of_mem _ hc)⟩
    obtain ⟨b, hb, e⟩ := List.mem_map.mp hm
    have := hi b (List.mem_cons_of_mem _ hb) a List.mem_cons_self e
    subst this
    exact h.1 hb
theorem chosen_len (h : okQ ps) (ha : axes ps = []) {m : Nat} (hs : Stable (netR (ps.map (·.2))) (ssP ps) m) : ((onceP ((cP ps m).zip (ps.map (·.2)))).length : Int) = maxI (cP ps m) + 1 := by
  obtain ⟨ys, kz, hc, hk, hl, hm⟩ := cP_max h m
  have lm : (ps.map (·.2)).length = ps.length := List.length_map _
  have lc := cP_len h m
  have at_ : ∀ p ∈ (cP ps m).zip (ps.map (·.2)), ∃ i : Nat, i < ps.length ∧ p.1 = (cP ps m).getD i 0 ∧ p.2 = (ps.map (·.2)).getD i 0 := fun p hp => by
    obtain ⟨i, hi⟩ := List.mem_iff_getElem?.mp hp
    rw [List.getElem?_zip_eq_some] at hi
    have hlt := (List.getElem?_eq_some_iff.mp hi.1).1
    rw [lc] at hlt
    refine ⟨i, hlt, ?_, ?_⟩
    · rw [getD_at (by omega)] at hi; exact (Option.some.inj hi.1).symm
    · have := hi.2; rw [getD_at (by omega)] at this; exact (Option.some.inj this).symm
  have inj : ∀ a ∈ onceP ((cP ps m).zip (ps.map (·.2))), ∀ b ∈ onceP ((cP ps m).zip (ps.map (·.2))), a.1 = b.1 → a = b := fun a ha1 b hb1 e => by
    obtain ⟨i, hi, a1, a2⟩ := at_ a ((onceP_mem _).mp ha1)
    obtain ⟨j, hj, b1, b2⟩ := at_ b ((onceP_mem _).mp hb1)
    refine Prod.ext e ?_
    rw [a2, b2]
    refine Classical.byContradiction fun hne => ?_
    exact (axes_nil h).mp ha _ ((bars_iff h hs hi hj).mp ⟨by rw [← a1, ← b1, e], hne⟩)
  have nd := nodup_map (onceP_nodup _) inj
  have up := nodup_len (onceK kz).length _ nd fun x hx => by
    obtain ⟨p, hp, rfl⟩ := List.mem_map.mp hx
    obtain ⟨i, hi, a1, _⟩ := at_ p ((onceP_mem _).mp hp)
    rw [a1, hc]
    refine numsI_range hk _ (List.mem_of_getElem? (i := i) (getD_at ?_))
    rw [← hc]
    omega
  have dn := cover_len (onceK kz).length ((onceP ((cP ps m).zip (ps.map (·.2)))).map (·.1)) fun v hv => by
    obtain ⟨t, ht, hv2⟩ := numsI_cover hk hv
    rw [← hc] at hv2
    refine List.mem_map.mpr ⟨((cP ps m).getD t 0, (ps.map (·.2)).getD t 0), (onceP_mem _).mpr (List.mem_of_getElem? (i := t) ?_), hv2⟩
    rw [List.getElem?_zip_eq_some]
    exact ⟨getD_at (by omega), getD_at (by omega)⟩
  rw [List.length_map] at up dn
  omega
end
end K50
set_option maxHeartbeats 4000000
namespace Dm
open PySem PySem.Spec PyProof.Rows L2 Evl RZ Dl
/-! ### tests amid draws -/
def EtM (D : Md) (t : TT) (σ : L2.St) (B : Hp) (b : Bool) (k : Nat) : Prop := ∀ n H1, Ex B H1 → D.J n H1 → n + k ≤ 100000 → ∀ Q : Bool → Hp → Prop, (∀ H2, ExM D H1 H2 → D.J (n + k) H2 → Q b H2) → t σ H1 Q
section
variable {D : Md} {K : PySem.W.Frag} {σ : L2.St} {B H H1 Hc : Hp} {ta tb te : TE} {t u : TT} {a b : Bool} {k k1 k2 s : Nat} {tu tw tz : TS} {Dd : Ends}
theorem tm_of (h : EvT t σ B b) : EtM D t σ B b 0 := fun n H1 e j _ Q q => h H1 e Q fun H2 e2 => q H2 (ExM.of e2) (D.keep _ _ _ e2 j)
theorem tm_B (h : EvM D te σ B (· = .bool b) k) : EtM D (tB te) σ B b k := fun n H1 e j hk Q q => h n H1 e j hk _ fun v H2 d hd m j2 t => by
  subst hd
  cases t
  exact ⟨b, rfl, q H2 m j2⟩
theorem tm_D (h : EvM D te σ B (· = .bool b) k) : EtM D (tTest te) σ B b k := fun n H1 e j hk Q q => h n H1 e j hk _ fun v H2 d hd m j2 t => by
  subst hd
  cases t
  exact ⟨b, rfl, q H2 m j2⟩
theorem tm_not (h : EtM D t σ B b k) : EtM D (tNot t) σ B (!b) k := fun n H1 e j hk _ q => h n H1 e j hk _ fun H2 m j2 => q H2 m j2
theorem tm_or (c : Cl D B) (h1 : EtM D t σ B a k1) (h2 : a = false → EtM D u σ B b k2) : EtM D (tOr t u) σ B (a || b) (k1 + k2) := fun n H1 e j hk Q q => h1 n H1 e j (by omega) _ fun H2 m j2 => by
  cases a with
  | true => exact q H2 m (D.up _ _ _ (by omega) j2)
  | false => exact h2 rfl (n + k1) H2 (ex_M c e m) j2 (by omega) Q fun H3 m3 j3 => q H3 (m.trans m3) (by rw [← Nat.add_assoc]; exact j3)
theorem q_whenM (x : BsM D H H1 B Hc s) (h : EtM D t σ B b k) (l : s + k ≤ 100000) (h1 : b = true → ∀ Hn, ExM D Hc Hn → D.J (s + k) Hn → tu { Dd with nx := tz Dd } σ Hn) (h2 : b = false → ∀ Hn, ExM D Hc Hn → D.J (s + k) Hn → tz Dd σ Hn) : tSeq (tIfS t tu tNext) tz Dd σ Hc := h s Hc x.c x.j l _ fun H2 m j2 => by
  cases b with
  | true => exact h1 rfl H2 m j2
  | false => exact h2 rfl H2 m j2
theorem BsM.keepB {Hn : Hp} {k : Nat} (x : BsM D H H1 B Hc s) (m : ExM D Hc Hn) (j : D.J k Hn) : BsM D H H1 B Hn k := by
  obtain ⟨s1, j1⟩ := x.j1
  exact ⟨x.a.trans m, x.b, ex_M x.cl x.c m, x.d.trans (gr_lM j1 m), x.cl, j, s1, j1⟩
/-- a value that may be None -/
theorem ed_isNV {i : Nat} {v : V} (h : σ[i]? = some (some v)) : EvD (tOp (fun x y H Q => y = .non ∧ Q (.bl (decide (x = .non))) H) (tVar i) (tC .non)) σ B (.bool (decide (v = .non))) := fun H1 e Q q => ⟨v, h, rfl, q _ H1 (Ex.refl H1) (.bl _)⟩
theorem ed_notNV {i : Nat} {v : V} (h : σ[i]? = some (some v)) : EvD (tOp (fun x y H Q => y = .non ∧ Q (.bl (!decide (x = .non))) H) (tVar i) (tC .non)) σ B (.bool (!decide (v = .non))) := fun H1 e Q q => ⟨v, h, rfl, q _ H1 (Ex.refl H1) (.bl _)⟩
theorem rd_neB {x y : Bool} : RD rNe (.bool x) (.bool y) (.bool (x != y)) := fun H H1 v w e hv hw Q q => by
  cases hv
  cases hw
  refine ⟨rfl, ?_⟩
  have z : (!decide (V.bl x = V.bl y)) = (x != y) := by cases x <;> cases y <;> rfl
  rw [z]
  exact q _ H1 (Ex.refl H1) (.bl _)
end
end Dm
namespace L2
open PySem PySem.Spec PyProof.Rows Evl
/-! ### f(k = v, l = w) -/
def tCallK2 (sp : Sp) (E : XK) (tk : TA) : TE := fun σ H Q => tk σ H fun zs H2 => ∃ a b, zs = [a, b] ∧ sp [b, a] H2 Q E
theorem pe_callK2 {X : Cx} {CX : CXT} {k : Nat} {f : Addr} {fd : FuncData} {ps : List Str} {ka kb : Str} {sp : Sp} {E : XK} {x : Str} {p pos p1 p2 : Pos} {e1 e2 : Expr} {tk : TA} (F : FnOk X.prog X.w X.K X.mg X.base CX k f fd ps sp) (hr : Room k X.A) (hg : Gl X x) (hm : X.mg x = some (.ref f)) (hk : PySem.W.keepIn X.K (.ref f) = true)
    (hb : ∀ (s : Shared) (a b : Value), X.K.In s.heap → BindsTo s fd ⟨[], [(ka, a), (kb, b)]⟩ (ps.zip [b, a])) (hx : Passes CX X E) (hkw : PK X [⟨some ka, e1, p1⟩, ⟨some kb, e2, p2⟩] tk)
    (hall : (backToKw pos (keywordEach [⟨some ka, e1, p1⟩, ⟨some kb, e2, p2⟩] X.env)).all (·.1.isSome) = true := by rfl) (hks : (backToKw pos (keywordEach [⟨some ka, e1, p1⟩, ⟨some kb, e2, p2⟩] X.env)).filterMap (·.1) = [ka, kb] := by rfl) (hdb : (x == ("__debug__" : Str)) = false := by decide)
    (hpl : ((backTo pos (starEach [] X.env)).any (·.1) || (backToKw pos (keywordEach [⟨some ka, e1, p1⟩, ⟨some kb, e2, p2⟩] X.env)).any (·.1.isNone)) = false := by rfl) :
    PE X (.Call (.Name x p) [] [⟨some ka, e1, p1⟩, ⟨some kb, e2, p2⟩] pos) (tCallK2 sp E tk) := by
  refine ⟨fun pins s σ H Q I h => ?_⟩
  refine wpAny_Call_Name_kw (ld_glob I hg hm ?_ hdb)
  refine PySem.W.callWith_KW0 (h₀ := X.base) I.ok.mod.kin hk hall ?_ hpl
  refine thn (hkw.run pos pins s σ H _ I h) fun ws s2 ⟨zs, H2, I2, rz, a, b, ez, q2⟩ => ⟨I2.kIn, ?_⟩
  rw [hks]
  subst ez
  obtain ⟨u1, u2, rfl, ra, rb⟩ := Vals.two rz
  refine wpAny_call (codeAny_mono (F.run X.A X.stack s2 H2 ⟨[], [(ka, u1), (kb, u2)]⟩ [u2, u1] [b, a] Q E hr I2.env0 (hb s2 u1 u2 I2.kIn) (.cons rb (.cons ra .nil)) q2) fun r s' hq => ?_)
  cases r with
  | error e => exact hx pins σ H2 s2 e s' I2 hq
  | ok fl =>
    cases fl with
    | ret u => exact I2.after hq
    | next => exact False.elim hq
    | brk => exact False.elim hq
    | cont => exact False.elim hq
end L2
namespace K50
open PySem PySem.W PySem.Spec PyProof.Rows L2 LamX NdefX Evl RZ Dl Dn Dm Lz K0
/-! ### ring_sense: none, or a new list -/
def spRS (T : List (Addr × Str)) : Sp := fun vs H1 Q _ => ∃ p l B ds s ps, Ex B H1 ∧ Cl (mdS p l T) B ∧ (mdS p l T).J s H1 ∧ s ≤ 100000 ∧ TpAll B vs ds ∧ ds.length = 2 ∧ NP ds ps ∧
  (axes ps ≠ [] → ∀ H2, ExM (mdS p l T) H1 H2 → (mdS p l T).J s H2 → Q .non H2) ∧ (axes ps = [] → ∀ r H2, ExM (mdS p l T) H1 H2 → (mdS p l T).J s H2 → H1 r = none → H2 r = some (.lst (ps.map fun p => V.int p.2)) → Q (.ref r) H2)
theorem spRS_len {T : List (Addr × Str)} {vs : List V} {H : Hp} {Q : VK} {E : XK} (h : spRS T vs H Q E) : vs.length = 2 := by
  obtain ⟨p, l, B, ds, s, ps, _, _, _, _, h1, h2, _⟩ := h
  rw [dp_len h1]
  exact h2
theorem ints_row {H : Hp} {y : PyData} {u : V} {ns : List Int} (r : Row y (ns.map PyData.int)) (h : Tp H u y) : ∃ a, u = .ref a ∧ (H a = some (.lst (ns.map V.int)) ∨ H a = some (.tup (ns.map V.int))) := by
  rcases r with rfl | rfl
  · cases h with
    | lst ha hs =>
      have z := ints_of hs
      subst z
      exact ⟨_, rfl, .inl ha⟩
  · cases h with
    | tup ha hs =>
      have z := ints_of hs
      subst z
      exact ⟨_, rfl, .inr ha⟩
section
variable {P : Program} {w : World} {K : PySem.W.Frag} {mg : Str → Option Value} {base : Heap} {T : List (Addr × Str)}
end
/-- told = ring_sense(..) -/
theorem q_asgRS {p l : Addr} {T : List (Addr × Str)} {σ : L2.St} {B H H1 Hc : Hp} {s k i : Nat} {ta : TA} {Rs : List PyData → Prop} {ps : List (PyData × Int)} {E : XK} {tz : TS} {Dd : Ends} (b : BsM (mdS p l T) H H1 B Hc s) (h : EvsM (mdS p l T) ta σ B Rs k) (hR : ∀ ds, Rs ds → ds.length = 2 ∧ NP ds ps) (hl : s + k ≤ 100000)
    (k1 : axes ps ≠ [] → ∀ Hn, ExM (mdS p l T) Hc Hn → (mdS p l T).J (s + k) Hn → tz Dd (σ.set i (some .non)) Hn)
    (k2 : axes ps = [] → ∀ r Hn, ExM (mdS p l T) Hc Hn → (mdS p l T).J (s + k) Hn → Hc r = none → Hn r = some (.lst (ps.map fun p => V.int p.2)) → tz Dd (σ.set i (some (.ref r))) Hn) : tSeq (tAsg (tCall (spRS T) [] E ta) (gName i)) tz Dd σ Hc := by
  refine h s Hc b.c b.j hl _ fun vs H2 ds rd m2 j2 dvs => ?_
  obtain ⟨h1, h2⟩ := hR ds rd
  rw [List.append_nil]
  exact ⟨p, l, gr B Hc H2, ds, s + k, ps, gr_subM b.cl b.c m2, cl_gr b.cl b.j, j2, hl, dvs, h1, h2, fun ha Hn m3 j3 => k1 ha Hn (m2.trans m3) j3, fun ha r Hn m3 j3 hr hn => k2 ha r Hn (m2.trans m3) j3 (back_M j2 m2 hr) hn⟩
def rsD (ps : List (PyData × Int)) : PyData := if axes ps = [] then .list (ps.map fun p => .int p.2) else .none
theorem em_rs {p l : Addr} {T : List (Addr × Str)} {σ : L2.St} {B : Hp} {k : Nat} {ta : TA} {Rs : List PyData → Prop} {ps : List (PyData × Int)} {E : XK} (cl : Cl (mdS p l T) B) (h : EvsM (mdS p l T) ta σ B Rs k) (hR : ∀ ds, Rs ds → ds.length = 2 ∧ NP ds ps) :
    EvM (mdS p l T) (tCall (spRS T) [] E ta) σ B (· = rsD ps) k := fun s Hc e j hk Q q => by
  refine h s Hc e j hk _ fun vs H2 ds rd m2 j2 dvs => ?_
  obtain ⟨h1, h2⟩ := hR ds rd
  rw [List.append_nil]
  refine ⟨p, l, gr B Hc H2, ds, s + k, ps, gr_subM cl e m2, cl_gr cl j, j2, hk, dvs, h1, h2, fun ha Hn m3 j3 => q _ Hn _ rfl (m2.trans m3) j3 ?_, fun ha r Hn m3 j3 hr hn => q _ Hn _ rfl (m2.trans m3) j3 ?_⟩
  · unfold rsD
    rw [if_neg ha]
    exact .non
  · unfold rsD
    rw [if_pos ha]
    have lz : (ps.map fun p => PyData.int p.2) = (ps.map (·.2)).map PyData.int := by rw [List.map_map]; rfl
    have lz2 : (ps.map fun p => V.int p.2) = (ps.map (·.2)).map V.int := by rw [List.map_map]; rfl
    rw [lz]
    rw [lz2] at hn
    exact .lst (gr_new (back_M j2 m2 hr) hn) (tp_ints _)
/-! ### signs handed in loosely -/
def lo1 : List PyData → Prop := loosePre (fun _ => False) 0
def lo2 : List PyData → Prop := loosePre lo1 1
def lo3 : List PyData → Prop := loosePre lo2 10
def lp1 : List PyData → PyData → Prop := loosePost fun _ _ => False
def lp2 : List PyData → PyData → Prop := loosePost lp1
def lp3 : List PyData → PyData → Prop := loosePost lp2
theorem lo1_atom {x : PyData} (h : isR x = false) : lo1 [x] := ⟨x, rfl, .inl h⟩
theorem lo2_wd : ∀ x ∈ wd, lo2 [x] := by
  intro x hx
  unfold wd at hx
  simp only [List.mem_cons, List.not_mem_nil, or_false] at hx
  rcases hx with rfl | rfl | rfl | rfl | rfl | rfl
  · exact ⟨_, rfl, .inl rfl⟩
  · exact ⟨_, rfl, .inl rfl⟩
  · exact ⟨_, rfl, .inl rfl⟩
  · exact ⟨_, rfl, .inl rfl⟩
  · exact ⟨_, rfl, .inr ⟨[.str "a"], .inr rfl, by decide, fun y hy => by rw [List.mem_singleton.mp hy]; exact lo1_atom rfl⟩⟩
  · exact ⟨_, rfl, .inl rfl⟩
theorem lo3_signs {ss : List PyData} (h : ss.length ≤ 10) (hw : ∀ x ∈ ss, x ∈ wd) : lo3 [.list ss] := ⟨_, rfl, .inr ⟨ss, .inl rfl, h, fun y hy => lo2_wd y (hw y hy)⟩⟩
theorem lp_atom {post : List PyData → PyData → Prop} {x d : PyData} (hr : isR x = false) (h : loosePost post [x] d) : d = x := by
  obtain ⟨y, e, h⟩ := h
  injection e with e _
  subst e
  rcases h with ⟨_, h⟩ | ⟨xs, _, h, _⟩
  · exact h
  · rw [row_isR h] at hr
    cases hr
theorem lp2_wd : ∀ x ∈ wd, ∀ d, lp2 [x] d → (readW d).isSome = true ∧ (readZ d).1 = x := by
  intro x hx
  unfold wd at hx
  simp only [List.mem_cons, List.not_mem_nil, or_false] at hx
  rcases hx with rfl | rfl | rfl | rfl | rfl | rfl
  · intro d h; rw [lp_atom rfl h]; exact ⟨rfl, rfl⟩
  · intro d h; rw [lp_atom rfl h]; exact ⟨rfl, rfl⟩
  · intro d h; rw [lp_atom rfl h]; exact ⟨rfl, rfl⟩
  · intro d h; rw [lp_atom rfl h]; exact ⟨rfl, rfl⟩
  · intro d h
    obtain ⟨y, e, h⟩ := h
    injection e with e _
    subst e
    rcases h with ⟨h, _⟩ | ⟨xs, zs, h1, h2, h3⟩
    · cases h
    · have hxs : xs = [.str "a"] := row_inj h1 (.inr rfl)
      subst hxs
      cases h2 with
      | cons a t =>
        cases t
        have := lp_atom rfl a
        subst this
        rcases h3 with rfl | rfl
        · exact ⟨rfl, rfl⟩
        · exact ⟨rfl, rfl⟩
  · intro d h; rw [lp_atom rfl h]; exact ⟨rfl, rfl⟩
theorem lp3_signs {ss : List PyData} {d : PyData} (hne : ss ≠ []) (hl : ss.length ≤ 10) (hw : ∀ x ∈ ss, x ∈ wd) (h : lp3 [.list ss] d) : ∃ zs, Row d zs ∧ Words zs ∧ zs.map (fun x => (readZ x).1) = ss := by
  obtain ⟨y, e, h⟩ := h
  injection e with e _
  subst e
  rcases h with ⟨h, _⟩ | ⟨xs, zs, h1, h2, h3⟩
  · cases h
  · have hxs : xs = ss := row_inj h1 (.inl rfl)
    subst hxs
    have key : ∀ (xs zs : List PyData), Paired (fun a b => lp2 [a] b) xs zs → (∀ x ∈ xs, x ∈ wd) → (∀ z ∈ zs, (readW z).isSome = true) ∧ zs.map (fun x => (readZ x).1) = xs := by
      intro xs zs hp
      induction hp with
      | nil => intro _; exact ⟨(fun z hz => nomatch hz), rfl⟩
      | cons a t ih =>
        intro hw
        obtain ⟨i1, i2⟩ := ih fun x hx => hw x (List.mem_cons_of_mem _ hx)
        obtain ⟨a1, a2⟩ := lp2_wd _ (hw _ List.mem_cons_self) _ a
        refine ⟨fun z hz => ?_, by rw [List.map_cons, i2, a2]⟩
        rcases List.mem_cons.mp hz with rfl | hz
        · exact a1
        · exact i1 z hz
    obtain ⟨k1, k2⟩ := key _ _ h2 hw
    have hzl : zs.length = xs.length := (Paired.length h2).symm
    refine ⟨zs, h3, ⟨fun z => hne (List.length_eq_zero_iff.mp (by rw [← hzl, z]; rfl)), by omega, k1⟩, k2⟩
section
variable {P : Program} {w : World} {K : PySem.W.Frag} {mg : Str → Option Value} {base : Heap}
end
end K50
set_option maxHeartbeats 4000000
namespace K50
open PySem PySem.W PySem.Spec PyProof.Rows L2 LamX NdefX Evl RZ Dl Dn Dm Lz K0
/-! ### what is the same as itself -/
def Fine (x : PyData) : Prop := PyData.depth x < 4 ∧ SeqAt.shaped x = true ∧ wide x ∧ sameD x x = true
def Fine1 (x : PyData) : Prop := PyData.depth x ≤ 1 ∧ PyData.canLay0 x = true ∧ wide x ∧ sameD x x = true
theorem wide_none : wide .none := by unfold wide; trivial
theorem wide_int (n : Int) : wide (.int n) := by unfold wide; trivial
theorem fine_none1 : Fine1 .none := ⟨Nat.zero_le _, rfl, wide_none, rfl⟩
theorem fine_int1 (n : Int) : Fine1 (.int n) := ⟨Nat.zero_le _, rfl, wide_int n, by show decide (n = n) = true; exact decide_eq_true rfl⟩
theorem fine_pair1 (a b : Int) : Fine1 (.tuple [.int a, .int b]) := ⟨Nat.le_refl 1, rfl, (by
  unfold wide
  refine ⟨(by decide : 2 ≤ 1000), fun x hx => ?_⟩
  rcases List.mem_cons.mp hx with rfl | hx
  · exact wide_int _
  · rw [List.mem_singleton.mp hx]; exact wide_int _), by
    show (decide (a = a) && (decide (b = b) && true)) = true
    rw [decide_eq_true rfl, decide_eq_true rfl]
    rfl⟩
theorem fine_int (n : Int) : Fine (.int n) := ⟨(by decide : (0 : Nat) < 4), rfl, wide_int n, (fine_int1 n).2.2.2⟩
theorem fine_list {xs : List PyData} (hl : xs.length ≤ 1000) (h : ∀ x ∈ xs, Fine1 x) : Fine (.list xs) := by
  have key : ∀ xs : List PyData, (∀ x ∈ xs, Fine1 x) → PyData.depthAll xs ≤ 1 ∧ PyData.canLayAll0 xs = true ∧ sameAll xs xs = true := by
    intro xs
    induction xs with
    | nil => intro _; exact ⟨Nat.zero_le _, rfl, rfl⟩
    | cons x xs ih =>
      intro h
      obtain ⟨a, b, c⟩ := ih fun y hy => h y (List.mem_cons_of_mem _ hy)
      obtain ⟨d, e, _, f⟩ := h x List.mem_cons_self
      refine ⟨?_, ?_, ?_⟩
      · show max (PyData.depth x) (PyData.depthAll xs) ≤ 1
        omega
      · show (PyData.canLay0 x && PyData.canLayAll0 xs) = true
        rw [e, b]; rfl
      · show (sameD x x && sameAll xs xs) = true
        rw [f, c]; rfl
  obtain ⟨a, b, c⟩ := key xs h
  have dp : PyData.depth (.list xs) ≤ 2 := by
    show PyData.depthAll xs + 1 ≤ 2
    omega
  refine ⟨by omega, ?_, by unfold wide; exact ⟨hl, fun x hx => (h x hx).2.2.1⟩, c⟩
  unfold SeqAt.shaped
  have c1 : PyData.canLay0 (.list xs) = true := b
  rw [c1, decide_eq_true (by omega)]
  rfl
theorem fine_ints {ns : List Int} (hl : ns.length ≤ 1000) : Fine (.list (ns.map PyData.int)) := fine_list (by rw [List.length_map]; exact hl) fun x hx => by
  obtain ⟨n, _, rfl⟩ := List.mem_map.mp hx
  exact fine_int1 n
theorem fine_one {x : PyData} (h : Fine1 x) : Fine (.list [x]) := fine_list (show 1 ≤ 1000 by decide) fun y hy => by rw [List.mem_singleton.mp hy]; exact h
/-! ### first pairs: there is one answer -/
theorem least (P : Nat → Prop) : (∃ x, P x) → ∃ x, P x ∧ ∀ y, y < x → ¬ P y := by
  rintro ⟨x, hx⟩
  revert hx
  induction x using Nat.strongRecOn with
  | ind x ih =>
    intro hx
    by_cases h : ∃ y, y < x ∧ P y
    · obtain ⟨y, h1, h2⟩ := h
      exact ih y h1 h2
    · exact ⟨x, hx, fun y h1 h2 => h ⟨y, h1, h2⟩⟩
theorem dueQ_ex (C : Nat → Nat → Prop) (n : Nat) : ∃ d, DueQ C n d := by
  by_cases h : ∃ a b, a < b ∧ b < n ∧ C a b
  · obtain ⟨a, ⟨b', hb⟩, ha⟩ := least (fun a => ∃ b, a < b ∧ b < n ∧ C a b) h
    obtain ⟨b, hb2, hbm⟩ := least (fun b => a < b ∧ b < n ∧ C a b) ⟨b', hb⟩
    refine ⟨_, .inr ⟨a, b, rfl, hb2.1, hb2.2.1, hb2.2.2, fun a' b' h1 h2 h3 => ?_⟩⟩
    have z : ¬ a' < a := fun z => ha a' z ⟨b', h1, h2, h3⟩
    by_cases e : a' = a
    · subst e
      have : ¬ b' < b := fun z => hbm b' z ⟨h1, h2, h3⟩
      omega
    · omega
  · exact ⟨.none, .inl ⟨rfl, fun a b h1 h2 h3 => h ⟨a, b, h1, h2, h3⟩⟩⟩
theorem due_fine {C : Nat → Nat → Prop} {n : Nat} {d : PyData} (h : DueQ C n d) : Fine1 d := by
  rcases h with ⟨rfl, _⟩ | ⟨a, b, rfl, _⟩
  · exact fine_none1
  · exact fine_pair1 _ _
theorem due_non {ps : List (PyData × Int)} (hok : okQ ps) {d : PyData} (hd : DueQ (barAx ps) ps.length d) {B : Hp} {v : V} (t : Tp B v d) : decide (v = V.non) = decide (axes ps = []) := by
  rcases hd with ⟨rfl, h⟩ | ⟨a, b, rfl, h1, h2, h3, _⟩
  · cases t
    have z : axes ps = [] := by
      by_cases z : axes ps = []
      · exact z
      · obtain ⟨a, b, h1, h2, h3⟩ := (axes_pair hok).mp z
        exact absurd ((barAx_iff hok).mpr h3) (h a b h1 h2)
    rw [decide_eq_true rfl, decide_eq_true z]
  · have z : axes ps ≠ [] := (axes_pair hok).mpr ⟨a, b, h1, h2, (barAx_iff hok).mp h3⟩
    rw [decide_eq_false z]
    cases t
    exact decide_eq_false (fun z => by cases z)
theorem due_bars {ps : List (PyData × Int)} (hok : okQ ps) {m : Nat} (hst : Stable (netR (ps.map (·.2))) (ssP ps) m) {d : PyData} (hd : DueQ (barAx ps) ps.length d) : Due (ps.map (·.2)) (cP ps m) d := by
  have e : ∀ a b, a < b → b < ps.length → (barAx ps a b ↔ bars (ps.map (·.2)) (cP ps m) a b) := fun a b h1 h2 => (barAx_iff hok).trans (bars_iff hok hst (by omega) h2).symm
  have zl : (ps.map (·.2)).length = ps.length := List.length_map _
  unfold Due
  rw [zl]
  rcases hd with ⟨rfl, h⟩ | ⟨a, b, rfl, h1, h2, h3, h4⟩
  · exact .inl ⟨rfl, fun a b h1 h2 h3 => h a b h1 h2 ((e a b h1 h2).mpr h3)⟩
  · exact .inr ⟨a, b, rfl, h1, h2, (e a b h1 h2).mp h3, fun a' b' g1 g2 g3 => h4 a' b' g1 g2 ((e a' b' g1 g2).mpr g3)⟩
/-! ### signs and senses handed in -/
theorem wd_read : ∀ x ∈ wd, (readW x).isSome = true ∧ (readZ x).1 = x := by
  intro x hx
  unfold wd at hx
  simp only [List.mem_cons, List.not_mem_nil, or_false] at hx
  rcases hx with rfl | rfl | rfl | rfl | rfl | rfl <;> exact ⟨rfl, rfl⟩
def eD (ps : List (PyData × Int)) : List PyData := ps.map fun p => .int p.2
theorem eD_ints (ps : List (PyData × Int)) : eD ps = (ps.map (·.2)).map PyData.int := by
  unfold eD
  rw [List.map_map]
  rfl
theorem ss_wd {ps : List (PyData × Int)} (hok : okQ ps) : ∀ x ∈ ssP ps, x ∈ wd := fun x hx => by
  obtain ⟨p, hp, rfl⟩ := List.mem_map.mp hx
  exact (hok.2.2 p hp).1
theorem np_plain {ps : List (PyData × Int)} (hok : okQ ps) {x y : PyData} (hx : Row x (ssP ps)) (hy : Row y (eD ps)) : NP [x, y] ps := by
  have zl : (ssP ps).length = ps.length := List.length_map _
  refine ⟨x, y, ssP ps, rfl, hx, ⟨fun z => ?_, by rw [zl]; exact hok.2.1, fun x hx => (wd_read x (ss_wd hok x hx)).1⟩, hy, ?_, hok⟩
  · have := hok.1
    rw [z] at zl
    simp at zl
    omega
  · refine (List.map_congr_left (g := id) fun x hx => (wd_read x (ss_wd hok x hx)).2).trans ?_
    rw [List.map_id]
    rfl
theorem np_loose {ps : List (PyData × Int)} (hok : okQ ps) (h10 : ps.length ≤ 10) {x y : PyData} (hx : lp3 [.list (ssP ps)] x) (hy : Row y (eD ps)) : NP [x, y] ps := by
  have zl : (ssP ps).length = ps.length := List.length_map _
  obtain ⟨zs, h1, h2, h3⟩ := lp3_signs (fun z => by have := hok.1; rw [z] at zl; simp at zl; omega) (by rw [zl]; exact h10) (ss_wd hok) hx
  exact ⟨x, y, zs, rfl, h1, h2, hy, h3, hok⟩
def lcD (ps : List (PyData × Int)) : PyData := if per ps = 1 ∨ axes ps ≠ [] then .none else .int (if per ps % 2 = 0 then 2 else 3)
theorem lcD_fine (ps : List (PyData × Int)) : Fine1 (lcD ps) := by
  unfold lcD
  split
  · exact fine_none1
  · exact fine_int1 _
section
variable {D : Md} {σ : L2.St} {B H H1 Hc : Hp} {ta tb te : TE} {x y : PyData} {k k1 k2 s : Nat} {E : XK} {t : TT} {tu tz : TS} {Dd : Ends} {b : Bool}
theorem esm2 (c : Cl D B) {R1 R2 : PyData → Prop} (ha : EvM D ta σ B R1 k1) (hb : EvM D tb σ B R2 k2) : EvsM D (tCons ta (tCons tb tNil)) σ B (fun l => ∃ x y, l = [x, y] ∧ R1 x ∧ R2 y) (k1 + (k2 + 0)) := fun n H1 e j hk Q q => (esm_cons c ha (esm_cons c hb esm_nil)) n H1 e j hk Q fun vs H2 ds rd m j2 t => q vs H2 ds (by
  obtain ⟨d1, ds1, rfl, h1, d2, ds2, rfl, h2, rfl⟩ := rd
  exact ⟨_, _, rfl, h1, h2⟩) m j2 t
theorem em_lst1 (c : Cl D B) (ha : EvM D ta σ B (· = x) k) : EvM D (tLst (tCons ta tNil)) σ B (· = .list [x]) (k + 0) := em_is (em_lst (esm_cons c ha esm_nil) fun ds hd => by
  obtain ⟨d1, ds1, rfl, _, rfl⟩ := hd
  exact (show 1 ≤ 100000 by decide)) fun d hd => by
  obtain ⟨ds, rfl, d1, ds1, rfl, rfl, rfl⟩ := hd
  rfl
theorem em_same (c : Cl D B) (ha : EvM D ta σ B (· = x) k1) (hb : EvM D tb σ B (· = x) k2) (f : Fine x) : EvM D (tCall (spP 2 (rSame 4)) [] E (tCons ta (tCons tb tNil))) σ B (· = .bool true) (k1 + (k2 + 0)) := em_callP c (esm2 c ha hb) fun ds hd => by
  obtain ⟨d1, d2, rfl, rfl, rfl⟩ := hd
  exact ⟨rfl, _, ⟨_, _, rfl, f.1, f.2.1, f.2.1, f.2.2.1, rfl⟩, by rw [f.2.2.2]⟩
theorem ed_same (ha : EvD ta σ B x) (hb : EvD tb σ B x) (f : Fine x) : EvD (tCall (spP 2 (rSame 4)) [] E (tCons ta (tCons tb tNil))) σ B (.bool true) := ed_call (es_cons ha (es_cons hb es_nil)) rfl ⟨_, _, rfl, f.1, f.2.1, f.2.1, f.2.2.1, by rw [f.2.2.2]⟩
theorem q_whenJ (P : L2.St → Hp → Prop) (c : Ex B Hc) (h : EvT t σ B b) (h1 : b = true → ∀ Hn, Ex Hc Hn → ∀ N : L2.St → Hp → Prop, (∀ σ H, P σ H → N σ H) → tu { Dd with nx := N } σ Hn) (h2 : b = false → ∀ Hn, Ex Hc Hn → P σ Hn) (hr : ∀ σ H, P σ H → tz Dd σ H) : tSeq (tIfS t tu tNext) tz Dd σ Hc := q_whenD c h (fun hb Hn e => h1 hb Hn e _ hr) (fun hb Hn e => hr _ _ (h2 hb Hn e))
end
section
variable {p l : Addr} {T : List (Addr × Str)} {σ : L2.St} {B H H1 Hc : Hp} {ta : TA} {k s i : Nat} {E : XK} {Rs : List PyData → Prop} {ps : List (PyData × Int)} {tz : TS} {Dd : Ends}
theorem em_lcol (c : Cl (mdS p l T) B) (h : EvsM (mdS p l T) ta σ B Rs k) (hf : ∀ ds, Rs ds → ds.length = 2 ∧ NP ds ps) : EvM (mdS p l T) (tCall (spT T 2 npPre lcPost) [] E ta) σ B (· = lcD ps) k := em_is (em_callT c h fun ds hd => ⟨(hf ds hd).1, ps, (hf ds hd).2⟩) fun d ⟨ds, rd, ps', h1, h2⟩ => by
  have e := np_inj h1 (hf ds rd).2
  subst e
  unfold lcD
  rcases h2 with ⟨h2, rfl⟩ | ⟨h2, h3, rfl⟩
  · rw [if_pos h2]
  · exact (if_neg fun z => z.elim h2 fun z => z h3).symm
theorem em_barred (c : Cl (mdS p l T) B) (h : EvsM (mdS p l T) ta σ B Rs k) (hf : ∀ ds, Rs ds → ds.length = 2 ∧ NP ds ps) {d0 : PyData} (hd : DueQ (barAx ps) ps.length d0) : EvM (mdS p l T) (tCall (spT T 2 npPre bbPost) [] E ta) σ B (· = d0) k := em_is (em_callT c h fun ds hd => ⟨(hf ds hd).1, ps, (hf ds hd).2⟩) fun d ⟨ds, rd, ps', h1, h2⟩ => by
  have e := np_inj h1 (hf ds rd).2
  subst e
  exact dueQ_same h2 hd fun _ _ _ _ => Iff.rfl
theorem em_rsK (cl : Cl (mdS p l T) B) (h : EvsM (mdS p l T) ta σ B Rs k) (hR : ∀ ds, Rs ds → ∃ x y, ds = [x, y] ∧ NP [y, x] ps) :
    EvM (mdS p l T) (tCallK2 (spRS T) E ta) σ B (· = rsD ps) k := fun s Hc e j hk Q q => by
  refine h s Hc e j hk _ fun vs H2 ds rd m2 j2 dvs => ?_
  obtain ⟨x, y, rfl, h2⟩ := hR ds rd
  obtain ⟨v, u, rfl, tx, ty⟩ := tp2 dvs
  refine ⟨v, u, rfl, ?_⟩
  refine ⟨p, l, gr B Hc H2, [y, x], s + k, ps, gr_subM cl e m2, cl_gr cl j, j2, hk, .cons ty (.cons tx .nil), rfl, h2, fun ha Hn m3 j3 => q _ Hn _ rfl (m2.trans m3) j3 ?_, fun ha r Hn m3 j3 hr hn => q _ Hn _ rfl (m2.trans m3) j3 ?_⟩
  · unfold rsD
    rw [if_neg ha]
    exact .non
  · unfold rsD
    rw [if_pos ha]
    have lz : (ps.map fun p => PyData.int p.2) = (ps.map (·.2)).map PyData.int := by rw [List.map_map]; rfl
    have lz2 : (ps.map fun p => V.int p.2) = (ps.map (·.2)).map V.int := by rw [List.map_map]; rfl
    rw [lz]
    rw [lz2] at hn
    exact .lst (gr_new (back_M j2 m2 hr) hn) (tp_ints _)
theorem q_asgRS2 (b : BsM (mdS p l T) H H1 B Hc s) (h : EvsM (mdS p l T) ta σ B Rs k) (hR : ∀ ds, Rs ds → ds.length = 2 ∧ NP ds ps) (hl : s + k ≤ 100000)
    (kk : ∀ tv Hn, ExM (mdS p l T) Hc Hn → (mdS p l T).J (s + k) Hn → ((axes ps ≠ [] ∧ tv = .non) ∨ (axes ps = [] ∧ ∃ r, tv = .ref r ∧ Hc r = none ∧ Hn r = some (.lst ((ps.map (·.2)).map V.int)))) → tz Dd (σ.set i (some tv)) Hn) : tSeq (tAsg (tCall (spRS T) [] E ta) (gName i)) tz Dd σ Hc :=
  q_asgRS b h hR hl (fun ha Hn m j => kk _ Hn m j (.inl ⟨ha, rfl⟩)) (fun ha r Hn m j hr hn => kk _ Hn m j (.inr ⟨ha, r, rfl, hr, by rw [hn, List.map_map]; rfl⟩))
end
end K50
set_option maxHeartbeats 600000
namespace K50
open PySem PySem.W PySem.Spec PyProof.Rows L2 LamX NdefX Evl RZ Dl Dn Dm Lz K0
/-! ### one_right -/
abbrev nOne : List Str := ["stream", "signs", "senses", "many", "classes", "rounds", "due", "told", "chosen", "was", "door"]
def spST (T : List (Addr × Str)) (n : Nat) (pre : List PyData → Prop) (post : List PyData → PyData → Prop) (kk : Nat) : Sp := fun vs H1 Q E => ∃ p l vs', vs = V.ref p :: vs' ∧ spM (mdS p l T) n pre post (fun _ => kk) vs' H1 Q E
theorem spST_len {T : List (Addr × Str)} {n : Nat} {pre : List PyData → Prop} {post : List PyData → PyData → Prop} {kk : Nat} {vs : List V} {H : Hp} {Q : VK} {E : XK} (h : spST T n pre post kk vs H Q E) : vs.length = n + 1 := by
  obtain ⟨p, l, vs', rfl, h⟩ := h
  rw [List.length_cons, spM_len h]
def onePre : List PyData → Prop := fun ds => ∃ ps, okQ ps ∧ ps.length ≤ 10 ∧ ds = [.list (ps.map (·.1)), .list (ps.map fun p => .int p.2)]
def isTrue_ : List PyData → PyData → Prop := fun _ d => d = .bool true
def CallRS (P : Program) (w : World) (K : PySem.W.Frag) (mg : Str → Option Value) (base : Heap) (T : List (Addr × Str)) : Prop :=
  ∃ (f : Addr) (fd : FuncData), FnOk P w K mg base CX0 7 f fd ["signs", "senses"] (spRS T) ∧ mg "ring_sense" = some (.ref f) ∧ PySem.W.keepIn K (.ref f) = true ∧ L2.Binds K fd ["signs", "senses"] [] ∧
    ∀ (s : Shared) (a b : Value), K.In s.heap → BindsTo s fd ⟨[], [("senses", a), ("signs", b)]⟩ ((["signs", "senses"] : List Str).zip [b, a])
theorem zip_pT : ∀ cs es : List Int, zipD (cs.map PyData.int) (es.map PyData.int) = (cs.zip es).map pT
  | [], es => by cases es <;> rfl
  | c :: cs, [] => rfl
  | c :: cs, e :: es => by
    show PyData.tuple [.int c, .int e] :: zipD (cs.map PyData.int) (es.map PyData.int) = _
    rw [zip_pT cs es]
    rfl
theorem ahead_self : ∀ es : List Int, aheadB es es = List.replicate es.length true
  | [] => rfl
  | e :: es => by
    show decide (e = e) :: aheadB es es = _
    rw [ahead_self es, decide_eq_true rfl]
    rfl
theorem once_rep : ∀ n : Nat, 0 < n → onceD (List.replicate n (PyData.bool true)) = [.bool true] := by
  have key : ∀ n, (List.replicate n (PyData.bool true)).foldl (fun acc x => if acc.any (fun z => PyData.eqv z x) then acc else acc ++ [x]) [.bool true] = [.bool true] := by
    intro n
    induction n with
    | zero => rfl
    | succ n ih =>
      rw [List.replicate_succ, List.foldl_cons]
      exact ih
  intro n hn
  obtain ⟨k, rfl⟩ : ∃ k, n = k + 1 := ⟨n - 1, by omega⟩
  unfold onceD
  rw [List.replicate_succ, List.foldl_cons]
  exact key k
theorem bools_shaped (n : Nat) : SeqAt.shaped (.list (List.replicate n (PyData.bool true))) = true := by
  have key : ∀ n, PyData.depthAll (List.replicate n (PyData.bool true)) = 0 ∧ PyData.canLayAll0 (List.replicate n (PyData.bool true)) = true := by
    intro n
    induction n with
    | zero => exact ⟨rfl, rfl⟩
    | succ n ih =>
      rw [List.replicate_succ]
      refine ⟨?_, ?_⟩
      · show max (PyData.depth (.bool true)) (PyData.depthAll (List.replicate n (PyData.bool true))) = 0
        rw [ih.1]; rfl
      · show (PyData.canLay0 (.bool true) && PyData.canLayAll0 (List.replicate n (PyData.bool true))) = true
        rw [ih.2]; rfl
  obtain ⟨a, b⟩ := key n
  unfold SeqAt.shaped
  have c1 : PyData.canLay0 (.list (List.replicate n (PyData.bool true))) = true := b
  rw [c1, decide_eq_true (by show PyData.depthAll _ + 1 ≤ 64; omega)]
  rfl
theorem net_len (es : List Int) : (netR es).length = 2 * es.length := by
  have key : ∀ l : List Nat, (l.flatMap (netPair es)).length = 2 * l.length := by
    intro l
    induction l with
    | nil => rfl
    | cons a l ih =>
      rw [List.flatMap_cons, List.length_append, ih, List.length_cons]
      show 2 + 2 * l.length = _
      omega
  unfold netR
  rw [key, List.length_range]
theorem st_pre {ps : List (PyData × Int)} (hok : okQ ps) (h10 : ps.length ≤ 400) {m : Nat} (hm : m ≤ ps.length) (hst : Stable (netR (ps.map (·.2))) (ssP ps) m) (hmin : ∀ j < m, ¬ Stable (netR (ps.map (·.2))) (ssP ps) j) :
    rStable [.tuple [.list (ssP ps), .list (netR (ps.map (·.2)))]] (.tuple [.list ((cP ps m).map PyData.int), .int (m : Int)]) := by
  have zl : (ssP ps).length = ps.length := List.length_map _
  have ze : (ps.map (·.2)).length = ps.length := List.length_map _
  obtain ⟨ks, hks, hkd⟩ := ss_nk hok
  have h0 := hok.1
  refine ⟨ssP ps, netR (ps.map (·.2)), ks, m, rfl, hks, hkd, fun z => ?_, by rw [zl]; omega, ?_, ?_, by omega, ?_, ?_, ?_⟩
  · rw [z] at zl
    simp at zl
    omega
  · rw [zl]; exact net_roads ps
  · rw [net_len, ze]; omega
  · exact hst
  · exact hmin
  · rfl
theorem cP_range {ps : List (PyData × Int)} (hok : okQ ps) (h10 : ps.length ≤ 10) (m : Nat) : ∀ c ∈ cP ps m, 0 ≤ c ∧ c < 10 := fun c hc => by
  obtain ⟨ys, kz, e, h1, h2, _⟩ := cP_max hok m
  rw [e] at hc
  have := numsI_range h1 c hc
  have z := onceK_len kz
  have z2 := nkAll_len h1
  omega
theorem axes_sh (ns : List Int) : SeqAt.shaped (.list (ns.map PyData.int)) = true := shInts ns
theorem eqv_nil (ns : List Int) : PyData.eqv (.list (ns.map PyData.int)) (.list []) = decide (ns = []) := by
  cases ns with
  | nil => rfl
  | cons n ns => rw [eqNil]; rfl
theorem em_args {p l : Addr} {T : List (Addr × Str)} {K : PySem.W.Frag} {B : Hp} {σ : L2.St} {v u : V} {ss ys : List PyData} {E : XK} (cl : Cl (mdS p l T) B) (x7 : Tp B v (.list ss)) (y7 : Tp B u (.list ys)) (hs : lo3 [.list ss]) (h0 : σ[0]? = some (some (.ref p))) (h1 : σ[1]? = some (some v)) (h2 : σ[2]? = some (some u)) :
    EvsM (mdS p l T) (tCons (tCall (spS 1 lo3 lp3 21) [] E (tCons (tVar 0) (tCons (tVar 1) tNil))) (tCons (tCB (rTupOf K) (tCons (tVar 2) tNil)) tNil)) σ B (fun ds => ∃ a b, ds = [a, b] ∧ (lp3 [.list ss] a) ∧ b = .tuple ys) 21 :=
  esm2 (k1 := 21) (k2 := 0) cl (em_is (em_callS (k := 0) (Rs := fun ds => ds = [.list ss]) (n := 1) cl h0 (fun n H1 e j hk Q q => (esm_cons cl (em_of (ed_var h1 x7)) esm_nil) n H1 e j hk Q fun vs H2 ds rd m j2 t => q vs H2 ds (by obtain ⟨d1, ds1, rfl, rfl, rfl⟩ := rd; rfl) m j2 t) fun ds hd => by subst hd; exact ⟨rfl, hs⟩) fun d hd => by
    obtain ⟨ds, rfl, hd⟩ := hd
    exact hd) (em_of (ed_cb (es_cons (ed_var h2 y7) es_nil) rc_tupL))
theorem s_whenM {D : Md} {σ : L2.St} {B H H1 Hc : Hp} {k s : Nat} {t : TT} {tu : TS} {Dd : Ends} {b : Bool} (x : BsM D H H1 B Hc s) (h : EtM D t σ B b k) (l : s + k ≤ 100000) (h1 : b = true → ∀ Hn, ExM D Hc Hn → D.J (s + k) Hn → tu Dd σ Hn) (h2 : b = false → ∀ Hn, ExM D Hc Hn → D.J (s + k) Hn → Dd.nx σ Hn) : tIfS t tu tNext Dd σ Hc := h s Hc x.c x.j l _ fun H2 m j2 => by
  cases b with
  | true => exact h1 rfl H2 m j2
  | false => exact h2 rfl H2 m j2
theorem rc_intB2 {b : Bool} : RCD rInt1 [.bool b] (.int (if b = true then 1 else 0)) := fun H H1 vs e h Q q => by
  cases h with
  | cons a t =>
    cases t
    cases a
    exact .inr ⟨b, rfl, q _ H1 (Ex.refl H1) (.int _)⟩
section
variable {P : Program} {w : World} {K : PySem.W.Frag} {mg : Str → Option Value} {base : Heap} {T : List (Addr × Str)}
end
end K50
set_option maxHeartbeats 1000000
namespace Ns
open PySem PySem.W PySem.Spec PyProof.Rows L2 Evl RZ Dl Dm ClX
/-! ### a def called with its arguments' values, whatever is around -/
section
variable {X : Cx} {A : Around} {k : Nat} {f : Addr} {fd : FuncData} {ps : List Str} {sp : Sp}
theorem call_fnA {pins : List (Addr × Obj)} {σ : L2.St} {s : Shared} {H : Hp} {us : List Value} {vs : List V} {R : VK} {E : Value → Shared → Prop} {Q : Value → Shared → Prop} (hA : A.frames = X.A.frames) (hr : Room k A) (F : FnOk X.prog X.w X.K X.mg X.base CX0 k f fd ps sp) (hb : L2.Binds X.K fd ps [])
    (I : Inv X pins σ H s) (r : Vals vs us) (h : sp vs H R E0) (q : ∀ (v' : Value) (s2 : Shared) (u' : V) (H2 : Hp), Inv X pins σ H2 s2 → RelV u' v' → R u' H2 → Q v' s2) : wpAny (model X.prog X.w) A (call (.ref f) us) Q E s := by
  have e0 : Env0 X.prog X.w X.K X.mg X.base A X.stack s H := ⟨hA.trans I.ok.frames, I.ok.mod, I.bs, Nat.le_trans I.ok.bsz I.sz, I.stack, I.stkFree, I.hok, I.bare⟩
  have hl : us.length = ps.length := by rw [← r.length]; exact F.len _ _ _ _ h
  have b := hb s us I.kIn (by rw [List.append_nil]; exact hl)
  rw [List.append_nil] at b
  refine wpAny_call (codeAny_mono (F.run A X.stack s H ⟨us, []⟩ us vs _ _ hr e0 b r h) fun r s' hq => ?_)
  match r, hq with
  | .error e, hq => exact (show False from hq).elim
  | .ok (.ret w), hq =>
    obtain ⟨u', H2, I2, r2, q2⟩ := I.after hq
    exact q w s' u' H2 I2 r2 q2
end
/-! ### C.m(..), m a def of the class itself -/
section
variable {X : Cx} {CX : CXT} {k : Nat} {C f : Addr} {mc : Value} {fd : FuncData} {ps : List Str} {sp : Sp} {E : XK} {x m : Str} {e : Expr} {es : List Expr} {p pos apos : Pos} {t : TA}
theorem pe_clsF {pl : Sem Bool} (r : CRead X.K C mc) (c : CVal X.K C mc m (.ref f) (.ref f)) (F : FnOk X.prog X.w X.K X.mg X.base CX k f fd ps sp) (hr : Room k X.A) (hg : Gl X x) (hm : X.mg x = some (.ref C)) (kp : PySem.W.keepIn X.K (.ref f) = true) (hb : L2.Binds X.K fd ps []) (hx : Passes CX X E)
    (ha : PA X (e :: es) t) (hdb : (x == ("__debug__" : Str)) = false := by decide) (hst : starEach (e :: es) X.env = (false, eval e X.env) :: starEach es X.env := by rfl) (hpl : (backTo pos (starEach es X.env)).any (·.1) = false := by rfl)
    (ht : eval (.Call (.Attribute (.Name x p) m apos) (e :: es) [] pos) X.env = (do
      let ov ← eval (.Name x p) X.env
      standAt apos.atName
      let (f, first) ← holding [ov] (getMethod ov m pl)
      callWith pos f first (backTo pos (starEach (e :: es) X.env)) (backToKw pos (keywordEach [] X.env))) := by rfl) :
    PE X (.Call (.Attribute (.Name x p) m apos) (e :: es) [] pos) (tCall sp [] E t) := by
  constructor
  intro pins s σ H Q I h
  refine PySem.W.methodCall_KW (pl := pl) (thn ((pe_glob (v := .ref C) hg hm rfl hdb).run pins s σ H (fun v H1 => v = .ref C ∧ H1 = H) I ⟨rfl, rfl⟩) fun u s1 ⟨v, H1, I1, r1, ev, eH⟩ => ?_) ht
  subst ev
  rw [eH] at I1
  obtain rfl : u = Value.ref C := r1
  refine PySem.W.method_cls I1.kIn r.ga (getcval_ok I1 r c fun s2 I2 => ?_)
  refine PySem.W.callWith_K (first := []) (h₀ := X.base) I2.ok.mod.kin kp (thn (ha.run pos pins s2 σ H _ I2 h) fun us s3 ⟨vs, H2, I3, rv, q2⟩ => ⟨I3.kIn, ?_⟩) hst hpl
  exact run_fn (ds := []) (dvs := []) F hr hb .nil hx I3 rv q2
end
/-! ### len of an instance with its own -/
def rLenI (C : Addr) (sp : Sp) : List V → Hp → VK → Prop := fun xs H Q => ∃ a dx fs, xs = [.ref a] ∧ H a = some (.ins C dx fs) ∧ sp [.ref a] H (fun v H2 => ∃ n : Nat, v = .int (n : Int) ∧ n ≤ 100000 ∧ Q (.int (n : Int)) H2) E0
section
variable {X : Cx} {k : Nat} {C f : Addr} {fd : FuncData} {ps : List Str} {sp : Sp}
theorem call_lenI (hs : PySem.W.findIn X.K (.ref C) "__len__" = some (some (.ref f))) (hf : PySem.W.isFn X.K (.ref f) = true) (F : FnOk X.prog X.w X.K X.mg X.base CX0 k f fd ps sp) (hr : Room (k + 1) X.A) (hb : L2.Binds X.K fd ps []) : CallR X (.builtin "len") (rLenI C sp) := by
  intro pins s σ H xs us Q I r h
  obtain ⟨a, dx, fs, rfl, ea, q⟩ := h
  obtain rfl := Vals.ref1 r
  obtain ⟨mA, O, _⟩ := ins_get I.hok ea
  obtain ⟨od, J, _⟩ := O.look
  have hr2 : Room k X.A.in1 := ⟨hr.hd, by have := hr.dp; show X.A.depth + 3 * k + 5 < _; omega, by have := hr.un; show X.A.units + 1 + 16 * k + 200 < _; omega⟩
  refine Calls.call_function_entry kind_len plain_len entry_len (args_len1 _) ?_
  unfold Builtin.«len»
  refine wpAny_bind (m := oneArg "len" _) (wpAny_pure ?_)
  refine wpAny_bind (m := callSpecial? (.ref a) (Str.ofString "__len__")) (special_fn I.kIn J hs (beq_iff_eq.mp hf) (call_fnA (A := X.A.in1) (us := [Value.ref a]) (vs := [V.ref a]) rfl hr2 F hb I (.cons (show RelV (V.ref a) (Value.ref a) from rfl) .nil) q fun v' s2 u' H2 I2 ru hn => ?_))
  obtain ⟨n, rfl, hn1, hq⟩ := hn
  obtain ⟨t, rfl⟩ := (show ∃ t, v' = Value.int (n : Int) t from ru)
  refine wpAny_bind (wpAny_holding (wpAny_pure ?_))
  refine wpAny_bind (wpAny_letGo ?_)
  show wpAny _ _ (if ((n : Nat) : Int) < 0 then _ else _) _ _ _
  rw [if_neg (by omega)]
  show wpAny _ _ (if ((n : Nat) : Int) ≥ 2 ^ 63 then _ else _) _ _ _
  rw [if_neg (by omega)]
  exact wpAny_bind (wpAny_mkInt (wpAny_pure ⟨_, rfl, .int (n : Int), H2, I2.tok _, ⟨_, rfl⟩, hq⟩))
end
end Ns
namespace Dm
open PySem PySem.Spec PyProof.Rows L2 Evl RZ Dl
/-! ### an expression whose value has a property in the heap; k is spent -/
def EvX (D : Md) (te : TE) (σ : L2.St) (B : Hp) (R : Hp → V → Prop) (k : Nat) : Prop := ∀ n H1, Ex B H1 → D.J n H1 → n + k ≤ 100000 → ∀ Q : VK, (∀ v H2, ExM D H1 H2 → D.J (n + k) H2 → R (gr B H1 H2) v → Q v H2) → te σ H1 Q
def EvsX (D : Md) (ta : TA) (σ : L2.St) (B : Hp) (R : Hp → List V → Prop) (k : Nat) : Prop := ∀ n H1, Ex B H1 → D.J n H1 → n + k ≤ 100000 → ∀ Q : List V → Hp → Prop, (∀ vs H2, ExM D H1 H2 → D.J (n + k) H2 → R (gr B H1 H2) vs → Q vs H2) → ta σ H1 Q
/-- a property that stays -/
def Mn {α : Type} (R : Hp → α → Prop) : Prop := ∀ H H' a, Ex H H' → R H a → R H' a
section
variable {D : Md} {K : PySem.W.Frag} {σ : L2.St} {H H1 B Hc : Hp} {te ta : TE} {d : PyData} {Rd : PyData → Prop} {R S : Hp → V → Prop} {Rs : Hp → List V → Prop} {k k1 k2 s : Nat} {tz : TS} {E : Ends}
theorem mn_tp {d : PyData} : Mn (fun H v => Tp H v d) := fun H H' v e h => Tp.ex e d v h
theorem mn_some {Rd : PyData → Prop} : Mn (fun H v => ∃ d, Rd d ∧ Tp H v d) := fun H H' v e ⟨d, h1, h2⟩ => ⟨d, h1, Tp.ex e d v h2⟩
theorem ex_of (h : EvM D te σ B Rd k) : EvX D te σ B (fun H v => ∃ d, Rd d ∧ Tp H v d) k := fun n H1 e j hk Q q => h n H1 e j hk Q fun v H2 d rd m j2 t => q v H2 m j2 ⟨d, rd, t⟩
theorem ex_to (h : EvX D te σ B (fun H v => ∃ d, Rd d ∧ Tp H v d) k) : EvM D te σ B Rd k := fun n H1 e j hk Q q => h n H1 e j hk Q fun v H2 m j2 ⟨d, rd, t⟩ => q v H2 d rd m j2 t
theorem ex_d (h : EvD te σ B d) : EvX D te σ B (fun H v => Tp H v d) 0 := fun n H1 e j _ Q q => h H1 e Q fun v H2 e2 t => q v H2 (ExM.of e2) (D.keep _ _ _ e2 j) t
theorem ex_is (h : EvX D te σ B R k) (f : ∀ H v, R H v → S H v) : EvX D te σ B S k := fun n H1 e j hk Q q => h n H1 e j hk Q fun v H2 m j2 t => q v H2 m j2 (f _ _ t)
theorem ex_v {i : Nat} {v : V} (hv : σ[i]? = some (some v)) (m : Mn R) (h : R B v) : EvX D (tVar i) σ B R 0 := fun n H1 e j _ Q q => ⟨v, hv, q v H1 (ExM.refl H1) j (m _ _ v (gr_ex e) h)⟩
theorem esx_nil : EvsX D tNil σ B (fun _ l => l = []) 0 := fun n H1 _ j _ _ q => q [] H1 (ExM.refl H1) j rfl
theorem esx_cons (c : Cl D B) {tr : TA} (h : EvX D te σ B R k1) (mR : Mn R) (hr : EvsX D tr σ B Rs k2) (mRs : Mn Rs) : EvsX D (tCons te tr) σ B (fun H l => ∃ v vs, l = v :: vs ∧ R H v ∧ Rs H vs) (k1 + k2) := fun n H1 e j hk _ q =>
  h n H1 e j (by omega) _ fun v H2 m2 j2 dv => hr (n + k1) H2 (ex_M c e m2) j2 (by omega) _ fun vs H3 m3 j3 dvs =>
    q (v :: vs) H3 (m2.trans m3) (by rw [← Nat.add_assoc]; exact j3) ⟨v, vs, rfl, mR _ _ v (gr_lM j m3) dv, mRs _ _ vs (gr_rM j2 e m2) dvs⟩
theorem esx_is {S : Hp → List V → Prop} {tr : TA} (h : EvsX D tr σ B Rs k) (f : ∀ H l, Rs H l → S H l) : EvsX D tr σ B S k := fun n H1 e j hk Q q => h n H1 e j hk Q fun v H2 m j2 t => q v H2 m j2 (f _ _ t)
theorem q_asgX {i : Nat} (b : BsM D H H1 B Hc s) (h : EvX D te σ B R k) (l : s + k ≤ 100000) (kk : ∀ v Hn, ExM D Hc Hn → D.J (s + k) Hn → R (gr B Hc Hn) v → tz E (σ.set i (some v)) Hn) : tSeq (tAsg te (gName i)) tz E σ Hc := h s Hc b.c b.j l _ kk
theorem s_retX (b : BsM D H H1 B Hc s) (h : EvX D te σ B R k) (l : s + k ≤ 100000) (kk : ∀ v Hn, ExM D Hc Hn → D.J (s + k) Hn → R (gr B Hc Hn) v → E.rt v Hn) : tRet te E σ Hc := h s Hc b.c b.j l _ kk
/-! ### promises: the arguments have a property, so has what is told -/
def spX (D : Md) (n : Nat) {α : Type} (pre : α → Hp → List V → Prop) (post : α → Hp → V → Prop) (kk : Nat) : Sp := fun vs H1 Q _ => ∃ (B : Hp) (a : α) (s : Nat), Ex B H1 ∧ Cl D B ∧ D.J s H1 ∧ s + kk ≤ 100000 ∧ vs.length = n ∧ pre a B vs ∧ ∀ v H2, ExM D H1 H2 → D.J (s + kk) H2 → post a (gr B H1 H2) v → Q v H2
theorem ex_call (c : Cl D B) {n kk : Nat} {α : Type} {pre : α → Hp → List V → Prop} {post : α → Hp → V → Prop} {E : XK} {ta : TA} (a : α) (h : EvsX D ta σ B Rs k) (mp : Mn (post a)) (hf : ∀ H vs, Rs H vs → vs.length = n ∧ pre a H vs) : EvX D (tCall (spX D n pre post kk) [] E ta) σ B (post a) (k + kk) := fun s H1 e j hk Q q =>
  h s H1 e j (by omega) _ fun vs H2 m2 j2 dvs => by
    obtain ⟨h1, h2⟩ := hf _ vs dvs
    rw [List.append_nil]
    exact ⟨gr B H1 H2, a, s + k, gr_subM c e m2, cl_gr c j, j2, by omega, h1, h2, fun v H3 m3 j3 hp => q v H3 (m2.trans m3) (by rw [← Nat.add_assoc]; exact j3) (mp _ _ v (gr_grM j j2 m2 m3) hp)⟩
theorem ret_X {Q : VK} {sN : Nat} {Hn : Hp} {v : V} {n0 : Nat} (mR : Mn R) (q : ∀ v H2, ExM D H1 H2 → D.J n0 H2 → R (gr H H1 H2) v → Q v H2) (b : BsM D H H1 B Hc s) (m : ExM D Hc Hn) (j : D.J sN Hn) (l : sN ≤ n0) (t : R (gr B Hc Hn) v) : Q v Hn :=
  q v Hn (b.a.trans m) (D.up _ _ _ l j) (mR _ _ v (b.step m j).d t)
/-- a def that keeps all, its arguments having a property, tells data -/
def spV (n : Nat) {α : Type} (pre : α → Hp → List V → Prop) (f : α → PyData) : Sp := fun vs H1 Q _ => ∃ (B : Hp) (a : α), Ex B H1 ∧ vs.length = n ∧ pre a B vs ∧ ∀ v H2, Ex H1 H2 → Tp (gr B H1 H2) v (f a) → Q v H2
end
/-- arguments that have a property, all else kept -/
def EvsV (ta : TA) (σ : L2.St) (B : Hp) (R : Hp → List V → Prop) : Prop := ∀ H1, Ex B H1 → ∀ Q : List V → Hp → Prop, (∀ vs H2, Ex H1 H2 → R (gr B H1 H2) vs → Q vs H2) → ta σ H1 Q
section
variable {σ : L2.St} {B : Hp} {te : TE} {ta : TA} {R : Hp → V → Prop} {Rs : Hp → List V → Prop}
theorem esv_nil : EvsV tNil σ B (fun _ l => l = []) := fun H1 _ _ q => q [] H1 (Ex.refl H1) rfl
theorem esv_var {i : Nat} {v : V} {tr : TA} (hv : σ[i]? = some (some v)) (m : Mn R) (h : R B v) (hr : EvsV tr σ B Rs) : EvsV (tCons (tVar i) tr) σ B (fun H l => ∃ v vs, l = v :: vs ∧ R H v ∧ Rs H vs) := fun H1 e _ q => ⟨v, hv, hr H1 e _ fun vs H2 e2 r => q (v :: vs) H2 e2 ⟨v, vs, rfl, m _ _ v (gr_ex e) h, r⟩⟩
theorem ed_callV {n : Nat} {α : Type} {pre : α → Hp → List V → Prop} {f : α → PyData} {E : XK} (a : α) (h : EvsV ta σ B Rs) (hf : ∀ H vs, Rs H vs → vs.length = n ∧ pre a H vs) : EvD (tCall (spV n pre f) [] E ta) σ B (f a) := fun H1 e Q q =>
  h H1 e _ fun vs H2 e2 dvs => by
    obtain ⟨h1, h2⟩ := hf _ vs dvs
    rw [List.append_nil]
    exact ⟨gr B H1 H2, a, gr_sub e e2, h1, h2, fun v H3 e3 g => q v H3 (e2.trans e3) (Tp.ex (gr_gr e2 e3) _ v g)⟩
end
end Dm
set_option maxHeartbeats 1000000
namespace Dl
open PySem PySem.Spec PyProof.Rows L2 Evl RZ
section
variable {K : PySem.W.Frag} {σ : L2.St} {H B Hc : Hp} {te : TE} {x y : PyData} {ds : List PyData} {tz : TS} {D : Ends}
/-- t[lo:hi] of a tuple, not the whole -/
theorem ed_slT {tl th : TO} {lo hi : Option Int} (h : EvD te σ H (.tuple ds)) (h1 : EvO tl σ H lo) (h2 : EvO th σ H hi) (hw : ¬ (HT.sIx ds.length 0 lo = 0 ∧ HT.sIx ds.length ds.length hi = ds.length)) : EvD (tSl (rSlT K) te tl th) σ H (.tuple (cutD ds lo hi)) := fun H1 e Q q =>
  h H1 e _ fun v H2 e2 hv => h1 H2 (e.trans e2) _ fun H3 e3 => h2 H3 ((e.trans e2).trans e3) _ fun H4 e4 => by
    cases hv with
    | tup ha hs =>
      have e34 := e3.trans e4
      have hl := dp_len hs
      refine ⟨_, _, rfl, st_of (e34 _ _ (gr_sub e e2 _ _ ha)), by rw [hl]; exact hw, fun p hp => q _ _ ((e2.trans e34).trans (Ex.new hp)) (.tup (gr_new (fresh_back (e2.trans e34) hp) upd_same) ?_)⟩
      unfold cutV cutD
      rw [hl]
      exact TpAll.ex (gr_l (e34.trans (Ex.new hp))) _ _ (dp_take _ (dp_drop _ hs))
/-- x, y = e, a tuple of two -/
theorem q_two {i j : Nat} (c : Ex B Hc) (h : EvD te σ B (.tuple [x, y])) (k : ∀ v w Hn, Ex Hc Hn → Tp (gr B Hc Hn) v x → Tp (gr B Hc Hn) w y → tz D ((σ.set i (some v)).set j (some w)) Hn) : tSeq (tAsg te (gTup K 2 (gCons (gName i) (gCons (gName j) gNil)))) tz D σ Hc :=
  h Hc c _ fun v Hn e t => g_pair t (gr_sub c e) fun v1 w1 t1 t2 => k v1 w1 Hn e t1 t2
/-- x, y = e, a list of two -/
theorem q_twoL {i j : Nat} (c : Ex B Hc) (h : EvD te σ B (.list [x, y])) (k : ∀ v w Hn, Ex Hc Hn → Tp (gr B Hc Hn) v x → Tp (gr B Hc Hn) w y → tz D ((σ.set i (some v)).set j (some w)) Hn) : tSeq (tAsg te (gUnl K 2 (gCons (gName i) (gCons (gName j) gNil)))) tz D σ Hc :=
  h Hc c _ fun v Hn e t => by
    cases t with
    | lst ha hs =>
      cases hs with
      | cons a b =>
        cases b with
        | cons b c2 =>
          cases c2
          exact ⟨_, _, rfl, sq_of (gr_sub c e _ _ ha), rfl, _, _, rfl, _, _, rfl, rfl, k _ _ Hn e a b⟩
end
end Dl
namespace K50
open PySem PySem.W PySem.Spec PyProof.Rows L2 Evl RZ Dl Dn Dm Mx
abbrev sNumber : Stmt := top 14
abbrev sPlaceOf : Stmt := top 32
abbrev sReadRoad : Stmt := top 31
abbrev sReadRoads : Stmt := top 30
/-! ### is_number, is_place_of -/
def isNum : PyData → Bool
  | .int i => decide (0 ≤ i)
  | _ => false
def isPl (n : Int) : PyData → Bool
  | .int i => decide (0 ≤ i) && decide (i < n)
  | _ => false
def rNumber : List PyData → PyData → Prop := fun ds d => ∃ x, ds = [x] ∧ d = .bool (isNum x)
def rPlaceOf : List PyData → PyData → Prop := fun ds d => ∃ n x, ds = [.int n, x] ∧ d = .bool (isPl n x)
theorem scNumber : FnScope ["thing"] ["thing"] (defScope sNumber) := ⟨rfl, rfl, rfl, by decide +kernel, rfl, by decide +kernel, by decide +kernel⟩
theorem scPlaceOf : FnScope ["many", "thing"] ["many", "thing"] (defScope sPlaceOf) := ⟨rfl, rfl, rfl, by decide +kernel, rfl, by decide +kernel, by decide +kernel⟩
section
variable {P : Program} {w : World} {K : PySem.W.Frag} {mg : Str → Option Value} {base : Heap}
theorem ok_number {f : Addr} {fd : FuncData} (F : Fun K "is_number" "is_number" sNumber f fd) (I : CallF P w K mg base 1 "is_integer" ["thing"] (spP 1 rInteger)) : FnOk P w K mg base CX0 2 f fd ["thing"] (spP 1 rNumber) := by
  refine F.ok scNumber (fun vs H Q E h => spP_len h) (fun cdv A outer s H vs Q E hr h => ?_)
  obtain ⟨fI, dI, oI, gI, kI, bI⟩ := I
  refine ⟨_, pss_one (ps_ret (pe_and (pe_call oI (hr.mono (by decide)) (by rfl) gI kI bI .nil pass0 (pa_cons (pv 0) pa_nil)) (pe_one (pe_cmpR op_ge (pv 0) pe_int (nomark _))))), ?_⟩
  refine one_ret h fun Bb ds d hv hn hf => ?_
  obtain ⟨x, rfl, rfl⟩ := hf
  obtain ⟨v, rfl, hx⟩ := tp1 hv
  refine ed_andV (a := isI x) (ed_call (ds := [x]) (es_cons (ed_var rfl hx) es_nil) rfl ⟨x, rfl, rfl⟩) (fun ha => ?_) fun ha => ?_
  · cases x <;> first | (cases ha; done) | skip
    cases hx
    exact ed_is (ed_op (ed_var (i := 0) rfl (.int _)) ed_int rd_I0b) rfl
  · cases x <;> first | rfl | (cases ha)
theorem ok_placeof {f : Addr} {fd : FuncData} (F : Fun K "is_place_of" "is_place_of" sPlaceOf f fd) (I : CallF P w K mg base 2 "is_number" ["thing"] (spP 1 rNumber)) : FnOk P w K mg base CX0 3 f fd ["many", "thing"] (spP 2 rPlaceOf) := by
  refine F.ok scPlaceOf (fun vs H Q E h => spP_len h) (fun cdv A outer s H vs Q E hr h => ?_)
  obtain ⟨fI, dI, oI, gI, kI, bI⟩ := I
  refine ⟨_, pss_one (ps_ret (pe_and (pe_call oI (hr.mono (by decide)) (by rfl) gI kI bI .nil pass0 (pa_cons (pv 1) pa_nil)) (pe_one (pe_cmpR op_lt (pv 1) (pv 0) (nomark _))))), ?_⟩
  refine one_ret h fun Bb ds d hv hn hf => ?_
  obtain ⟨n, x, rfl, rfl⟩ := hf
  obtain ⟨v, u, rfl, hx, hy⟩ := tp2 hv
  cases hx
  refine ed_andV (a := isNum x) (ed_call (ds := [x]) (es_cons (ed_var (i := 1) rfl hy) es_nil) rfl ⟨x, rfl, rfl⟩) (fun ha => ?_) fun ha => ?_
  · cases x <;> first | (cases ha; done) | skip
    cases hy
    have ha : decide _ = true := ha
    refine ed_is (ed_op (ed_var (i := 1) rfl (.int _)) (ed_var (i := 0) rfl (.int n)) rd_I0b) ?_
    show _ = PyData.bool (decide _ && decide _)
    rw [ha, Bool.true_and]
  · cases x <;> first | rfl | skip
    have ha : decide _ = false := ha
    show PyData.bool (decide _ && decide _) = _
    rw [ha, Bool.false_and]
end
/-! ### words without lists, roads -/
def kW (x : PyData) : PyData := (readZ x).2
/-- a word, no list in it -/
def Wd (x : PyData) : Prop := readW x = some (x, kW x)
abbrev Rd := Int × Int × PyData × PyData
def rdD (r : Rd) : PyData := .tuple [.int r.1, .int r.2.1, r.2.2.1, r.2.2.2]
def rkD (r : Rd) : PyData := .tuple [.int r.1, .int r.2.1, kW r.2.2.1, kW r.2.2.2]
structure okR (n : Nat) (r : Rd) : Prop where
  a0 : 0 ≤ r.1
  a1 : r.1 < n
  b0 : 0 ≤ r.2.1
  b1 : r.2.1 < n
  o : Wd r.2.2.1
  i : Wd r.2.2.2
def rRRoad : List PyData → PyData → Prop := fun ds d => ∃ (r : Rd) (n : Nat), ds = [rdD r, .int (n : Int)] ∧ okR n r ∧ d = .tuple [rkD r, rdD r]
abbrev nRR : List Str := ["thing", "many", "one", "other", "out", "into", "mark"]
theorem scRR : FnScope nRR ["thing", "many"] (defScope sReadRoad) := ⟨rfl, rfl, rfl, by decide +kernel, rfl, by decide +kernel, by decide +kernel⟩
theorem wd_tup {x : PyData} (h : Wd x) : PyData.tuple [x, kW x] = .tuple [(readZ x).1, (readZ x).2] := by
  unfold readZ
  have h2 : readW x = some (x, kW x) := h
  rw [h2]
  rfl
section
variable {P : Program} {w : World} {K : PySem.W.Frag} {mg : Str → Option Value} {base : Heap}
theorem ok_rroad {f : Addr} {fd : FuncData} (F : Fun K "_read_road" "_read_road" sReadRoad f fd) (B : Bl mg) (R : CallF P w K mg base 1 "is_row" ["thing"] (spP 1 rRow)) (W : CallF P w K mg base 2 "read_word" ["thing"] (spP 1 rRead)) (L : CallF P w K mg base 3 "is_place_of" ["many", "thing"] (spP 2 rPlaceOf)) :
    FnOk P w K mg base CX0 4 f fd ["thing", "many"] (spP 2 rRRoad) := by
  refine F.ok scRR (fun vs H Q E h => spP_len h) (fun cdv A outer s H vs Q E hr h => ?_)
  obtain ⟨fR, dR, oR, gR, kR, bR⟩ := R
  obtain ⟨fW, dW, oW, gW, kkW, bW⟩ := W
  obtain ⟨fL, dL, oL, gL, kL, bL⟩ := L
  refine ⟨_, pss_cons (ps_if (PW.pt (pw_or (pt_not (pt_val (pe_call oR (hr.mono (by decide)) (by rfl) gR kR bR .nil pass0 (pa_cons (pv 0) pa_nil)))) (pw_or1 (pt_cmpR op_ne (pe_callB call_len_seq (by rfl) B.len PySem.boot_len (pa_cons (pv 0) pa_nil)) pe_int (nomark _)))))
      (pss_one (ps_ret pe_non)) pss_nil)
    (pss_cons (ps_asg (pe_slice sl_tup (pv 0) po_none (po_some pe_int)) (pg_tup rfl (pgs_cons (pg_name (i := 2) scRR.nd rfl (.inl rfl)) (pgs_cons (pg_name (i := 3) scRR.nd rfl (.inl rfl)) pgs_nil))))
    (pss_cons (ps_asg (pe_lc (own := [("mark", 6)]) (g := gName 6) (tt := tYes) (te := tCall (spP 1 rRead) [] E0 (tCons (tVar 6) tNil)) rfl scRR.nd (pi_tup (pe_slice sl_tup (pv 0) (po_some pe_int) po_none))
          (blkOk_by (own := [("mark", 6)]) (N := nRR) (sc := defScope sReadRoad) (by decide +kernel)) (fun _ _ _ _ _ => pg_name (i := 6) scRR.nd rfl (Or.inl rfl)) (fun _ _ _ _ _ => pts_nil)
          (fun _ _ _ _ _ => pe_call oW (hr.mono (by decide)) (by rfl) gW kkW bW .nil pass0 (pa_cons (pv 6) pa_nil)))
        (pg_unl rfl (pgs_cons (pg_name (i := 4) scRR.nd rfl (.inl rfl)) (pgs_cons (pg_name (i := 5) scRR.nd rfl (.inl rfl)) pgs_nil))))
    (pss_cons (ps_if (PW.pt (pw_or (pt_not (pt_val (pe_call oL hr (by rfl) gL kL bL .nil pass0 (pa_cons (pv 1) (pa_cons (pv 2) pa_nil))))) (pw_or (pt_not (pt_val (pe_call oL hr (by rfl) gL kL bL .nil pass0 (pa_cons (pv 1) (pa_cons (pv 3) pa_nil)))))
        (pw_or (pt_cmpR op_isN (pv 4) pe_non (by rfl)) (pw_or1 (pt_cmpR op_isN (pv 5) pe_non (by rfl)))))))
      (pss_one (ps_ret pe_non)) pss_nil)
    (pss_one (ps_ret (pe_tup (pa_cons (pe_tup (pa_cons (pv 2) (pa_cons (pv 3) (pa_cons (pe_ix ix_tup (pv 4) pe_int (fun _ _ => rfl)) (pa_cons (pe_ix ix_tup (pv 5) pe_int (fun _ _ => rfl)) pa_nil)))))
      (pa_cons (pe_tup (pa_cons (pv 2) (pa_cons (pv 3) (pa_cons (pe_ix ix_tup (pv 4) pe_int (fun _ _ => rfl)) (pa_cons (pe_ix ix_tup (pv 5) pe_int (fun _ _ => rfl)) pa_nil))))) pa_nil)))))))), ?_⟩
  obtain ⟨Bb, ds, d, e, hv, hn, hf, q⟩ := h
  obtain ⟨⟨a, b, o, i⟩, n, rfl, ok, rfl⟩ := hf
  obtain ⟨v, u, rfl, hx, hy⟩ := tp2 hv
  have s0 := Bs.start e
  refine q_whenD s0.c (b := false) (et_is (et_or (et_not (et_BD (ed_call (ds := [rdD (a, b, o, i)]) (es_cons (ed_var (i := 0) rfl hx) es_nil) rfl ⟨_, rfl, rfl⟩))) fun _ => et_D (ed_op (ed_cb (es_cons (ed_var (i := 0) rfl hx) es_nil) (rc_lenT (K := K))) ed_int rd_neI)) rfl) (fun hb => by cases hb) (fun _ H1 e1 => ?_)
  have b1 := s0.keep e1
  have cut1 : cutD [PyData.int a, .int b, o, i] none (some ((2 : Nat) : Int)) = [.int a, .int b] := cut_to (show 2 ≤ 4 by decide)
  have cut2 : cutD [PyData.int a, .int b, o, i] (some ((2 : Nat) : Int)) none = [o, i] := cut_from (show 2 ≤ 4 by decide)
  refine q_two b1.c (x := .int a) (y := .int b) (ed_is (ed_slT (lo := none) (hi := some 2) (ed_var (i := 0) rfl hx) eo_none (eo_someD ed_int) (show ¬ (HT.sIx 4 0 none = 0 ∧ HT.sIx 4 4 (some 2) = 4) by decide)) (congrArg PyData.tuple cut1)) fun v2 v3 H2 e2 t2 t3 => ?_
  cases t2
  cases t3
  have b2 := b1.keep e2
  refine q_twoL b2.c (x := .tuple [o, kW o]) (y := .tuple [i, kW i]) (ed_is (ed_lc (fun _ => true) (fun d => .tuple [d, kW d]) (ei_tup (ed_is (ed_slT (lo := some 2) (hi := none) (ed_var (i := 0) rfl hx) (eo_someD ed_int) eo_none (show ¬ (HT.sIx 4 0 (some 2) = 0 ∧ HT.sIx 4 4 none = 4) by decide)) (congrArg PyData.tuple cut2))) (show 2 ≤ 50000 by decide) fun d x H' hd e' hxx => ⟨_, fun Hx k _ hk => hk, rfl, et_yes, fun _ => ?_⟩) rfl) fun v4 v5 H3 e3 t4 t5 => ?_
  · refine ed_call (ds := [d]) (es_cons (ed_var rfl hxx) es_nil) rfl ⟨d, d, kW d, rfl, ?_, rfl⟩
    rcases List.mem_cons.mp hd with rfl | hd
    · exact ok.o
    · rw [List.mem_singleton.mp hd]; exact ok.i
  · have b3 := b2.step e3
    have hy3 := Tp.ex (gr_ex (H1 := H2) (H2 := H3) b2.c) _ _ hy
    have pl : ∀ (j : Nat) (z : Int), ([some v, some u, some (.int a), some (.int b), some v4, some v5, none] : L2.St)[j]? = some (some (.int z)) → 0 ≤ z → z < (n : Int) → EvT (tNot (tB (tCall (spP 2 rPlaceOf) [] E0 (tCons (tVar 1) (tCons (tVar j) tNil))))) [some v, some u, some (.int a), some (.int b), some v4, some v5, none] (gr Bb H2 H3) false := fun j z hj h0 h1 => by
      have z1 : isPl (n : Int) (.int z) = true := by
        show (decide (0 ≤ z) && decide (z < (n : Int))) = true
        rw [decide_eq_true h0, decide_eq_true h1]
        rfl
      exact et_is (et_not (et_BD (ed_call (ds := [.int (n : Int), .int z]) (es_cons (ed_var (i := 1) rfl hy3) (es_cons (ed_var hj (.int z)) es_nil)) rfl ⟨_, _, rfl, rfl⟩))) (by rw [z1]; rfl)
    refine q_whenD b3.c (σ := [some v, some u, some (.int a), some (.int b), some v4, some v5, none]) (b := false || (false || (false || false))) (et_or (pl 2 a rfl ok.a0 ok.a1) fun _ => et_or (pl 3 b rfl ok.b0 ok.b1) fun _ => et_or (et_is (et_D (ed_op (ed_var (i := 4) rfl t4) ed_non (rd_isN _))) rfl) fun _ => et_is (et_D (ed_op (ed_var (i := 5) rfl t5) ed_non (rd_isN _))) rfl) (fun hb => by cases hb) (fun _ H4 e4 => ?_)
    have b4 := b3.keep e4
    have ix : ∀ (j : Nat) (u : V) (x y : PyData) (z : Int) (d : PyData), ([some v, some u, some (.int a), some (.int b), some v4, some v5, none] : L2.St)[j]? = some (some u) → True := fun _ _ _ _ _ _ _ => trivial
    have i4 : ∀ (z : Int) (d : PyData), atI [o, kW o] z = some d → EvD (tOp (rIxT K) (tVar 4) (tC (.int z))) [some v, some u, some (.int a), some (.int b), some v4, some v5, none] (gr Bb H2 H3) d := fun z d h => ed_op (ed_var (i := 4) rfl t4) ed_int (rd_ixT h)
    have i5 : ∀ (z : Int) (d : PyData), atI [i, kW i] z = some d → EvD (tOp (rIxT K) (tVar 5) (tC (.int z))) [some v, some u, some (.int a), some (.int b), some v4, some v5, none] (gr Bb H2 H3) d := fun z d h => ed_op (ed_var (i := 5) rfl t5) ed_int (rd_ixT h)
    refine s_retD b4.c (d := .tuple [rkD (a, b, o, i), rdD (a, b, o, i)]) (ed_tup (es_cons (ed_tup (es_cons (ed_var (i := 2) rfl (.int a)) (es_cons (ed_var (i := 3) rfl (.int b)) (es_cons (i4 1 (kW o) rfl) (es_cons (i5 1 (kW i) rfl) es_nil)))) (show 4 ≤ 100000 by decide)) (es_cons (ed_tup (es_cons (ed_var (i := 2) rfl (.int a)) (es_cons (ed_var (i := 3) rfl (.int b)) (es_cons (i4 0 o rfl) (es_cons (i5 0 i rfl) es_nil)))) (show 4 ≤ 100000 by decide)) es_nil)) (show 2 ≤ 100000 by decide)) fun v6 H5 e5 t6 => ?_
    exact q v6 H5 (b4.a.trans e5) (Tp.ex (b4.step e5).d _ _ t6)
end
end K50
set_option maxHeartbeats 1000000
namespace K50
open PySem PySem.W PySem.Spec PyProof.Rows L2 LamX NdefX Evl RZ Dl Dn Dm Lz K0 Mx
/-! ### words' keys are compared as far as they are alike -/
theorem wd_cases {x : PyData} (h : Wd x) : (∃ s, x = .str s ∧ kW x = .tuple [.int 2, .str s]) ∨ (∃ i, x = .int i ∧ kW x = .tuple [.int 1, .int i]) ∨ (x = .tuple [] ∧ kW x = .tuple [.int 3, .int 0]) ∨ ∃ s, x = .tuple [.str s] ∧ kW x = .tuple [.int 3, .int 2, .str s, .int 0] := by
  have h2 : readW x = some (x, kW x) := h
  unfold readW at h2
  split at h2
  · obtain ⟨_, e⟩ := Prod.mk.inj (Option.some.inj h2)
    exact .inl ⟨_, rfl, e.symm⟩
  · obtain ⟨_, e⟩ := Prod.mk.inj (Option.some.inj h2)
    exact .inr (.inl ⟨_, rfl, e.symm⟩)
  · obtain ⟨_, e⟩ := Prod.mk.inj (Option.some.inj h2)
    exact .inr (.inr (.inl ⟨rfl, e.symm⟩))
  · obtain ⟨_, e⟩ := Prod.mk.inj (Option.some.inj h2)
    exact .inr (.inr (.inr ⟨_, rfl, e.symm⟩))
  · obtain ⟨e, _⟩ := Prod.mk.inj (Option.some.inj h2)
    cases e
  · cases h2
theorem kW_inj {x y : PyData} (hx : Wd x) (hy : Wd y) (e : kW x = kW y) : x = y := by
  rcases wd_cases hx with ⟨s, rfl, e1⟩ | ⟨i, rfl, e1⟩ | ⟨rfl, e1⟩ | ⟨s, rfl, e1⟩ <;> rcases wd_cases hy with ⟨t, rfl, e2⟩ | ⟨j, rfl, e2⟩ | ⟨rfl, e2⟩ | ⟨t, rfl, e2⟩ <;> (try rw [e1] at e) <;> (try rw [e2] at e) <;> (try simp at e) <;> first | rfl | (subst e; rfl)
theorem kW_pln {x : PyData} (hx : Wd x) : pln (kW x) = true ∧ nd (kW x) = true ∧ (kW x).depth ≤ 1 := by
  rcases wd_cases hx with ⟨s, rfl, e1⟩ | ⟨i, rfl, e1⟩ | ⟨rfl, e1⟩ | ⟨s, rfl, e1⟩ <;> rw [e1] <;> exact ⟨rfl, rfl, Nat.le_refl 1⟩
theorem kW_cmp {x y : PyData} (hx : Wd x) (hy : Wd y) : cmpb (kW x) (kW y) = true := by
  rcases wd_cases hx with ⟨s, rfl, e1⟩ | ⟨i, rfl, e1⟩ | ⟨rfl, e1⟩ | ⟨s, rfl, e1⟩ <;> rcases wd_cases hy with ⟨t, rfl, e2⟩ | ⟨j, rfl, e2⟩ | ⟨rfl, e2⟩ | ⟨t, rfl, e2⟩ <;> (try rw [e1]) <;> (try rw [e2]) <;> simp [cmpb, cmpbAll, PyData.eqv]
/-! ### roads, ascending -/
def rowD (r : Rd) : PyData := .tuple [rkD r, rdD r]
def leR (r t : Rd) : Bool := dataLe false rkD r t
def sortR (rs : List Rd) : List Rd := rs.mergeSort leR
theorem sortR_perm (rs : List Rd) : (sortR rs).Perm rs := List.mergeSort_perm _ _
theorem rdD_inj {r t : Rd} (e : rdD r = rdD t) : r = t := by
  obtain ⟨a, b, o, i⟩ := r
  obtain ⟨a', b', o', i'⟩ := t
  simp [rdD] at e
  obtain ⟨e1, e2, e3, e4⟩ := e
  subst e1 e2 e3 e4
  rfl
theorem rdsD_inj : ∀ {rs ts : List Rd}, rs.map rdD = ts.map rdD → rs = ts
  | [], [], _ => rfl
  | [], t :: ts, e => by simp at e
  | r :: rs, [], e => by simp at e
  | r :: rs, t :: ts, e => by
    rw [List.map_cons, List.map_cons] at e
    injection e with e1 e2
    rw [rdD_inj e1, rdsD_inj e2]
theorem mixed_rk {n : Nat} {rs : List Rd} (h : ∀ r ∈ rs, okR n r) : Mixed (rs.map rkD) := by
  have pl : ∀ r ∈ rs, pln (rkD r) = true := fun r hr => by
    show (true && (true && (pln (kW r.2.2.1) && (pln (kW r.2.2.2) && true)))) = true
    rw [(kW_pln (h r hr).o).1, (kW_pln (h r hr).i).1]
    rfl
  refine ⟨fun d hd => ?_, fun d hd e he => ?_, fun d hd => ?_⟩
  · obtain ⟨r, hr, rfl⟩ := List.mem_map.mp hd
    exact pl r hr
  · obtain ⟨r, hr, rfl⟩ := List.mem_map.mp hd
    obtain ⟨t, ht, rfl⟩ := List.mem_map.mp he
    have c1 := kW_cmp (h r hr).o (h t ht).o
    have c2 := kW_cmp (h r hr).i (h t ht).i
    simp only [rkD, cmpb, cmpbAll]
    split
    · split
      · split
        · split
          · rfl
          · exact c2
        · exact c1
      · rfl
    · rfl
  · obtain ⟨r, _, rfl⟩ := List.mem_map.mp hd
    exact ⟨_, _, rfl⟩
def fstD : PyData → PyData
  | .tuple [k, _] => k
  | d => d
theorem sort_rows (rs : List Rd) : (rs.map rowD).mergeSort (dataLe false fstD) = (sortR rs).map rowD := (sort_maps rowD (r := leR) (s := dataLe false fstD) (l := rs) fun a _ b _ => rfl).symm
/-! ### read_roads -/
def rrQ (ds : List PyData) (rs : List Rd) : Prop := ∃ (x : PyData) (n : Nat), ds = [x, .int (n : Int)] ∧ Row x (rs.map rdD) ∧ (∀ r ∈ rs, okR n r) ∧ rs.length ≤ 1000
def rrPre : List PyData → Prop := fun ds => ∃ rs, rrQ ds rs
def rrPost : List PyData → PyData → Prop := fun ds d => ∃ rs, rrQ ds rs ∧ d = .list ((sortR rs).map rowD)
theorem rrQ_inj {ds : List PyData} {rs ts : List Rd} (h : rrQ ds rs) (h2 : rrQ ds ts) : rs = ts := by
  obtain ⟨x, n, rfl, hx, _⟩ := h
  obtain ⟨y, m, e, hy, _⟩ := h2
  injection e with e _
  subst e
  exact rdsD_inj (row_inj hx hy)
def rFst : List PyData → PyData → Prop := fun ds d => ∃ a b, ds = [.tuple [a, b]] ∧ d = a
abbrev nRds : List Str := ["roads", "many", "rows", "at", "pair", "road"]
theorem scRds : FnScope nRds ["roads", "many"] (defScope sReadRoads) := ⟨rfl, rfl, rfl, by decide +kernel, rfl, by decide +kernel, by decide +kernel⟩
section
variable {P : Program} {w : World} {K : PySem.W.Frag} {mg : Str → Option Value} {base : Heap}
theorem lok_fst {qual : Str} {a : Arguments} {p1 p2 p3 : Pos} {k : Nat} {sc : Scope} (S : NScope ["pair"] ["pair"] [] sc) (hv : Vis sc "pair")
    (hb : ∀ (pm cv ctv : Value) (us : List Value), us.length = 1 → bindArgs (PySem.W.kla_fn "<lambda>" qual a (.Subscript (.Name "pair" p1) (.Constant (.int 0) k p2) p3) sc [] pm cv ctv) ⟨us, []⟩ = pure ((["pair"] : List Str).zip us)) :
    LOk P w K mg base 1 ⟨qual, a, .Subscript (.Name "pair" p1) (.Constant (.int 0) k p2) p3, sc⟩ 1 (spP 1 rFst) := by
  refine lok_of (k := 0) (ps := ["pair"]) S hb (fun vs H Q E h => spP_len h) (fun A outer s H vs Q f c hr h => ?_)
  refine ⟨_, pe_ix ix_tup (pe_var (i := 0) rfl hv) pe_int (fun _ _ => rfl), ?_⟩
  obtain ⟨B, ds, d, e, hv, hn, ⟨a, b, rfl, rfl⟩, q⟩ := h
  obtain ⟨v, rfl, hx⟩ := tp1 hv
  exact (ed_op (ed_var (i := 0) rfl hx) ed_int (rd_ixT rfl)) H e Q fun v2 H2 e2 t => q v2 H2 e2 t
theorem ok_rroads {f c Pn : Addr} {fd : FuncData} {T : List (Addr × Str)} (F : FunC K "read_roads" "read_roads" sReadRoads f c fd) (B : Bl mg) (TN : TabN base mg c Pn T "read_roads") (R : CallF P w K mg base 1 "is_row" ["thing"] (spP 1 rRow)) (O : CallF P w K mg base 4 "_read_road" ["thing", "many"] (spP 2 rRRoad)) :
    FnOk P w K mg base CX0 5 f fd ["roads", "many"] (spT T 2 rrPre rrPost) := by
  refine F.ok scRds (fun vs H Q E h => spT_len h) (fun A outer s H vs Q E hr h => ?_)
  obtain ⟨fR, dR, oR, gR, kR, bR⟩ := R
  obtain ⟨fO, dO, oO, gO, kO, bO⟩ := O
  refine ⟨_, pss_cons (ps_if (pt_not (pt_val (pe_call oR (hr.mono (by decide)) (by rfl) gR kR bR .nil pass0 (pa_cons (pv 0) pa_nil)))) pss_never pss_nil)
    (pss_cons (ps_setLc (i := 2) (own := [("road", 5)]) (g := gName 5) (tt := tYes) (te := tCall (spP 2 rRRoad) [] E0 (tCons (tVar 5) (tCons (tVar 1) tNil))) rfl scRds.nd rfl rfl rfl (pi_or (pi_list (pv 0)) (pi_tup (pv 0)))
        (blkOk_by (own := [("road", 5)]) (N := nRds) (sc := defScope sReadRoads) (by decide +kernel)) (fun _ _ _ _ _ => pg_name (i := 5) scRds.nd rfl (Or.inl rfl)) (fun _ _ _ _ _ => pts_nil)
        (fun _ _ _ _ _ => pe_call oO hr (by rfl) gO kO bO .nil pass0 (pa_cons (pv 5) (pa_cons (pv 1) pa_nil))))
    (pss_cons (ps_for PassesOwn.never rfl (pi_enum (by rfl) B.enumerate (pa_cons (pv 2) pa_nil)) (pg_tup rfl (pgs_cons (pg_name (i := 3) scRds.nd rfl (.inl rfl)) (pgs_cons (pg_name (i := 4) scRds.nd rfl (.inl rfl)) pgs_nil)))
      (pss_one (ps_if (pt_cmpR op_isN (pv 4) pe_non (by rfl)) pss_never pss_nil)))
    (pss_one (ps_ret (pe_callBK (crk_sortLam (k := 1) (hr.mono (by decide))) (by rfl) B.sorted PyProof.Rows.boot_sorted (pa_cons (pv 2) pa_nil) (pk_cons (pe_lamP TN.tb rfl TN.mem TN.un rfl (by decide) rfl) pk_nil)))))), ?_⟩
  obtain ⟨p, l, Bb, ds, s0, e, cl, j, hk, hv, hn, ⟨rs, hq⟩, q⟩ := h
  obtain ⟨x, n, rfl, hrow, hok, hlen⟩ := id hq
  obtain ⟨v, u, rfl, hx, hy⟩ := tp2 hv
  have hk2 : s0 ≤ 100000 := hk
  have b0 := BsM.start e cl j
  refine q_whenD e (b := !isR x) (et_not (et_BD (ed_call (ds := [x]) (es_cons (ed_var rfl hx) es_nil) rfl ⟨x, rfl, rfl⟩))) (fun hb H1 e1 => ?_) (fun hb H1 e1 => ?_)
  · rw [row_isR hrow] at hb
    cases hb
  · have b1 := b0.keepB (ExM.of e1) ((mdS p l T).keep _ _ _ e1 j)
    refine q_asgD b1.c (d := .list (rs.map rowD)) (ed_is (ed_lc (fun _ => true) (fun d => match d with
        | .tuple [.int a, .int b, o, i] => rowD (a, b, o, i)
        | d => d) (ei_row hrow (ed_var rfl hx)) (by rw [List.length_map]; omega) fun d x' H' hd e' hxx => ⟨_, fun Hx k _ hk => hk, rfl, et_yes, fun _ => ?_⟩) ?_) fun vr H2 e2 tr => ?_
    · obtain ⟨r, hr1, rfl⟩ := List.mem_map.mp hd
      exact ed_call (ds := [rdD r, .int (n : Int)]) (es_cons (ed_var rfl hxx) (es_cons (ed_var (i := 1) rfl (Tp.ex e' _ _ hy)) es_nil)) rfl ⟨r, n, rfl, hok r hr1, rfl⟩
    · rw [Dl.filter_tt, List.map_map]
      rfl
    · have b2 := b1.step (ExM.of e2) ((mdS p l T).keep _ _ _ e2 b1.j)
      refine s_forD b2.c (ei_enum (es_cons (ed_var (i := 2) rfl tr) es_nil))
        (fun B0 j σ' H' => ∃ B' x3 x4, BsM (mdS p l T) Bb H B' H' s0 ∧ Ex B0 B' ∧ Tp B' vr (.list (rs.map rowD)) ∧ σ' = [some v, some u, some vr, x3, x4, none])
        (fun Hn en => ⟨_, none, none, b2.step (ExM.of en) ((mdS p l T).keep _ _ _ en b2.j), Ex.refl _, Tp.ex (gr_up b2.c) _ _ tr, rfl⟩) (fun B0 j σ' H' ⟨B', _, _, c1, c2, _⟩ => c2.trans c1.c) ?_ ?_
      · rintro B0 j d5 x5 σ5 H5 H6 hd5 ⟨B', y2, y3, c1, c2, tr2, rfl⟩ e6 hx6
        have c3 := c1.step (ExM.of e6) ((mdS p l T).keep _ _ _ e6 c1.j)
        have hj : j < rs.length := by
          have h1 := (List.getElem?_eq_some_iff.mp hd5).1
          rw [enum_len, List.length_map] at h1
          exact h1
        have hd6 : d5 = .tuple [.int (j : Int), rowD rs[j]] := by
          have h1 := enum_get 0 j (rs.map rowD) (rowD rs[j]) (by rw [List.getElem?_map, List.getElem?_eq_getElem hj]; rfl)
          rw [hd5] at h1
          rw [Nat.zero_add] at h1
          exact Option.some.inj h1
        subst hd6
        have hx7 := Tp.ex (gr_mono (Hc := H5) (Hn := H6) c2) _ _ hx6
        refine g_pair hx7 c3.c fun va vb ta tb => ?_
        refine s_ifD c3.c (b := false) (et_D (ed_op (ed_var (i := 4) rfl tb) ed_non (rd_isN _))) (fun hb => by cases hb) (fun _ H7 e7 => ?_)
        exact ⟨_, _, _, c3.step (ExM.of e7) ((mdS p l T).keep _ _ _ e7 c3.j), (c2.trans (gr_up c1.c)).trans (gr_up c3.c), Tp.ex ((gr_up c1.c).trans (gr_up c3.c)) _ _ tr2, rfl⟩
      · rintro B0 σ' H' ⟨B', x2, x3, c1, c2, tr2, rfl⟩
        have ht := c1.j.2
        cases tr2 with
        | @lst aL xs _ hL hLs =>
          refine ⟨_, rfl, ?_⟩
          refine ⟨ht, fun f c' H4 eP T4 hf e1 e2 => ?_⟩
          have hPM : Pn ∈ (mdS p l T).M := List.mem_cons_of_mem _ (List.mem_cons_of_mem _ (List.mem_map.mpr ⟨_, TN.mem, rfl⟩))
          have m4 : ExM (mdS p l T) H' H4 := fun b o nb hb => eP b o hb fun z => nb (z ▸ hPM)
          obtain ⟨ptab, hP3, _⟩ := ht _ TN.mem
          obtain ⟨⟨N, hN, hst⟩, _⟩ := c1.j
          have j4 : (mdS p l T).J s0 H4 := ⟨⟨N, hN, hst.keepP eP hP3⟩, T4⟩
          have E4 : Ex B' H4 := ex_M c1.cl c1.c m4
          refine ⟨aL, f, c', _, xs, B', rs.map rowD, rFst, fstD, rfl, rfl, E4, hL, hLs, e1, e2, lok_fst (nscope_by (by decide +kernel)) (Or.inl rfl) (fun pm cv ctv us hl => match us, hl with | [_], _ => rfl), fun d hd => ?_, fun d hd => ?_, ?_, fun d hd => ?_, by rw [List.length_map]; omega, fun pp H5 ys hp e5 hy5 t5 => ?_⟩
          · obtain ⟨r, _, rfl⟩ := List.mem_map.mp hd
            exact ⟨_, _, rfl, rfl⟩
          · obtain ⟨r, hr1, rfl⟩ := List.mem_map.mp hd
            show (true && (true && (nd (kW r.2.2.1) && (nd (kW r.2.2.2) && true)))) = true
            rw [(kW_pln (hok r hr1).o).2.1, (kW_pln (hok r hr1).i).2.1]
            rfl
          · rw [List.map_map]
            exact mixed_rk hok
          · obtain ⟨r, hr1, rfl⟩ := List.mem_map.mp hd
            have h1 := (kW_pln (hok r hr1).o).2.2
            have h2 := (kW_pln (hok r hr1).i).2.2
            show max 0 (max 0 (max (kW r.2.2.1).depth (max (kW r.2.2.2).depth 0))) + 1 ≤ 30
            omega
          · rw [sort_rows] at t5
            have m5 : ExM (mdS p l T) H' H5 := m4.trans (ExM.of e5)
            have j5 := (mdS p l T).keep _ _ _ e5 j4
            refine q (.ref pp) H5 _ ⟨rs, hq, rfl⟩ (c1.a.trans m5) j5 ?_
            have b6 := c1.step m5 j5
            exact Tp.ex b6.d _ _ (.lst (gr_new (back_M j4 m4 hp) hy5) (TpAll.ex (gr_ex c1.c) _ _ t5))
end
end K50
set_option maxHeartbeats 1000000
namespace K50
open PySem PySem.W PySem.Spec PyProof.Rows L2 LamX NdefX Evl RZ Dl Dn Dm Lz K0 Mx Ns ClX
def clsB : Stmt → List Stmt
  | .ClassDef (body := b) .. => b
  | _ => []
abbrev sGInit : Stmt := (clsB (top 26)).getD 0 (.Pass ⟨0, 0, 0, 0⟩)
abbrev sRoadKeys : Stmt := (clsB (top 26)).getD 2 (.Pass ⟨0, 0, 0, 0⟩)
abbrev sNInit : Stmt := (clsB (top 27)).getD 0 (.Pass ⟨0, 0, 0, 0⟩)
abbrev sNLen : Stmt := (clsB (top 27)).getD 1 (.Pass ⟨0, 0, 0, 0⟩)
abbrev sNSigns : Stmt := (clsB (top 27)).getD 3 (.Pass ⟨0, 0, 0, 0⟩)
abbrev sNRoads : Stmt := (clsB (top 27)).getD 4 (.Pass ⟨0, 0, 0, 0⟩)
/-! ### an object whose fields are set -/
def mdX (x : Addr) : Md where
  M := [x]
  J := fun _ H => H x ≠ none
  dom := fun n H h b hb => by rw [List.mem_singleton.mp hb]; exact h
  keep := fun n H H' e h => by
    cases q : H x with
    | none => exact absurd q h
    | some o => rw [e x o q]; exact Option.some_ne_none _
  up := fun _ _ _ _ h => h
  set := fun n H p o hp _ h => by
    have ne : x ≠ p := fun z => hp (z ▸ List.mem_singleton.mpr rfl)
    rw [upd_ne ne]
    exact h
theorem cl_X {x : Addr} {B : Hp} (h : B x = none) : Cl (mdX x) B := fun b hb => by rw [List.mem_singleton.mp hb]; exact h
theorem exM_X {x : Addr} {H H' : Hp} (h : ∀ b o, b ≠ x → H b = some o → H' b = some o) : ExM (mdX x) H H' := fun b o nb hb => h b o (fun z => nb (z ▸ List.mem_singleton.mpr rfl)) hb
theorem of_exM_X {x : Addr} {H H' : Hp} (h : ExM (mdX x) H H') : ∀ b o, b ≠ x → H b = some o → H' b = some o := fun b o nb hb => h b o (fun z => nb (List.mem_singleton.mp z)) hb
section
variable {K : PySem.W.Frag} {σ : L2.St} {B H H1 Hc : Hp} {te : TE} {d : PyData} {tz : TS} {E : Ends} {i s : Nat} {x C dx : Addr} {fs : List (Str × V)} {f : Str}
theorem s_fldX (b : BsM (mdX x) H H1 B Hc s) (hx : Hc x = some (.ins C dx fs)) (cl : L2.Cls K C) (n : NoAttr K C f) (hl : fs.length < 1000) (h0 : σ[i]? = some (some (.ref x))) (h : EvD te σ B d)
    (k : ∀ v Hn, Hn x = some (.ins C dx (putF f v fs)) → BsM (mdX x) H H1 (gr B Hc Hn) Hn s → Ex B (gr B Hc Hn) → Tp (gr B Hc Hn) v d → E.nx σ Hn) : sFld K (tVar i) te f E σ Hc := by
  refine h Hc b.c _ fun v Hn e t => ⟨.ref x, h0, x, C, dx, fs, rfl, e _ _ hx, cl, n, hl, ?_⟩
  have m2 : ExM (mdX x) Hn (upd Hn x (.ins C dx (putF f v fs))) := exM_X fun b o nb hb => by rw [upd_ne nb]; exact hb
  have m : ExM (mdX x) Hc (upd Hn x (.ins C dx (putF f v fs))) := (ExM.of e).trans m2
  have j : (mdX x).J s (upd Hn x (.ins C dx (putF f v fs))) := by
    show upd Hn x _ x ≠ none
    rw [upd_same]
    exact Option.some_ne_none _
  exact k v _ upd_same (b.step m j) (gr_ex b.c) (Tp.ex (gr_lM b.j m2) _ _ t)
theorem q_fldX (b : BsM (mdX x) H H1 B Hc s) (hx : Hc x = some (.ins C dx fs)) (cl : L2.Cls K C) (n : NoAttr K C f) (hl : fs.length < 1000) (h0 : σ[i]? = some (some (.ref x))) (h : EvD te σ B d)
    (k : ∀ v Hn, Hn x = some (.ins C dx (putF f v fs)) → BsM (mdX x) H H1 (gr B Hc Hn) Hn s → Ex B (gr B Hc Hn) → Tp (gr B Hc Hn) v d → tz E σ Hn) : tSeq (sFld K (tVar i) te f) tz E σ Hc := s_fldX (E := { E with nx := tz E }) b hx cl n hl h0 h k
end
/-! ### nets -/
structure NetV where
  ss : List PyData
  rs : List Rd
def netF (p1 p2 p3 p4 : V) : List (Str × V) := [("_signs", p1), ("_sign_keys", p2), ("_roads", p3), ("_road_keys", p4)]
/-- the net at v -/
def NetAt (C : Addr) (N : NetV) (H : Hp) (v : V) : Prop := ∃ a dx p1 p2 p3 p4, v = .ref a ∧ H a = some (.ins C dx (netF p1 p2 p3 p4)) ∧ Tp H p1 (.tuple N.ss) ∧ Tp H p2 (.tuple (N.ss.map kW)) ∧ Tp H p3 (.tuple (N.rs.map rdD)) ∧ Tp H p4 (.tuple (N.rs.map rkD))
theorem mn_net {C : Addr} {N : NetV} : Mn (NetAt C N) := fun H H' v e ⟨a, dx, p1, p2, p3, p4, h1, h2, h3, h4, h5, h6⟩ => ⟨a, dx, p1, p2, p3, p4, h1, e _ _ h2, Tp.ex e _ _ h3, Tp.ex e _ _ h4, Tp.ex e _ _ h5, Tp.ex e _ _ h6⟩
/-- what a net's class has -/
structure NetK (K : PySem.W.Frag) (C : Addr) : Prop where
  cl : L2.Cls K C
  n1 : NoAttr K C "_signs"
  n2 : NoAttr K C "_sign_keys"
  n3 : NoAttr K C "_roads"
  n4 : NoAttr K C "_road_keys"
def pr2 (p : PyData × PyData) : PyData := .tuple [p.1, p.2]
def spGI (C : Addr) : Sp := fun vs H1 Q _ => ∃ (B : Hp) (x dx : Addr) (v1 v2 : V) (ss rs : List (PyData × PyData)), vs = [.ref x, v1, v2] ∧ Ex B H1 ∧ B x = none ∧ H1 x = some (.ins C dx []) ∧ Tp B v1 (.list (ss.map pr2)) ∧ Tp B v2 (.list (rs.map pr2)) ∧ ss.length ≤ 1000 ∧ rs.length ≤ 1000 ∧
  ∀ H2 p1 p2 p3 p4, (∀ b o, b ≠ x → H1 b = some o → H2 b = some o) → H2 x = some (.ins C dx (netF p1 p2 p3 p4)) → Tp (gr B H1 H2) p1 (.tuple (ss.map Prod.fst)) → Tp (gr B H1 H2) p2 (.tuple (ss.map Prod.snd)) → Tp (gr B H1 H2) p3 (.tuple (rs.map Prod.snd)) → Tp (gr B H1 H2) p4 (.tuple (rs.map Prod.fst)) → Q .non H2
abbrev nGI : List Str := ["self", "sign_pairs", "road_pairs", "word", "_", "key", "road"]
theorem scGI : FnScope nGI ["self", "sign_pairs", "road_pairs"] (defScope sGInit) := ⟨rfl, rfl, rfl, by decide +kernel, rfl, by decide +kernel, by decide +kernel⟩
def fst2 : PyData → PyData
  | .tuple [a, _] => a
  | d => d
def snd2 : PyData → PyData
  | .tuple [_, b] => b
  | d => d
section
variable {P : Program} {w : World} {K : PySem.W.Frag} {mg : Str → Option Value} {base : Heap}
/-- a comprehension over pairs that tells one of the two -/
theorem ed_pairs {σ : L2.St} {B : Hp} {i j t u : Nat} {v : V} {ps : List (PyData × PyData)} {sel : PyData → PyData} {vs : List Nat} (hv : σ[i]? = some (some v)) (h : Tp B v (.list (ps.map pr2))) (hl : ps.length ≤ 1000)
    (hw : ∀ (a b : V), wipe (((wipe σ vs).set j (some a)).set t (some b)) vs = wipe σ vs) (hu : ∀ (a b : V) (x y : PyData) (H' : Hp), Tp H' a x → Tp H' b y → ∃ c, (((wipe σ vs).set j (some a)).set t (some b))[u]? = some (some c) ∧ Tp H' c (sel (.tuple [x, y]))) :
    EvD (tCB (rTupOf K) (tCons (tLc (iList K (tVar i)) (gTup K 2 (gCons (gName j) (gCons (gName t) gNil))) tYes (tVar u) vs) tNil)) σ B (.tuple (ps.map fun p => sel (pr2 p))) := by
  refine ed_is (ed_cb (ds := [.list ((ps.map pr2).map sel)]) (es_cons (ed_is (ed_lc (fun _ => true) sel (ei_list (ed_var hv h)) (by rw [List.length_map]; omega) fun d x' H' hd e hxx => ?_) (by rw [Dl.filter_tt])) es_nil) (rc_tupL (K := K))) (by rw [List.map_map]; rfl)
  obtain ⟨y, hy, rfl⟩ := List.mem_map.mp hd
  cases hxx with
  | tup hA hS =>
    obtain ⟨va, vb, rfl, ta, tb⟩ := tp2 hS
    obtain ⟨c, h1, h2⟩ := hu va vb y.1 y.2 _ ta tb
    exact ⟨((wipe σ vs).set j (some va)).set t (some vb), fun Hx k ex hk => ⟨_, _, rfl, st_of (ex _ _ hA), rfl, _, _, rfl, _, _, rfl, rfl, hk⟩, hw va vb, et_yes, fun _ => ed_var h1 h2⟩
theorem ok_ginit {C f : Addr} {fd : FuncData} (F : Fun K "__init__" "Ground.__init__" sGInit f fd) (B : Bl mg) (hC : NetK K C) : FnOk P w K mg base CX0 1 f fd ["self", "sign_pairs", "road_pairs"] (spGI C) := by
  refine F.ok scGI (fun vs H Q E h => ?_) (fun cdv A outer s H vs Q E hr h => ?_)
  · obtain ⟨_, _, _, _, _, _, _, rfl, _⟩ := h
    rfl
  refine ⟨_, pss_cons (ps_fld (pv 0) (pe_callTy call_tuple_of (by rfl) B.tuple (by decide +kernel) (pa_cons (pe_lc (own := [("word", 3), ("_", 4)]) (g := gTup K 2 (gCons (gName 3) (gCons (gName 4) gNil))) (tt := tYes) (te := tVar 3) rfl scGI.nd (pi_list (pv 1))
        (blkOk_by (own := [("word", 3), ("_", 4)]) (N := nGI) (sc := defScope sGInit) (by decide +kernel)) (fun _ _ _ _ _ => pg_tup rfl (pgs_cons (pg_name (i := 3) scGI.nd rfl (Or.inl rfl)) (pgs_cons (pg_name (i := 4) scGI.nd rfl (Or.inl rfl)) pgs_nil))) (fun _ _ _ _ _ => pts_nil) (fun _ _ _ _ _ => pv 3)) pa_nil)) rfl)
    (pss_cons (ps_fld (pv 0) (pe_callTy call_tuple_of (by rfl) B.tuple (by decide +kernel) (pa_cons (pe_lc (own := [("_", 4), ("key", 5)]) (g := gTup K 2 (gCons (gName 4) (gCons (gName 5) gNil))) (tt := tYes) (te := tVar 5) rfl scGI.nd (pi_list (pv 1))
        (blkOk_by (own := [("_", 4), ("key", 5)]) (N := nGI) (sc := defScope sGInit) (by decide +kernel)) (fun _ _ _ _ _ => pg_tup rfl (pgs_cons (pg_name (i := 4) scGI.nd rfl (Or.inl rfl)) (pgs_cons (pg_name (i := 5) scGI.nd rfl (Or.inl rfl)) pgs_nil))) (fun _ _ _ _ _ => pts_nil) (fun _ _ _ _ _ => pv 5)) pa_nil)) rfl)
    (pss_cons (ps_fld (pv 0) (pe_callTy call_tuple_of (by rfl) B.tuple (by decide +kernel) (pa_cons (pe_lc (own := [("_", 4), ("road", 6)]) (g := gTup K 2 (gCons (gName 4) (gCons (gName 6) gNil))) (tt := tYes) (te := tVar 6) rfl scGI.nd (pi_list (pv 2))
        (blkOk_by (own := [("_", 4), ("road", 6)]) (N := nGI) (sc := defScope sGInit) (by decide +kernel)) (fun _ _ _ _ _ => pg_tup rfl (pgs_cons (pg_name (i := 4) scGI.nd rfl (Or.inl rfl)) (pgs_cons (pg_name (i := 6) scGI.nd rfl (Or.inl rfl)) pgs_nil))) (fun _ _ _ _ _ => pts_nil) (fun _ _ _ _ _ => pv 6)) pa_nil)) rfl)
    (pss_one (ps_fld (pv 0) (pe_callTy call_tuple_of (by rfl) B.tuple (by decide +kernel) (pa_cons (pe_lc (own := [("key", 5), ("_", 4)]) (g := gTup K 2 (gCons (gName 5) (gCons (gName 4) gNil))) (tt := tYes) (te := tVar 5) rfl scGI.nd (pi_list (pv 2))
        (blkOk_by (own := [("key", 5), ("_", 4)]) (N := nGI) (sc := defScope sGInit) (by decide +kernel)) (fun _ _ _ _ _ => pg_tup rfl (pgs_cons (pg_name (i := 5) scGI.nd rfl (Or.inl rfl)) (pgs_cons (pg_name (i := 4) scGI.nd rfl (Or.inl rfl)) pgs_nil))) (fun _ _ _ _ _ => pts_nil) (fun _ _ _ _ _ => pv 5)) pa_nil)) rfl)))), ?_⟩
  obtain ⟨Bb, x, dx, v1, v2, ss, rs, rfl, e, hxB, hx, t1, t2, l1, l2, q⟩ := h
  have b0 : BsM (mdX x) Bb H Bb H 0 := BsM.start e (cl_X hxB) (by show H x ≠ none; rw [hx]; exact Option.some_ne_none _)
  refine q_fldX b0 hx hC.cl hC.n1 (by decide) rfl (ed_pairs (K := K) (i := 1) (sel := fst2) rfl t1 l1 (fun _ _ => rfl) fun a b x y H' ta tb => ⟨a, rfl, ta⟩) fun p1 H3 x3 b3 e3 g1 => ?_
  refine q_fldX b3 x3 hC.cl hC.n2 (show 1 < 1000 by decide) rfl (ed_pairs (K := K) (i := 1) (sel := snd2) rfl (Tp.ex e3 _ _ t1) l1 (fun _ _ => rfl) fun a b x y H' ta tb => ⟨b, rfl, tb⟩) fun p2 H4 x4 b4 e4 g2 => ?_
  refine q_fldX b4 x4 hC.cl hC.n3 (show 2 < 1000 by decide) rfl (ed_pairs (K := K) (i := 2) (sel := snd2) rfl (Tp.ex (e3.trans e4) _ _ t2) l2 (fun _ _ => rfl) fun a b x y H' ta tb => ⟨b, rfl, tb⟩) fun p3 H5 x5 b5 e5 g3 => ?_
  refine s_fldX b5 x5 hC.cl hC.n4 (show 3 < 1000 by decide) rfl (ed_pairs (K := K) (i := 2) (sel := fst2) rfl (Tp.ex ((e3.trans e4).trans e5) _ _ t2) l2 (fun _ _ => rfl) fun a b x y H' ta tb => ⟨a, rfl, ta⟩) fun p4 H6 x6 b6 e6 g4 => ?_
  have u := b6.d
  exact q H6 p1 p2 p3 p4 (of_exM_X b6.a) x6 (Tp.ex (((e4.trans e5).trans e6).trans u) _ _ g1) (Tp.ex ((e5.trans e6).trans u) _ _ g2) (Tp.ex (e6.trans u) _ _ g3) (Tp.ex u _ _ g4)
end
end K50
set_option maxHeartbeats 1000000
namespace K50
open PySem PySem.W PySem.Spec PyProof.Rows L2 LamX NdefX Evl RZ Dl Dn Dm Lz K0 Mx Ns ClX
/-! ### methods, made objects, defs of a class -/
def CallM (P : Program) (w : World) (K : PySem.W.Frag) (mg : Str → Option Value) (base : Heap) (k : Nat) (C : Addr) (m : Str) (ps : List Str) (sp : Sp) : Prop := ∃ f fd, FnOk P w K mg base CX0 k f fd ps sp ∧ L2.Meth K C m f ∧ L2.Binds K fd ps []
def CallMk (P : Program) (w : World) (K : PySem.W.Frag) (mg : Str → Option Value) (base : Heap) (k : Nat) (x : Str) (C : Addr) (ps : List Str) (sp : Sp) : Prop := ∃ f fd, FnOk P w K mg base CX0 k f fd ps sp ∧ L2.Mk K C f ∧ mg x = some (.ref C) ∧ L2.Binds K fd ps []
def CallC (P : Program) (w : World) (K : PySem.W.Frag) (mg : Str → Option Value) (base : Heap) (k : Nat) (x m : Str) (ps : List Str) (sp : Sp) : Prop := ∃ C mc f fd, FnOk P w K mg base CX0 k f fd ps sp ∧ CRead K C mc ∧ CVal K C mc m (.ref f) (.ref f) ∧ mg x = some (.ref C) ∧ PySem.W.keepIn K (.ref f) = true ∧ L2.Binds K fd ps []
/-! ### Net's methods -/
def netPre (C : Addr) : NetV → Hp → List V → Prop := fun N H vs => ∃ v, vs = [v] ∧ NetAt C N H v
theorem scNLen : FnScope ["self"] ["self"] (defScope sNLen) := ⟨rfl, rfl, rfl, by decide +kernel, rfl, by decide +kernel, by decide +kernel⟩
theorem scNSigns : FnScope ["self"] ["self"] (defScope sNSigns) := ⟨rfl, rfl, rfl, by decide +kernel, rfl, by decide +kernel, by decide +kernel⟩
theorem scNRoads : FnScope ["self"] ["self"] (defScope sNRoads) := ⟨rfl, rfl, rfl, by decide +kernel, rfl, by decide +kernel, by decide +kernel⟩
theorem scRoadKeys : FnScope ["self"] ["self"] (defScope sRoadKeys) := ⟨rfl, rfl, rfl, by decide +kernel, rfl, by decide +kernel, by decide +kernel⟩
theorem spV_len {n : Nat} {α : Type} {pre : α → Hp → List V → Prop} {f : α → PyData} {vs : List V} {H : Hp} {Q : VK} {E : XK} (h : spV n pre f vs H Q E) : vs.length = n := by
  obtain ⟨_, _, _, h, _⟩ := h
  exact h
section
variable {P : Program} {w : World} {K : PySem.W.Frag} {mg : Str → Option Value} {base : Heap} {C : Addr}
theorem ed_fld {σ : L2.St} {B : Hp} {i : Nat} {a dx : Addr} {fs : List (Str × V)} {f : Str} {p : V} {d : PyData} (h0 : σ[i]? = some (some (.ref a))) (ha : B a = some (.ins C dx fs)) (cl : L2.Cls K C) (n : NoAttr K C f) (hl : fs.lookup f = some p) (t : Tp B p d) : EvD (tFld K (tVar i) f) σ B d := fun H1 e Q q =>
  ⟨.ref a, h0, a, C, dx, fs, p, rfl, e _ _ ha, cl, n, hl, q p H1 (Ex.refl H1) (Tp.ex (gr_ex e) d p t)⟩
theorem ok_nroads {f : Addr} {fd : FuncData} (F : Fun K "roads" "Net.roads" sNRoads f fd) (B : Bl mg) (hC : NetK K C) : FnOk P w K mg base CX0 1 f fd ["self"] (spV 1 (netPre C) fun N => .list (N.rs.map rdD)) := by
  refine F.ok scNRoads (fun vs H Q E h => spV_len h) (fun cdv A outer s H vs Q E hr h => ?_)
  refine ⟨_, pss_one (ps_ret (pe_callTy call_list_of (by rfl) B.list (by decide +kernel) (pa_cons (pe_fld (pv 0) rfl) pa_nil))), ?_⟩
  obtain ⟨Bb, N, e, hn, ⟨v, rfl, a, dx, p1, p2, p3, p4, rfl, ha, h1, h2, h3, h4⟩, q⟩ := h
  exact ed_cb (es_cons (ed_fld (i := 0) rfl ha hC.cl hC.n3 rfl h3) es_nil) (rc_listT (K := K)) H e Q q
theorem ok_nsigns {f : Addr} {fd : FuncData} (F : Fun K "signs" "Net.signs" sNSigns f fd) (B : Bl mg) (hC : NetK K C) : FnOk P w K mg base CX0 1 f fd ["self"] (spV 1 (netPre C) fun N => .list N.ss) := by
  refine F.ok scNSigns (fun vs H Q E h => spV_len h) (fun cdv A outer s H vs Q E hr h => ?_)
  refine ⟨_, pss_one (ps_ret (pe_callTy call_list_of (by rfl) B.list (by decide +kernel) (pa_cons (pe_fld (pv 0) rfl) pa_nil))), ?_⟩
  obtain ⟨Bb, N, e, hn, ⟨v, rfl, a, dx, p1, p2, p3, p4, rfl, ha, h1, h2, h3, h4⟩, q⟩ := h
  exact ed_cb (es_cons (ed_fld (i := 0) rfl ha hC.cl hC.n1 rfl h1) es_nil) (rc_listT (K := K)) H e Q q
theorem ok_nkeys {f : Addr} {fd : FuncData} (F : Fun K "road_keys" "Ground.road_keys" sRoadKeys f fd) (B : Bl mg) (hC : NetK K C) : FnOk P w K mg base CX0 1 f fd ["self"] (spV 1 (netPre C) fun N => .list (N.rs.map rkD)) := by
  refine F.ok scRoadKeys (fun vs H Q E h => spV_len h) (fun cdv A outer s H vs Q E hr h => ?_)
  refine ⟨_, pss_one (ps_ret (pe_callTy call_list_of (by rfl) B.list (by decide +kernel) (pa_cons (pe_fld (pv 0) rfl) pa_nil))), ?_⟩
  obtain ⟨Bb, N, e, hn, ⟨v, rfl, a, dx, p1, p2, p3, p4, rfl, ha, h1, h2, h3, h4⟩, q⟩ := h
  exact ed_cb (es_cons (ed_fld (i := 0) rfl ha hC.cl hC.n4 rfl h4) es_nil) (rc_listT (K := K)) H e Q q
theorem ok_nlen {f : Addr} {fd : FuncData} (F : Fun K "__len__" "Net.__len__" sNLen f fd) (B : Bl mg) (hC : NetK K C) : FnOk P w K mg base CX0 1 f fd ["self"] (spV 1 (netPre C) fun N => .int N.ss.length) := by
  refine F.ok scNLen (fun vs H Q E h => spV_len h) (fun cdv A outer s H vs Q E hr h => ?_)
  refine ⟨_, pss_one (ps_ret (pe_callB call_len_seq (by rfl) B.len PySem.boot_len (pa_cons (pe_fld (pv 0) rfl) pa_nil))), ?_⟩
  obtain ⟨Bb, N, e, hn, ⟨v, rfl, a, dx, p1, p2, p3, p4, rfl, ha, h1, h2, h3, h4⟩, q⟩ := h
  exact ed_cb (es_cons (ed_fld (i := 0) rfl ha hC.cl hC.n1 rfl h1) es_nil) (rc_lenT (K := K)) H e Q q
/-- net.m() -/
theorem ed_meth {σ : L2.St} {B : Hp} {i : Nat} {v : V} {N : NetV} {m : Str} {g : NetV → PyData} {E : XK} (h0 : σ[i]? = some (some v)) (hv : NetAt C N B v) (hm : (netF .non .non .non .non).lookup m = none) : EvD (tMeth C m (spV 1 (netPre C) g) [] E (tVar i) tNil) σ B (g N) := fun H1 e Q q => by
  obtain ⟨a, dx, p1, p2, p3, p4, rfl, ha, h1, h2, h3, h4⟩ := id hv
  have hm2 : (netF p1 p2 p3 p4).lookup m = none := by
    cases z : (netF p1 p2 p3 p4).lookup m with
    | none => rfl
    | some p =>
      exfalso
      revert z hm
      simp only [netF, List.lookup]
      intro hm z
      repeat' split at z
      all_goals simp_all
  exact ⟨.ref a, h0, a, dx, _, rfl, e _ _ ha, hm2, B, N, e, rfl, ⟨_, rfl, hv⟩, fun w H2 e2 t => q w H2 e2 t⟩
/-- len(net) -/
theorem ed_lenN {σ : L2.St} {B : Hp} {i : Nat} {v : V} {N : NetV} (h0 : σ[i]? = some (some v)) (hv : NetAt C N B v) (hl : N.ss.length ≤ 100000) : EvD (tCB (rLenI C (spV 1 (netPre C) fun N => .int N.ss.length)) (tCons (tVar i) tNil)) σ B (.int N.ss.length) := fun H1 e Q q => by
  obtain ⟨a, dx, p1, p2, p3, p4, rfl, ha, _⟩ := id hv
  refine ⟨.ref a, h0, a, dx, _, rfl, e _ _ ha, B, N, e, rfl, ⟨_, rfl, hv⟩, fun w H2 e2 t => ?_⟩
  cases t
  exact ⟨N.ss.length, rfl, hl, q _ H2 e2 (.int _)⟩
end
end K50
set_option maxHeartbeats 1000000
namespace K50
open PySem PySem.W PySem.Spec PyProof.Rows L2 LamX NdefX Evl RZ Dl Dn Dm Lz K0 Mx Ns ClX
/-! ### the spring, tables, and an object whose fields are set -/
theorem mdS_but {p l x : Addr} {T : List (Addr × Str)} {n : Nat} {H H' : Hp} {C dx : Addr} {fs : List (Str × V)} (j : (mdS p l T).J n H) (k : ∀ b o, b ≠ x → H b = some o → H' b = some o) (hx : x ∉ (mdS p l T).M) (h : H x = some (.ins C dx fs)) : (mdS p l T).J n H' := by
  obtain ⟨⟨N, h1, ⟨ns, a, b, c, s1, s2, s3⟩, s4⟩, ht⟩ := j
  have np : p ≠ x := fun z => hx (z ▸ List.mem_cons_self)
  have nl : l ≠ x := fun z => hx (z ▸ List.mem_cons_of_mem _ List.mem_cons_self)
  refine ⟨⟨N, h1, ⟨ns, a, b, c, k _ _ np s1, k _ _ nl s2, s3⟩, s4⟩, fun t ht1 => ?_⟩
  obtain ⟨ps, h3, h4, h5⟩ := ht t ht1
  have nt : t.1 ≠ x := fun z => hx (z ▸ List.mem_cons_of_mem _ (List.mem_cons_of_mem _ (List.mem_map.mpr ⟨t, ht1, rfl⟩)))
  refine ⟨ps, k _ _ nt h3, h4, fun pos cv hc => ?_⟩
  obtain ⟨c0, rfl, h6⟩ := h5 pos cv hc
  exact ⟨c0, rfl, k _ _ (fun z => by rw [z, h] at h6; cases h6) h6⟩
def mdSx (p l : Addr) (T : List (Addr × Str)) (x : Addr) : Md where
  M := x :: (mdS p l T).M
  J := fun n H => (mdS p l T).J n H ∧ H x ≠ none
  dom := fun n H h b hb => by
    rcases List.mem_cons.mp hb with rfl | hb
    · exact h.2
    · exact (mdS p l T).dom n H h.1 b hb
  keep := fun n H H' e h => ⟨(mdS p l T).keep n H H' e h.1, by
    cases q : H x with
    | none => exact absurd q h.2
    | some o => rw [e x o q]; exact Option.some_ne_none _⟩
  up := fun m n H hl h => ⟨(mdS p l T).up m n H hl h.1, h.2⟩
  set := fun n H q o hq ht h => ⟨(mdS p l T).set n H q o (fun z => hq (List.mem_cons_of_mem _ z)) ht h.1, by
    have ne : x ≠ q := fun z => hq (by rw [z]; exact List.mem_cons_self)
    rw [upd_ne ne]
    exact h.2⟩
/-- signs and roads of a net -/
structure okN (x1 x2 : PyData) (ss : List PyData) (rs : List Rd) : Prop where
  r1 : Row x1 ss
  r2 : Row x2 (rs.map rdD)
  ne : ss ≠ []
  l1 : ss.length ≤ 400
  wd : ∀ w ∈ ss, Wd w
  l2 : rs.length ≤ 1000
  ok : ∀ r ∈ rs, okR ss.length r
def spNI (T : List (Addr × Str)) (C : Addr) : Sp := fun vs H1 Q _ => ∃ (p l x dx : Addr) (B : Hp) (s : Nat) (v1 v2 : V) (x1 x2 : PyData) (ss : List PyData) (rs : List Rd), vs = [.ref x, v1, v2] ∧ Ex B H1 ∧ Cl (mdS p l T) B ∧ (mdS p l T).J s H1 ∧ s ≤ 100000 ∧ B x = none ∧ H1 x = some (.ins C dx []) ∧ x ∉ (mdS p l T).M ∧
  Tp B v1 x1 ∧ Tp B v2 x2 ∧ okN x1 x2 ss rs ∧
  ∀ H2 p1 p2 p3 p4, (∀ b o, b ∉ (mdS p l T).M → b ≠ x → H1 b = some o → H2 b = some o) → (mdS p l T).J s H2 → H2 x = some (.ins C dx (netF p1 p2 p3 p4)) →
    Tp (gr B H1 H2) p1 (.tuple ss) → Tp (gr B H1 H2) p2 (.tuple (ss.map kW)) → Tp (gr B H1 H2) p3 (.tuple ((sortR rs).map rdD)) → Tp (gr B H1 H2) p4 (.tuple ((sortR rs).map rkD)) → Q .non H2
abbrev nNI : List Str := ["self", "signs", "roads", "read"]
theorem scNI : FnScope nNI ["self", "signs", "roads"] (defScope sNInit) := ⟨rfl, rfl, rfl, by decide +kernel, rfl, by decide +kernel, by decide +kernel⟩
theorem readP_wd {x : PyData} (h : Wd x) : readP x = pr2 (x, kW x) := by
  show PyData.tuple [(readZ x).1, (readZ x).2] = .tuple [x, kW x]
  rw [wd_tup h]
section
variable {P : Program} {w : World} {K : PySem.W.Frag} {mg : Str → Option Value} {base : Heap} {C : Addr}
theorem ok_ninit {T : List (Addr × Str)} {f : Addr} {fd : FuncData} (F : Fun K "__init__" "Net.__init__" sNInit f fd) (B : Bl mg) (G : CallC P w K mg base 1 "Ground" "__init__" ["self", "sign_pairs", "road_pairs"] (spGI C)) (S : CallF P w K mg base 4 "read_signs" ["signs"] (spP 1 rRS)) (R : CallF P w K mg base 5 "read_roads" ["roads", "many"] (spT T 2 rrPre rrPost)) :
    FnOk P w K mg base CX0 6 f fd ["self", "signs", "roads"] (spNI T C) := by
  refine F.ok scNI (fun vs H Q E h => ?_) (fun cdv A outer s H vs Q E hr h => ?_)
  · obtain ⟨_, _, _, _, _, _, _, _, _, _, _, _, rfl, _⟩ := h
    rfl
  obtain ⟨CG, mc, fG, dG, oG, rG, vG, gG, kG, bG⟩ := G
  obtain ⟨fS, dS, oS, gS, kS, bS⟩ := S
  obtain ⟨fR, dR, oR, gR, kR, bR⟩ := R
  refine ⟨_, pss_cons (ps_set (i := 3) scNI.nd rfl (.inl rfl) (pe_call oS (hr.mono (by decide)) (by rfl) gS kS bS .nil pass0 (pa_cons (pv 1) pa_nil)))
    (pss_one (ps_expr (pe_clsF rG vG oG (hr.mono (by decide)) (by rfl) gG kG bG pass0 (pa_cons (pv 0) (pa_cons (pv 3) (pa_cons (pe_call oR hr (by rfl) gR kR bR .nil pass0 (pa_cons (pv 2) (pa_cons (pe_callB call_len_seq (by rfl) B.len PySem.boot_len (pa_cons (pv 3) pa_nil)) pa_nil))) pa_nil)))))), ?_⟩
  obtain ⟨p, l, x, dx, Bb, s0, v1, v2, x1, x2, ss, rs, rfl, e, cl, j, hk, hxB, hx, hxM, t1, t2, ok, q⟩ := h
  have cl2 : Cl (mdSx p l T x) Bb := fun b hb => by
    rcases List.mem_cons.mp hb with rfl | hb
    · exact hxB
    · exact cl b hb
  have hx0 : H x ≠ none := by rw [hx]; exact Option.some_ne_none _
  have b0 : BsM (mdSx p l T x) Bb H Bb H s0 := BsM.start e cl2 ⟨j, hx0⟩
  have rd : ss.map readP = (ss.map fun x => (x, kW x)).map pr2 := by
    rw [List.map_map]
    exact List.map_congr_left fun x hx => readP_wd (ok.wd x hx)
  have wd : Words ss := ⟨ok.ne, ok.l1, fun y hy => by have h2 : readW y = some (y, kW y) := ok.wd y hy; rw [h2]; rfl⟩
  refine q_asgD b0.c (d := .list ((ss.map fun x => (x, kW x)).map pr2)) (ed_is (ed_call (ds := [x1]) (es_cons (ed_var (i := 1) rfl t1) es_nil) rfl ⟨x1, ss, rfl, ok.r1, wd, rfl⟩) (by rw [rd])) fun vr H2 e2 tr => ?_
  have j2 := (mdS p l T).keep _ _ _ e2 j
  have b2 := b0.step (ExM.of e2) ((mdSx p l T x).keep _ _ _ e2 b0.j)
  have t22 := Tp.ex (gr_ex (H1 := H) (H2 := H2) e) _ _ t2
  have clS : Cl (mdS p l T) (gr Bb H H2) := fun b hb => b2.cl b (List.mem_cons_of_mem _ hb)
  refine ⟨.ref x, rfl, vr, rfl, ?_⟩
  refine em_callT (E := E0) (n := 2) (pre := rrPre) (post := rrPost) (Rs := fun ds => ds = [x2, .int (ss.length : Int)]) (σ := [some (.ref x), some v1, some v2, some vr]) clS (ta := tCons (tVar 2) (tCons (tCB (Dl.rLen K) (tCons (tVar 3) tNil)) tNil)) (k := 0)
    (fun n H1 e1 j1 _ Q q => (es_cons (ed_var (i := 2) rfl t22) (es_cons (ed_is (ed_cb (es_cons (ed_var (i := 3) rfl tr) es_nil) (rc_lenL (K := K))) (by rw [List.length_map, List.length_map])) es_nil)) H1 e1 Q fun vs H2 e2 t => q vs H2 _ rfl (ExM.of e2) ((mdS p l T).keep _ _ _ e2 j1) t)
    (fun ds hd => by subst hd; exact ⟨rfl, rs, x2, ss.length, rfl, ok.r2, ok.ok, ok.l2⟩) s0 H2 b2.c j2 hk _ fun v3 H3 d ⟨ds, hds, rs2, hrs2, hd⟩ m3 j3 t3 => ?_
  subst hds hd
  obtain rfl : rs2 = rs := rrQ_inj hrs2 ⟨x2, ss.length, rfl, ok.r2, ok.ok, ok.l2⟩
  have x2' : H2 x = some (.ins C dx []) := e2 _ _ hx
  have x3' : H3 x = some (.ins C dx []) := m3 _ _ hxM x2'
  have m3x : ExM (mdSx p l T x) H2 H3 := fun b o nb hb => m3 b o (fun z => nb (List.mem_cons_of_mem _ z)) hb
  have b3 := b2.step (k := s0) m3x ⟨j3, by rw [x3']; exact Option.some_ne_none _⟩
  have B3x : gr (gr Bb H H2) H2 H3 x = none := b3.cl x List.mem_cons_self
  have rows : (sortR rs2).map rowD = ((sortR rs2).map fun r => (rkD r, rdD r)).map pr2 := by
    rw [List.map_map]
    rfl
  rw [rows] at t3
  refine ⟨gr (gr Bb H H2) H2 H3, x, dx, vr, v3, ss.map fun x => (x, kW x), (sortR rs2).map fun r => (rkD r, rdD r), rfl, b3.c, B3x, x3', Tp.ex (gr_ex b2.c) _ _ tr, t3, by rw [List.length_map]; have := ok.l1; omega, by rw [List.length_map, (sortR_perm rs2).length_eq]; exact ok.l2, fun H4 p1 p2 p3 p4 k4 x4 g1 g2 g3 g4 => ?_⟩
  have j4 : (mdS p l T).J s0 H4 := mdS_but j3 k4 hxM x3'
  have m4x : ExM (mdSx p l T x) H3 H4 := fun b o nb hb => k4 b o (fun z => nb (z ▸ List.mem_cons_self)) hb
  have b4 := b3.step (k := s0) m4x ⟨j4, by rw [x4]; exact Option.some_ne_none _⟩
  have u := b4.d
  refine q H4 p1 p2 p3 p4 (fun b o nb nx hb => b4.a b o (fun z => ?_) hb) j4 x4 ?_ ?_ ?_ ?_
  · rcases List.mem_cons.mp z with z | z
    · exact nx z
    · exact nb z
  · have := Tp.ex u _ _ g1
    rw [List.map_map] at this
    have z : ss.map (Prod.fst ∘ fun x => (x, kW x)) = ss := List.map_id' ss
    rwa [z] at this
  · have := Tp.ex u _ _ g2
    rwa [List.map_map] at this
  · have := Tp.ex u _ _ g3
    rwa [List.map_map] at this
  · have := Tp.ex u _ _ g4
    rwa [List.map_map] at this
/-- Net(signs, roads) -/
theorem ex_make {p l : Addr} {T : List (Addr × Str)} {σ : L2.St} {B : Hp} {ta : TA} {Rs : List PyData → Prop} {k : Nat} {ss : List PyData} {rs : List Rd} {E : XK} (c : Cl (mdS p l T) B) (h : EvsM (mdS p l T) ta σ B Rs k) (hf : ∀ ds, Rs ds → ∃ x1 x2, ds = [x1, x2] ∧ okN x1 x2 ss rs) :
    EvX (mdS p l T) (tMake C (spNI T C) [] E ta) σ B (NetAt C ⟨ss, sortR rs⟩) k := fun s H1 e j hk Q q =>
  h s H1 e j hk _ fun vs H2 ds rd m2 j2 dvs x dx hx hdx ne => by
    obtain ⟨x1, x2, rfl, ok⟩ := hf ds rd
    obtain ⟨v1, v2, rfl, t1, t2⟩ := tp2 dvs
    have nx : x ∉ (mdS p l T).M := off_M j2 hx
    have kp : ∀ b o, H2 b = some o → upd (upd H2 dx (.own x)) x (.ins C dx []) b = some o := fun b o hb => by
      rw [upd_ne (ne_of_none hb hx), upd_ne (ne_of_none hb hdx)]
      exact hb
    have hx1 : H1 x = none := back_M j2 m2 hx
    have Bx : gr B H1 H2 x = none := by
      unfold gr
      rw [hx1]
      exact hx
    refine ⟨p, l, x, dx, gr B H1 H2, s + k, v1, v2, x1, x2, ss, rs, rfl, (gr_subM c e m2).trans kp, cl_gr c j, (mdS p l T).keep _ _ _ kp j2, hk, Bx, upd_same, nx, t1, t2, ok, fun H3 p1 p2 p3 p4 k3 j3 x3 g1 g2 g3 g4 => ⟨rfl, ?_⟩⟩
    have m3 : ExM (mdS p l T) H1 H3 := fun b o nb hb => k3 b o nb (ne_of_none hb hx1) (kp b o (m2 b o nb hb))
    have u : Ex (gr (gr B H1 H2) (upd (upd H2 dx (.own x)) x (.ins C dx [])) H3) (gr B H1 H3) := fun b o hb => by
      unfold gr at hb ⊢
      cases q2 : upd (upd H2 dx (.own x)) x (.ins C dx []) b with
      | none =>
        rw [q2] at hb
        have h2 : H2 b = none := by
          cases z : H2 b with
          | none => rfl
          | some o2 => rw [kp b o2 z] at q2; cases q2
        rw [back_M j2 m2 h2]
        exact hb
      | some o2 =>
        rw [q2] at hb
        cases q1 : H1 b with
        | none =>
          simp only [q1] at hb ⊢
          have nb : b ∉ (mdS p l T).M := off_M j q1
          exact k3 b o nb (ne_of_none hb hx) (kp b o hb)
        | some o1 =>
          simp only [q1] at hb ⊢
          exact hb
    exact q (.ref x) H3 m3 j3 ⟨x, dx, p1, p2, p3, p4, rfl, gr_new hx1 x3, Tp.ex u _ _ g1, Tp.ex u _ _ g2, Tp.ex u _ _ g3, Tp.ex u _ _ g4⟩
end
end K50
set_option maxHeartbeats 1000000
namespace Dn
open PySem PySem.Spec PyProof.Rows
section
variable {prog : Program} {w : World} {A : Around} {E : Value → Shared → Prop} {s : Shared} {d : Addr} {xs : List Ent} {k : NestedKey} {kv dv : Value}
/-- d[k] = v -/
theorem set_n {Q : Unit → Shared → Prop} (hu : A.units + 8 < cLine) (hk : isK s.heap k kv) (m : Raw w s.heap d xs) (his : ∀ x ∈ xs, isK s.heap x.1 x.2.1) (hn : (xs.map (·.1)).Nodup) (hsz : xs.length ≤ sizeLine)
    (h1 : ∀ (j : Nat) u v, xs[j]? = some (k, u, v) → ∀ h', Raw w h' d (xs.modify j fun e => (e.1, e.2.1, dv)) → Heap.SameBut d s.heap h' → Q () { s with heap := h', toks := s.toks + k.draws })
    (h2 : k ∉ xs.map (·.1) → ∀ h', Raw w h' d (xs ++ [(k, kv, dv)]) → Heap.SameBut d s.heap h' → Q () { s with heap := h', toks := s.toks + k.draws }) : wpAny (model prog w) A (dictSet d kv dv) Q E s := by
  obtain ⟨o, es, ep, ho, hc, hd, he⟩ := m
  unfold dictSet
  try with_reducible refine wpAny_holding ?_
  refine wpAny_bind (pyHash_key k kv A s _ hk.1 (by have := hk.2; omega) ?_)
  unfold dictSetHashed
  try with_reducible refine wpAny_holding ?_
  refine wpAny_bind (find_n (s := { s with toks := s.toks + k.draws }) hu hk ho hd he his hn (fun no => ?_) fun j u v hj => ?_)
  · have sz : es.size ≤ sizeLine := by rw [ent_size he]; exact hsz
    refine wpAny_bind (wpAny_rule (wpAny_updateDictKeys (hz := sz) (s := { s with toks := s.toks + k.draws }) ho hd (h2 no _ ⟨_, _, ep + 1, Heap.get?_update_self _ ho (Obj.isFreed_of_dict (Obj.data_mapDictKeys hd _)), hc.mapDictKeys _, Obj.data_mapDictKeys hd _, ?_⟩ (Heap.SameBut.update ..))))
    simp [he, entN]
  · refine wpAny_bind (wpAny_rule (wpAny_bind (wpAny_updateDict (s := { s with toks := s.toks + k.draws }) ho hd (wpAny_point (h1 j u v hj _ ⟨_, _, ep, Heap.get?_update_self _ ho (Obj.isFreed_of_dict (Obj.data_mapDict hd _)), hc.mapDict _, Obj.data_mapDict hd _, ?_⟩ (Heap.SameBut.update ..))))))
    have key : ∀ (l : List DictEntry) (ys : List Ent) (j : Nat), l = ys.map (entN w) → l.modify j (fun e => { e with val := dv }) = (ys.modify j fun e => (e.1, e.2.1, dv)).map (entN w) := by
      intro l ys j e
      subst e
      apply List.ext_getElem?
      intro i
      simp only [List.getElem?_modify, List.getElem?_map]
      cases ys[i]? with
      | none => simp
      | some y =>
        by_cases hij : j = i <;> simp [hij, entN]
    have := key es.toList xs j he
    simpa using this
/-- k in d -/
theorem contains_n {Q : Bool → Shared → Prop} (hu : A.in1.units + 8 < cLine) (hd : (d == sysModules) = false) (hk : isK s.heap k kv) (m : Raw w s.heap d xs) (his : ∀ x ∈ xs, isK s.heap x.1 x.2.1) (hn : (xs.map (·.1)).Nodup)
    (h : Q (decide (k ∈ xs.map (·.1))) { s with toks := s.toks + k.draws }) : wpAny (model prog w) A (contains (.ref d) kv) Q E s := by
  unfold contains
  try with_reducible refine wpAny_holding ?_
  have ty : s.TypeIs (.ref d) "dict" := m.typeIs
  refine wpAny_bind (wpAny_specialOf ty slot_dict_contains.lookup ?_)
  show wpAny _ _ (if (some (Value.builtin "dict.__contains__") == some Value.none) = true then _ else _) _ E s
  rw [if_neg (show ¬ (some (Value.builtin "dict.__contains__") == some Value.none) = true by rw [beq_builtin_none]; exact Bool.false_ne_true)]
  refine wpAny_bind (wpAny_callSpecialUnlessNone?_slot (name := Str.ofString "__contains__") ty slot_dict_contains (wpAny_call_entry slot_dict_contains ty entry_dict_contains ?_ (args_dict_contains _ _)))
  show wpAny _ _ (dictGet d kv >>= _) _ _ s
  refine wpAny_bind (get_n hu hk m his hn ?_)
  by_cases hm : k ∈ xs.map (·.1)
  · obtain ⟨j, u, v, _, hl⟩ := look_some hn hm
    rw [decide_eq_true hm] at h
    rw [hl]
    show wpAny _ _ (ret (.bool true)) _ _ _
    exact wpAny_pure ⟨_, rfl, wpAny_truthy_bool h⟩
  · rw [decide_eq_false hm] at h
    rw [look_none hm]
    show wpAny _ _ (Builtin.Dict.pendingKey? d kv >>= _) _ _ _
    exact wpAny_bind (wpAny_pendingKey_other hd (wpAny_pure ⟨_, rfl, wpAny_truthy_bool h⟩))
end
end Dn
namespace Dl
open PySem PySem.Spec PyProof.Rows L2 Evl RZ Dn
/-- the dict with v under k -/
def putN (ks : KVs) (k : NestedKey) (u v : V) : KVs := if k ∈ ks.map (·.1) then ks.map fun p => if p.1 = k then (p.1, p.2.1, v) else p else ks ++ [(k, u, v)]
theorem putN_keys (ks : KVs) (k : NestedKey) (u v : V) : (putN ks k u v).map (·.1) = addK (ks.map (·.1)) k := by
  unfold putN addK
  split
  · rw [List.map_map]
    refine List.map_congr_left fun p _ => ?_
    show (if p.1 = k then (p.1, p.2.1, v) else p).1 = p.1
    split <;> rfl
  · rw [List.map_append]
    rfl
theorem putN_len (ks : KVs) (k : NestedKey) (u v : V) : (putN ks k u v).length ≤ ks.length + 1 := by
  unfold putN
  split
  · rw [List.length_map]; omega
  · rw [List.length_append]; exact Nat.le_refl _
theorem putN_at {B : Hp} {ks : KVs} {k : NestedKey} {u v : V} {du : PyData} (h : KeysAt B ks) (t : Tp B u du) (e : nk du = some k) (hd : k.depth ≤ 8) : KeysAt B (putN ks k u v) := fun p hp => by
  unfold putN at hp
  split at hp
  · obtain ⟨q, hq, rfl⟩ := List.mem_map.mp hp
    obtain ⟨d, a, b, c⟩ := h q hq
    split
    · exact ⟨d, a, b, c⟩
    · exact ⟨d, a, b, c⟩
  · rcases List.mem_append.mp hp with hp | hp
    · exact h p hp
    · rw [List.mem_singleton.mp hp]
      exact ⟨du, t, e, hd⟩
theorem pairs_put {ks : KVs} {xs : List Ent} {j : Nat} {k : NestedKey} {u2 v2 : Value} {u v : V} {dv : Value} (r : PairsN ks xs) (rv : RelV v dv) (hj : xs[j]? = some (k, u2, v2)) (hn : (ks.map (·.1)).Nodup) : PairsN (putN ks k u v) (xs.modify j fun e => (e.1, e.2.1, dv)) := by
  have hm : k ∈ ks.map (·.1) := by
    rw [← pairs_keys r]
    exact List.mem_map.mpr ⟨_, List.mem_of_getElem? hj, rfl⟩
  unfold putN
  rw [if_pos hm]
  have key : ∀ (ks : KVs) (xs : List Ent) (j : Nat), PairsN ks xs → xs[j]? = some (k, u2, v2) → (ks.map (·.1)).Nodup → PairsN (ks.map fun p => if p.1 = k then (p.1, p.2.1, v) else p) (xs.modify j fun e => (e.1, e.2.1, dv)) := by
    intro ks
    induction ks with
    | nil =>
      intro xs j r hj _
      cases r
      simp at hj
    | cons p ks ih =>
      intro xs j r hj hn
      cases r with
      | @cons _ q _ qs h t =>
        obtain ⟨h1, h2, h3⟩ := h
        rw [List.map_cons, List.nodup_cons] at hn
        cases j with
        | zero =>
          have e : q = (k, u2, v2) := by simpa using hj
          have pk : p.1 = k := by rw [h1, e]
          have rest : ks.map (fun p => if p.1 = k then (p.1, p.2.1, v) else p) = ks := by
            have : ∀ p' ∈ ks, (if p'.1 = k then (p'.1, p'.2.1, v) else p') = p' := fun p' hp' => by
              rw [if_neg]
              intro z
              exact hn.1 (List.mem_map.mpr ⟨p', hp', z.trans pk.symm⟩)
            exact (List.map_congr_left this).trans (List.map_id' ks)
          rw [List.map_cons, if_pos pk, rest]
          show PairsN _ ((q.1, q.2.1, dv) :: qs)
          exact .cons ⟨h1, h2, rv⟩ t
        | succ j =>
          have hj2 : qs[j]? = some (k, u2, v2) := by simpa using hj
          have pk : ¬ p.1 = k := fun z => hn.1 (by
            rw [← pairs_keys t, z]
            exact List.mem_map.mpr ⟨_, List.mem_of_getElem? hj2, rfl⟩)
          rw [List.map_cons, if_neg pk]
          exact .cons ⟨h1, h2, h3⟩ (ih qs j t hj2 hn.2)
  exact key ks xs j r hj hn
section
variable {X : Cx} {pins : List (Addr × Obj)} {σ : L2.St} {H B : Hp} {s : Shared} {A : Around}
theorem put_ok {E : Value → Shared → Prop} {Q : Unit → Shared → Prop} {D : Addr} {ks : KVs} {k : NestedKey} {y z : V} {u r : Value} {du : PyData} (hu : A.units + 8 < cLine) (I : Inv X pins σ H s) (hD : DkAt X.w H D ks) (eB : Ex B H) (ty : Tp B y du) (hnk : nk du = some k) (hdp : k.depth ≤ 8) (hK : KeysAt B ks) (hN : (ks.map (·.1)).Nodup)
    (hz : ks.length < 100000) (ry : RelV y u) (rz : RelV z r) (q : ∀ s', Inv X pins σ (upd H D (DkO X.w D (putN ks k y z))) s' → Q () s') : wpAny (model X.prog X.w) A (dictSet D u r) Q E s := by
  obtain ⟨hd, hsz, xs, hp, hr⟩ := dk_raw I.hok hD
  have his := keys_is I eB hK hp
  have hk : isK s.heap k u := ⟨Tp.nested I du y u k (Tp.ex eB _ _ ty) hnk ry, hdp⟩
  have hnod : (xs.map (·.1)).Nodup := by rw [pairs_keys hp]; exact hN
  have hlen := pairs_len hp
  have hl2 : (putN ks k y z).length ≤ sizeLine := by have := putN_len ks k y z; rw [sizeLine_eq]; omega
  have fin : ∀ (zs : List Ent) (h' : Heap), PairsN (putN ks k y z) zs → Raw X.w h' D zs → Heap.SameBut D s.heap h' → Q () { s with heap := h', toks := s.toks + k.draws } := fun zs h' hp' hr' hs => by
    refine q _ (d_write I (dk_mut hD) hs ?_ (phi_ok ⟨hd, hl2, zs, hp', hr'⟩))
    obtain ⟨o, _, _, ho, _⟩ := hr'
    exact ⟨o, ho⟩
  refine set_n hu hk hr his hnod (by omega) (fun j u2 v2 hj h' hr' hs => fin _ h' (pairs_put hp rz hj hN) hr' hs) fun no h' hr' hs => fin _ h' ?_ hr' hs
  have no2 : k ∉ ks.map (·.1) := by rw [← pairs_keys hp]; exact no
  unfold putN
  rw [if_neg no2]
  exact pairs_snoc ⟨rfl, ry, rz⟩ hp
/-- k in d, k not in d -/
def rInN (w : World) (neg : Bool) : R2 := fun x y H Q => ∃ a ks B du k, y = .ref a ∧ DkAt w H a ks ∧ Ex B H ∧ Tp B x du ∧ nk du = some k ∧ k.depth ≤ 8 ∧ KeysAt B ks ∧ (ks.map (·.1)).Nodup ∧ Q (.bl (neg != decide (k ∈ ks.map (·.1)))) H
theorem op_inN (hu : X.A.in1.units + 8 < cLine) : OpR X (compareOp .In) (rInN X.w false) := by
  intro pins s σ H x y v u Q I rx ry h
  obtain ⟨a, ks, B, du, k, rfl, hD, eB, tx, hnk, hdp, hK, hN, q⟩ := h
  obtain rfl : u = Value.ref a := ry
  obtain ⟨hd, hsz, xs, hp, hr⟩ := dk_raw I.hok hD
  show wpAny (model X.prog X.w) X.A (contains (.ref a) v >>= fun r => pure (Value.bool r)) _ _ s
  refine wpAny_bind (contains_n hu hd ⟨Tp.nested I du x v k (Tp.ex eB _ _ tx) hnk rx, hdp⟩ hr (keys_is I eB hK hp) (by rw [pairs_keys hp]; exact hN) (wpAny_pure ?_))
  rw [pairs_keys hp]
  have rel : RelV (V.bl (decide (k ∈ ks.map (·.1)))) (Value.bool (decide (k ∈ ks.map (·.1)))) := rfl
  refine ⟨V.bl (decide (k ∈ ks.map (·.1))), H, I.tok _, rel, ?_⟩
  have z : (false != decide (k ∈ ks.map (·.1))) = decide (k ∈ ks.map (·.1)) := by cases decide (k ∈ ks.map (·.1)) <;> rfl
  rw [z] at q
  exact q
end
end Dl
set_option maxHeartbeats 2000000
namespace Dl
open PySem PySem.Spec PyProof.Rows L2 Evl RZ Dn
/-! ### {k: v for ..}, keys of any words: the new dict at D -/
def tDcN (w : World) (wi : TI) (g : TG) (tt : TT) (tk tv : TE) (vs : List Nat) : TE := fun σ H Q => wi σ H fun J H1 => ∀ D, H1 D = none → ∃ W : Nat → Nat → Hp → Prop, (∃ m, W 0 m (upd H1 D (.dK []))) ∧ ∀ i m H, W i m H →
  (J.stop i H ∧ Q (.ref D) H) ∨ (J.go i H ∧ ∃ Nx : Hp → Prop, (∀ H', Nx H' → ∃ m', m' < m ∧ W (i + 1) m' H') ∧ ∀ x H', J.yld i H x H' → g x (wipe σ vs) H' fun σ2 H2 => wipe σ2 vs = wipe σ vs ∧ tt σ2 H2 fun b H3 =>
    if b = true then tk σ2 H3 fun y H4 => tv σ2 H4 fun z H5 => ∃ ks k B du, DkAt w H5 D ks ∧ Ex B H5 ∧ Tp B y du ∧ nk du = some k ∧ k.depth ≤ 8 ∧ KeysAt B ks ∧ (ks.map (·.1)).Nodup ∧ ks.length < 100000 ∧ Nx (upd H5 D (DkO w D (putN ks k y z))) else Nx H3)
section
variable {X : Cx}
theorem dcn_core {pins : List (Addr × Obj)} {sA : Shared} {σ : L2.St} {H : Hp} {Q : VK} {kx vx tg iter : Expr} {ifs : List Expr} {scope : Scope} {own : List (Str × Nat)} {pos pos' : Pos} {wi : TI} {g : TG} {tt : TT} {tk tv : TE} {use : Option (Value → Sem Unit)} {Qf : Value → Shared → Prop}
    (hu : X.A.units + 8 < cLine) (calm : X.calm = true) (nod : X.N.Nodup) (I0 : Inv X pins σ H sA) (pi : PI X tg iter wi) (blk : BlkOk X.N X.env.scope scope own)
    (qg : ∀ (s : Shared) (H : Hp) (C : Addr) (cl : List (Str × Addr)) (fp : List Addr), PG (X.blk s H scope (compEnvC scope cl C X.env) fp) tg g)
    (qt : ∀ (s : Shared) (H : Hp) (C : Addr) (cl : List (Str × Addr)) (fp : List Addr), PTs (X.blk s H scope (compEnvC scope cl C X.env) fp) ifs tt)
    (qk : ∀ (s : Shared) (H : Hp) (C : Addr) (cl : List (Str × Addr)) (fp : List Addr), PE (X.blk s H scope (compEnvC scope cl C X.env) fp) kx tk)
    (qv : ∀ (s : Shared) (H : Hp) (C : Addr) (cl : List (Str × Addr)) (fp : List Addr), PE (X.blk s H scope (compEnvC scope cl C X.env) fp) vx tv) (fold : ∀ x, foldedSetIterable iter X.env x = pure x)
    (h : tDcN X.w wi g tt tk tv (own.map (·.2)) σ H Q)
    (done : ∀ D C s' m H', Inv X pins σ H' s' → Q (.ref D) H' → s'.heap.Ns C m → FpOk X pins H' C → compPost (model X.prog X.w) X.A X.xe use Qf (.ref D) C (.ok .next) s') :
    wpAny (model X.prog X.w) X.A (comprehension (.DictComp kx vx [⟨tg, iter, ifs, 0⟩] scope pos) scope X.env pos' newDict false (eval iter X.env) use) Qf X.xe sA := by
  have frees : ∀ y ∈ scope.names, y.2 = .free → ∃ c, X.env.cells.lookup y.1 = some c := fun y hy e => (blk.free y hy e).elim (fun k => I0.ok.has _ (.inl k)) fun k => I0.ok.has _ (.inr k)
  refine wpAny_comprehension_free (use := use) rfl fold (closure_ok frees) blk.kind (fun y hy e => by rw [blk.uniq y hy, e]) (thn (pi.run pins sA σ H _ I0 h) fun _ _ h1 => thn h1 fun _ sB h2 => ?_)
  obtain ⟨it, fp, tn, J, HB, rfl, IB, T, tnB, fpB, rest⟩ := h2
  refine wpAny_newObj_type (newEnv_comp ?_)
  generalize eD : sB.heap.objs.size = D
  have newD : HB D = none := IB.hok.fresh (Nat.le_of_eq eD)
  obtain ⟨W, ⟨m0, begun⟩, turn⟩ := rest D newD
  generalize eC : ({ sB with heap := sB.heap.push { cls := .type "dict", data := .dict #[] } } : Shared) = sC
  have hC : sC.heap = sB.heap.push { cls := .type "dict", data := .dict #[] } := by rw [← eC]
  have IC : Inv X pins σ (upd HB D (.dK [])) sC := by
    subst eC
    exact IB.laid (t' := sB.toks) (fun b o e => Heap.get?_push_of_some _ e) (Nat.le_of_eq eD) (by subst eD; exact dk_empty sB.heap IB.big)
  have low : ∀ b ∈ fp, b < sB.heap.objs.size := fun b hb => let ⟨_, e, _⟩ := T.obj _ _ tnB b hb; Heap.lt_size e
  have fpC : ∀ b ∈ fp, FpOk X pins (upd HB D (.dK [])) b ∧ b < sC.heap.objs.size := fun b hb =>
    ⟨⟨(upd_ne (by subst eD; exact Nat.ne_of_lt (low b hb))).trans (fpB b hb).1, (fpB b hb).2⟩, by rw [hC, Heap.size_push]; exact Nat.lt_succ_of_lt (low b hb)⟩
  have tnC : tn 0 sC.heap := T.keep _ _ _ tnB fun b _ o e => by rw [hC]; exact Heap.get?_push_of_some _ e
  have IE := block_start IC blk nod fpC
  have rg := qg sC (upd HB D (.dK [])) sC.heap.objs.size (cellsFrom (sC.heap.objs.size + 1) scope.names (cloFrom X.env.cells scope.names [])) fp
  have rt := qt sC (upd HB D (.dK [])) sC.heap.objs.size (cellsFrom (sC.heap.objs.size + 1) scope.names (cloFrom X.env.cells scope.names [])) fp
  have rk := qk sC (upd HB D (.dK [])) sC.heap.objs.size (cellsFrom (sC.heap.objs.size + 1) scope.names (cloFrom X.env.cells scope.names [])) fp
  have rv := qv sC (upd HB D (.dK [])) sC.heap.objs.size (cellsFrom (sC.heap.objs.size + 1) scope.names (cloFrom X.env.cells scope.names [])) fp
  have none_fp : ∀ b ∈ fp, (upd HB D (.dK [])) b = none := fun b hb => (fpC b hb).1.1
  show codeAny _ _ (.compStart (.DictComp kx vx [⟨tg, iter, ifs, 0⟩] scope pos) 0 (.ref it) (.ref D) (compEnvC scope (cellsFrom (sC.heap.objs.size + 1) scope.names (cloFrom X.env.cells scope.names [])) sC.heap.objs.size X.env)) (compPost (model X.prog X.w) X.A X.xe use Qf (.ref D) sC.heap.objs.size) { sC with heap := pushCells (sC.heap.push { cls := .type "dict", data := .dict #[] }) scope.names }
  generalize eE : compEnvC scope (cellsFrom (sC.heap.objs.size + 1) scope.names (cloFrom X.env.cells scope.names [])) sC.heap.objs.size X.env = ce at IE rg rt rk rv ⊢
  have locs : ce.locals = sC.heap.objs.size := by subst eE; rfl
  generalize eH : upd HB D (.dK []) = HC at IC IE rg rt rk rv begun none_fp fpC
  generalize eF : ({ sC with heap := pushCells (sC.heap.push { cls := .type "dict", data := .dict #[] }) scope.names } : Shared) = sF at IE ⊢
  have tnF : tn 0 sF.heap := T.keep _ _ _ tnC fun b _ o e => by subst eF; exact pushCells_keeps _ _ _ _ (Heap.get?_push_of_some _ e)
  have fpIn : ∀ {σ' : L2.St} {H' : Hp} {s' : Shared}, Inv (X.blk sC HC scope ce fp) [] σ' H' s' → (∀ b ∈ fp, H' b = none) → ∀ b ∈ fp, FpOk (X.blk sC HC scope ce fp) [] H' b := fun I' hn b hb =>
    ⟨hn b hb, (I'.ok.exf b hb).1, I'.ok.exfs b hb, .inl hb, fun x c => (I'.ok.exf b hb).2 x c, fun p hp => absurd (show p ∈ ([] : List (Addr × Obj)) ++ [] from hp) (by simp)⟩
  have loop : codeAny (model X.prog X.w) X.A (.compLoop (.DictComp kx vx [⟨tg, iter, ifs, 0⟩] scope pos) 0 (.ref it) (.ref D) ce) (compPost (model X.prog X.w) X.A X.xe use Qf (.ref D) sC.heap.objs.size) sF := by
    refine compLoop_anyD (fun n s' => ∃ i H', Inv (X.blk sC HC scope ce fp) [] (wipe σ (own.map (·.2))) H' s' ∧ tn i s'.heap ∧ (∀ b ∈ fp, H' b = none) ∧ W i n H') (fun n sG hG => ?_) m0 ⟨0, HC, IE, tnF, none_fp, begun⟩
    obtain ⟨i, HG, IG, tnG, nG, wG⟩ := hG
    rcases turn i n HG wG with ⟨stop, fine⟩ | ⟨go, Nx, less, step⟩
    · refine thnF (T.done (X.blk sC HC scope ce fp) rfl rfl rfl calm i [] sG _ HG (fun _ _ => False) IG (fpIn IG nG) tnG stop) fun r sK ⟨hr, IK⟩ => ?_
      subst hr
      have IL : Inv X pins σ HG sK := IC.call' (ch := fp) IK.os IK.base IK.hok IK.bare fun b hb => ⟨(fpC b hb).1.2.2.2.1, (fpC b hb).1.2.1, (fpC b hb).1.2.2.2.2.1, (fpC b hb).1.2.2.2.2.2⟩
      have free0 : HG ce.locals = none := IK.free
      obtain ⟨m, ns0, _⟩ := IK.loc
      have ns1 : sK.heap.Ns ce.locals m := ns0
      rw [locs] at free0 ns1
      exact done D sC.heap.objs.size sK m HG IL fine ns1 (IC.fpOk (Nat.le_refl _) free0)
    · refine thnF (T.item (X.blk sC HC scope ce fp) rfl rfl rfl calm i [] sG _ HG (fun _ _ => False) IG (fpIn IG nG) tnG go) fun r sK ⟨u, hr, hK⟩ => ?_
      subst hr
      refine thnF hK fun _ sL ⟨x, HL, IL, rL, yL, tnL, nL⟩ => ?_
      have IP := IL.pinned (fpIn IL nL) (T.obj _ _ tnL)
      refine thnF (rg.run _ sL _ HL x u _ IP rL (step x HL yL)) fun _ sM ⟨σM, HM, IM, wM, hM⟩ => thnF (rt.run _ sM σM HM _ IM hM) fun b sN ⟨HN, IN, hN⟩ => ?_
      have ends : ∀ {s' : Shared} {H' : Hp}, Inv (X.blk sC HC scope ce fp) ([] ++ pinsAt fp sL.heap) σM H' s' → Nx H' → ∃ m, m < n ∧ ∃ i H', Inv (X.blk sC HC scope ce fp) [] (wipe σ (own.map (·.2))) H' s' ∧ tn i s'.heap ∧ (∀ b ∈ fp, H' b = none) ∧ W i m H' := fun {s' H'} I' nx => by
        obtain ⟨m', hm, w'⟩ := less H' nx
        have pinned : ∀ b ∈ fp, ∀ o, sL.heap.get? b = some o → s'.heap.get? b = some o ∧ H' b = none := fun b hb o e => by
          have z := I'.pin (b, o) (List.mem_append_right _ (List.mem_append_right _ (mem_pinsAt hb e)))
          exact ⟨z.1, z.2.1⟩
        have len : (wipe σ (own.map (·.2))).length = σM.length := (congrArg List.length wM).symm.trans (wipe_length _ _)
        refine ⟨m', hm, i + 1, H', (I'.unpinned (pins := [])).weak len (fun j v e => (wipe_some (wM ▸ e)).1), T.keep _ _ _ tnL fun b hb o e => (pinned b hb o e).1, fun b hb => ?_, w'⟩
        obtain ⟨o, e, _⟩ := T.obj _ _ tnL b hb
        exact (pinned b hb o e).2
      match b, hN with
      | false, hN => exact ends IN hN
      | true, hN =>
        refine thnF (rk.run _ sN σM HN _ IN hN) fun _ sO ⟨yk, HO, IO, rO, hO⟩ => thnF (rv.run _ sO σM HO _ IO hO) fun _ sP ⟨yv, HP, IP, rP, ks, k, B, du, a1, a2, a3, a4, a5, a6, a7, a8, nx⟩ => ?_
        exact put_ok (X := X.blk sC HC scope ce fp) (A := X.A) hu IP a1 a2 a3 a4 a5 a6 a7 a8 rO rP fun sQ IQ => ends IQ nx
  exact codeAny_compStart_dict loop (T.self X.A 0 _ _ _ tnF loop)
theorem pe_dcN {kx vx tg iter : Expr} {ifs : List Expr} {scope : Scope} {own : List (Str × Nat)} {pos : Pos} {wi : TI} {g : TG} {tt : TT} {tk tv : TE} (hu : X.A.units + 8 < cLine) (calm : X.calm = true) (nod : X.N.Nodup) (pi : PI X tg iter wi) (blk : BlkOk X.N X.env.scope scope own)
    (qg : ∀ (s : Shared) (H : Hp) (C : Addr) (cl : List (Str × Addr)) (fp : List Addr), PG (X.blk s H scope (compEnvC scope cl C X.env) fp) tg g)
    (qt : ∀ (s : Shared) (H : Hp) (C : Addr) (cl : List (Str × Addr)) (fp : List Addr), PTs (X.blk s H scope (compEnvC scope cl C X.env) fp) ifs tt)
    (qk : ∀ (s : Shared) (H : Hp) (C : Addr) (cl : List (Str × Addr)) (fp : List Addr), PE (X.blk s H scope (compEnvC scope cl C X.env) fp) kx tk)
    (qv : ∀ (s : Shared) (H : Hp) (C : Addr) (cl : List (Str × Addr)) (fp : List Addr), PE (X.blk s H scope (compEnvC scope cl C X.env) fp) vx tv) (fold : ∀ x, foldedSetIterable iter X.env x = pure x := by intro _; rfl) :
    PE X (.DictComp kx vx [⟨tg, iter, ifs, 0⟩] scope pos) (tDcN X.w wi g tt tk tv (own.map (·.2))) := by
  constructor
  intro pins sA σ H Q I0 h
  rw [arm_eval_DictComp]
  refine dcn_core hu calm nod I0 pi blk qg qt qk qv fold h fun D C s' m H' I' q ns fr => ⟨m, ns, fun h'' sb => ⟨.ref D, H', ?_, rfl, q⟩⟩
  exact I'.turned (t' := s'.toks) (fun b o hb e => (sb.2 b hb).trans e) fr.1 fr.2.1 fr.2.2.2.1 fr.2.2.2.2.1 fr.2.2.2.2.2
/-- x = {..}, x a plain local -/
theorem ps_setDcN {i : Nat} {y : Str} {py : Pos} {kx vx tg iter : Expr} {ifs : List Expr} {scope : Scope} {own : List (Str × Nat)} {pos spos : Pos} {wi : TI} {g : TG} {tt : TT} {tk tv : TE} (hu : X.A.units + 8 < cLine) (calm : X.calm = true) (nod : X.N.Nodup) (hy : X.N[i]? = some y) (loc : X.env.scope.names.lookup y = some .local)
    (swap : swapsWith (.DictComp kx vx [⟨tg, iter, ifs, 0⟩] scope pos) (some (.Name y py)) spos.line X.env = pure true) (pi : PI X tg iter wi) (blk : BlkOk X.N X.env.scope scope own)
    (qg : ∀ (s : Shared) (H : Hp) (C : Addr) (cl : List (Str × Addr)) (fp : List Addr), PG (X.blk s H scope (compEnvC scope cl C X.env) fp) tg g)
    (qt : ∀ (s : Shared) (H : Hp) (C : Addr) (cl : List (Str × Addr)) (fp : List Addr), PTs (X.blk s H scope (compEnvC scope cl C X.env) fp) ifs tt)
    (qk : ∀ (s : Shared) (H : Hp) (C : Addr) (cl : List (Str × Addr)) (fp : List Addr), PE (X.blk s H scope (compEnvC scope cl C X.env) fp) kx tk)
    (qv : ∀ (s : Shared) (H : Hp) (C : Addr) (cl : List (Str × Addr)) (fp : List Addr), PE (X.blk s H scope (compEnvC scope cl C X.env) fp) vx tv) (fold : ∀ x, foldedSetIterable iter X.env x = pure x := by intro _; rfl) :
    PS X (.Assign [.Name y py] (.DictComp kx vx [⟨tg, iter, ifs, 0⟩] scope pos) spos) (tAsg (tDcN X.w wi g tt tk tv (own.map (·.2))) (gName i)) := by
  constructor
  intro pins sA σ H D I0 h
  rw [exec_Assign_Name_used _ _ _ _ swap]
  refine wpAny_bind (wpAny_standAt (wpAny_bind ?_))
  have h2 : tDcN X.w wi g tt tk tv (own.map (·.2)) σ H (fun x H1 => gName i x σ H1 D.nx) := h
  refine wpAny_bind (thn (dcn_core (Qf := fun _ s' => SP X pins D .next s') (use := some (assign (.Name y py) X.env)) (pos' := firstIterPos [⟨tg, iter, ifs, 0⟩] pos) hu calm nod I0 pi blk qg qt qk qv fold h2 fun L C s' m H' I' q ns fr => ?_) fun _ s' hq => wpAny_pure (wpAny_pure hq))
  show wpAny _ _ (assign (.Name y py) X.env (.ref L)) _ _ _
  refine wpAny_assign_Name (store_ok2 (v := V.ref L) I' nod hy (.inl loc) rfl (fun s2 I2 ⟨a, sb, ha⟩ => ?_) (.inr loc))
  have ne : C ≠ a := ha.elim (fun z => by rw [z]; exact fr.2.1) fun z e => fr.2.2.2.2.1 y a z e.symm
  exact ⟨m, ns.sameBut sb ne, fun h3 sb3 => ⟨_, H', I2.turned (t' := s2.toks) (fun b o hb e => (sb3.2 b hb).trans e) fr.1 fr.2.1 fr.2.2.2.1 fr.2.2.2.2.1 fr.2.2.2.2.2, q⟩⟩
end
end Dl
set_option maxHeartbeats 1000000
namespace Dl
open PySem PySem.Spec PyProof.Rows L2 Evl RZ Dn Dm
/-- an expression that keeps all, its value having a property -/
def EvV (te : TE) (σ : L2.St) (B : Hp) (R : Hp → V → Prop) : Prop := ∀ H1, Ex B H1 → ∀ Q : VK, (∀ v H2, Ex H1 H2 → R (gr B H1 H2) v → Q v H2) → te σ H1 Q
theorem gr_deep {B H1 H2 Hc H3 H4 : Hp} {D : Addr} (e2 : Ex H1 H2) (ec : Ex H2 Hc) (e3 : Ex Hc H3) (e4 : Ex H3 H4) (hD : H2 D = none) (hc : Hc D ≠ none) {b : Addr} {o : HO} (h : gr (gr (gr B H1 H2) Hc H3) H3 H4 b = some o) (hB : B D = none) : b ≠ D ∧ gr B H1 H4 b = some o := by
  have hD1 : H1 D = none := fresh_back e2 hD
  have up : ∀ {x : HO}, Hc b = some x → H3 b = some x := fun z => e3 b _ z
  unfold gr at h
  cases q3 : H3 b with
  | none =>
    simp only [q3] at h
    have qc : Hc b = none := fresh_back e3 q3
    have nb : b ≠ D := fun z => hc (z ▸ qc)
    refine ⟨nb, ?_⟩
    unfold gr
    rw [fresh_back ((e2.trans ec).trans e3) q3]
    exact h
  | some u3 =>
    simp only [q3] at h
    cases qc : Hc b with
    | none =>
      simp only [qc] at h
      have nb : b ≠ D := fun z => hc (z ▸ qc)
      refine ⟨nb, ?_⟩
      unfold gr
      rw [fresh_back (e2.trans ec) qc]
      exact e4 b o (q3.trans h)
    | some uc =>
      simp only [qc] at h
      cases q1 : H1 b with
      | none =>
        simp only [q1] at h
        have nb : b ≠ D := fun z => by rw [z, hD] at h; cases h
        refine ⟨nb, ?_⟩
        unfold gr
        rw [q1]
        exact e4 b o (e3 b o (ec b o h))
      | some u1 =>
        simp only [q1] at h
        have nb : b ≠ D := fun z => by rw [z, hB] at h; cases h
        refine ⟨nb, ?_⟩
        unfold gr
        rw [q1]
        exact h
/-- a dict with just these keys -/
def KeyD (w : World) (keys : List NestedKey) (H : Hp) (v : V) : Prop := ∃ a ks, v = .ref a ∧ DkAt w H a ks ∧ KeysAt H ks ∧ ks.map (·.1) = keys ∧ keys.Nodup ∧ keys.length ≤ 50000
theorem mn_key {w : World} {keys : List NestedKey} : Mn (KeyD w keys) := fun H H' v e ⟨a, ks, h1, h2, h3, h4⟩ => ⟨a, ks, h1, h2.ex e, h3.ex e, h4⟩
section
variable {w : World} {σ : L2.St} {B Hc : Hp} {ds : List PyData} {wi : TI} {g : TG} {tk tv te : TE} {vs : List Nat} {tz : TS} {D : Ends}
theorem q_asgV {i : Nat} {R : Hp → V → Prop} (c : Ex B Hc) (h : EvV te σ B R) (k : ∀ v Hn, Ex Hc Hn → R (gr B Hc Hn) v → tz D (σ.set i (some v)) Hn) : tSeq (tAsg te (gName i)) tz D σ Hc := h Hc c _ k
theorem ev_dc (kd : PyData → PyData) (κ : PyData → NestedKey) (hi : EvI wi σ B ds) (hz : ds.length ≤ 50000)
    (hb : ∀ d x H', d ∈ ds → Ex B H' → Tp H' x d → ∃ σ2, (∀ (Hx : Hp) (k : L2.St → Hp → Prop), Ex H' Hx → k σ2 Hx → g x (wipe σ vs) Hx k) ∧ wipe σ2 vs = wipe σ vs ∧ EvD tk σ2 H' (kd d) ∧ nk (kd d) = some (κ d) ∧ (κ d).depth ≤ 8 ∧ ∃ dv, EvD tv σ2 H' dv) :
    EvV (tDcN w wi g tYes tk tv vs) σ B (KeyD w (onceK (ds.map κ))) := fun H1 e Q q => hi H1 e _ fun J H2 e2 hJ D hD => by
  have hD1 : H1 D = none := fresh_back e2 hD
  have hDB : B D = none := fresh_back e hD1
  refine ⟨fun i m Hc => m = ds.length - i ∧ i ≤ ds.length ∧ Ex H2 Hc ∧ ∃ ks, DkAt w Hc D ks ∧ KeysAt (but (gr B H1 Hc) [D]) ks ∧ ks.map (·.1) = onceK ((ds.take i).map κ), ⟨ds.length, rfl, Nat.zero_le _, Ex.new hD, [], .inr ⟨rfl, upd_same⟩, (fun p hp => nomatch hp), rfl⟩, ?_⟩
  rintro i m Hc ⟨rfl, hil, ec, ks, hk1, hk2, hk3⟩
  have eB : Ex (gr B H1 H2) Hc := (gr_sub e e2).trans ec
  by_cases hlt : i < ds.length
  · refine .inr ⟨hJ.go i Hc hlt eB, fun Hn => i + 1 ≤ ds.length ∧ Ex H2 Hn ∧ ∃ ks, DkAt w Hn D ks ∧ KeysAt (but (gr B H1 Hn) [D]) ks ∧ ks.map (·.1) = onceK ((ds.take (i + 1)).map κ), fun Hn hn => ⟨ds.length - (i + 1), by omega, rfl, hn.1, hn.2⟩, fun x H3 hy => ?_⟩
    obtain ⟨e3, d, hd, hx⟩ := hJ.yld i Hc x H3 hlt eB hy
    have hm : d ∈ ds := List.mem_of_getElem? hd
    obtain ⟨σ2, b1, b2, b3, b4, b5, dv, b6⟩ := hb d x _ hm ((gr_ex e).trans (gr_ex eB)) hx
    have e4 : Ex (gr (gr B H1 H2) Hc H3) H3 := gr_sub eB e3
    refine b1 H3 _ e4 ⟨b2, ?_⟩
    show tk σ2 H3 _
    refine b3 H3 e4 _ fun y H4 e5 ty => b6 H4 (e4.trans e5) _ fun z H5 e6 _ => ?_
    have c35 : Ex Hc H5 := (e3.trans e5).trans e6
    have ones : onceK ((ds.take (i + 1)).map κ) = addK (onceK ((ds.take i).map κ)) (κ d) := by
      rw [List.map_take, List.map_take]
      exact onceK_take (by rw [List.getElem?_map, hd]; rfl)
    have nodup : (ks.map (·.1)).Nodup := by rw [hk3]; exact onceK_nodup _
    have klen : ks.length ≤ i := by
      have h1 := congrArg List.length hk3
      have h2 := onceK_len ((ds.take i).map κ)
      rw [List.length_map] at h1
      rw [List.length_map, List.length_take] at h2
      omega
    have mb : Ex (but (gr B H1 Hc) [D]) (but (gr B H1 H5) [D]) := fun b o h => by
      by_cases nn : b ∈ [D]
      · rw [but_in nn] at h; cases h
      · rw [but_at nn] at h ⊢
        exact gr_l c35 b o h
    have ty5 : Tp (but (gr B H1 H5) [D]) y (kd d) := Tp.ex (fun b o h => by
      obtain ⟨n1, n2⟩ := gr_deep e2 ec e3 e5 hD hk1.some h hDB
      rw [but_at fun z => n1 (List.mem_singleton.mp z)]
      exact gr_l e6 b o n2) _ _ ty
    refine ⟨ks, κ d, but (gr B H1 H5) [D], kd d, hk1.ex c35, but_ex.trans (gr_sub e ((e2.trans ec).trans c35)), ty5, b4, b5, hk2.ex mb, nodup, by omega, hlt, Ex.mut (ec.trans c35) hD, putN ks (κ d) y z, .inl upd_same, (putN_at (hk2.ex mb) ty5 b4 b5).ex fun b o h => ?_, by rw [putN_keys, hk3, ones]⟩
    by_cases nn : b ∈ [D]
    · rw [but_in nn] at h; cases h
    · rw [but_at nn] at h ⊢
      have nb : b ≠ D := fun z => nn (by rw [z]; exact List.mem_singleton.mpr rfl)
      unfold gr at h ⊢
      cases p : H1 b with
      | none => rw [p] at h; rw [upd_ne nb]; exact h
      | some u => rw [p] at h; exact h
  · have ei : i = ds.length := by omega
    subst ei
    rw [List.take_length] at hk3
    refine .inl ⟨hJ.stop Hc eB, q _ Hc (e2.trans ec) ⟨D, ks, rfl, ?_, hk2.ex but_ex, hk3, onceK_nodup _, Nat.le_trans (onceK_len _) (by rw [List.length_map]; exact hz)⟩⟩
    rcases hk1 with h | ⟨h1, h⟩
    · exact .inl (gr_new hD1 h)
    · exact .inr ⟨h1, gr_new hD1 h⟩
theorem ed_inN {tx : TE} {i : Nat} {v : V} {keys : List NestedKey} {du : PyData} {k : NestedKey} (h : EvD tx σ B du) (hi : σ[i]? = some (some v)) (hv : KeyD w keys B v) (hk : nk du = some k) (hd : k.depth ≤ 8) : EvD (tOp (rInN w false) tx (tVar i)) σ B (.bool (decide (k ∈ keys))) := fun H1 e Q q =>
  h H1 e _ fun x H2 e2 tx => by
    obtain ⟨a, ks, rfl, h1, h2, h3, h4, _⟩ := id hv
    have eb : Ex (gr B H1 H2) H2 := gr_sub e e2
    refine ⟨_, hi, a, ks, gr B H1 H2, du, k, rfl, h1.ex (e.trans e2), eb, tx, hk, hd, h2.ex (gr_ex e), by rw [h3]; exact h4, ?_⟩
    rw [h3]
    have z : (false != decide (k ∈ keys)) = decide (k ∈ keys) := by cases decide (k ∈ keys) <;> rfl
    rw [z]
    exact q _ H2 e2 (.bl _)
theorem ed_lenK {i : Nat} {v : V} {keys : List NestedKey} (hi : σ[i]? = some (some v)) (hv : KeyD w keys B v) : EvD (tCB (rLenD w) (tCons (tVar i) tNil)) σ B (.int keys.length) := fun H1 e Q q => by
  obtain ⟨a, ks, rfl, h1, h2, h3, h4, _⟩ := id hv
  refine ⟨_, hi, a, ks, rfl, h1.ex e, ?_⟩
  have z : ks.length = keys.length := by rw [← h3, List.length_map]
  rw [z]
  exact q _ H1 (Ex.refl H1) (.int _)
end
end Dl
namespace K50
open PySem PySem.W PySem.Spec PyProof.Rows L2 LamX NdefX Evl RZ Dl Dn Dm Lz K0 Mx Ns ClX
/-! ### keys of plain data -/
def kN (d : PyData) : NestedKey := (nk d).getD .none
mutual
theorem nk_pln : ∀ d : PyData, pln d = true → nk d = some (kN d) ∧ (kN d).depth = d.depth
  | .int i, _ => ⟨rfl, rfl⟩
  | .str s, _ => ⟨rfl, rfl⟩
  | .tuple ds, h => by
    obtain ⟨ks, h1, h2⟩ := nkAll_pln ds (pln_tup h)
    have e : nk (.tuple ds) = some (.tup ks) := by simp [nk, h1]
    have e2 : kN (.tuple ds) = .tup ks := by unfold kN; rw [e]; rfl
    refine ⟨by rw [e2]; exact e, ?_⟩
    rw [e2]
    show NestedKey.depthAll ks + 1 = PyData.depthAll ds + 1
    rw [h2]
  | .none, h => by simp [pln] at h
  | .bool _, h => by simp [pln] at h
  | .list _, h => by simp [pln] at h
  | .dict _, h => by simp [pln] at h
theorem nkAll_pln : ∀ ds : List PyData, plnAll ds = true → ∃ ks, nkAll ds = some ks ∧ NestedKey.depthAll ks = PyData.depthAll ds
  | [], _ => ⟨[], rfl, rfl⟩
  | d :: ds, h => by
    obtain ⟨a, b⟩ := nk_pln d (plnAll_cons h).1
    obtain ⟨ks, c, e⟩ := nkAll_pln ds (plnAll_cons h).2
    refine ⟨kN d :: ks, by simp [nkAll, a, c], ?_⟩
    show max (kN d).depth (NestedKey.depthAll ks) = max d.depth (PyData.depthAll ds)
    rw [b, e]
end
mutual
theorem nk_inj : ∀ (x y : PyData) (k : NestedKey), pln x = true → pln y = true → nk x = some k → nk y = some k → x = y
  | .int i, y, k, _, hy, e, e2 => by
    cases y <;> simp [pln] at hy <;> simp [nk] at e e2
    · rw [← e] at e2; injection e2 with e2; rw [e2]
    · rw [← e] at e2; cases e2
    · obtain ⟨ks, _, e2⟩ := e2; rw [← e] at e2; cases e2
  | .str i, y, k, _, hy, e, e2 => by
    cases y <;> simp [pln] at hy <;> simp [nk] at e e2
    · rw [← e] at e2; cases e2
    · rw [← e] at e2; injection e2 with e2; rw [e2]
    · obtain ⟨ks, _, e2⟩ := e2; rw [← e] at e2; cases e2
  | .tuple xs, y, k, hx, hy, e, e2 => by
    cases y with
    | tuple ys =>
      simp [nk] at e e2
      obtain ⟨ks, h1, h2⟩ := e
      obtain ⟨ls, h3, h4⟩ := e2
      rw [← h4] at h2
      injection h2 with h2
      subst h2
      rw [nkAll_inj xs ys ks (pln_tup hx) (pln_tup hy) h1 h3]
    | int j => simp [nk] at e e2; obtain ⟨ks, _, e⟩ := e; rw [← e2] at e; cases e
    | str j => simp [nk] at e e2; obtain ⟨ks, _, e⟩ := e; rw [← e2] at e; cases e
    | _ => simp [pln] at hy
  | .none, _, _, h, _, _, _ => by simp [pln] at h
  | .bool _, _, _, h, _, _, _ => by simp [pln] at h
  | .list _, _, _, h, _, _, _ => by simp [pln] at h
  | .dict _, _, _, h, _, _, _ => by simp [pln] at h
theorem nkAll_inj : ∀ (xs ys : List PyData) (ks : List NestedKey), plnAll xs = true → plnAll ys = true → nkAll xs = some ks → nkAll ys = some ks → xs = ys
  | [], ys, ks, _, _, e, e2 => by
    simp [nkAll] at e
    subst e
    cases ys with
    | nil => rfl
    | cons y ys => simp only [nkAll] at e2; split at e2 <;> simp at e2
  | x :: xs, ys, ks, hx, hy, e, e2 => by
    cases ys with
    | nil =>
      simp [nkAll] at e2
      subst e2
      simp only [nkAll] at e
      split at e <;> simp at e
    | cons y ys =>
      simp only [nkAll] at e e2
      split at e
      · rename_i k1 ks1 a1 a2
        split at e2
        · rename_i l1 ls1 b1 b2
          have e3 := Option.some.inj e
          have e4 := Option.some.inj e2
          rw [← e4] at e3
          injection e3 with e3 e5
          subst e3 e5
          rw [nk_inj x y _ (plnAll_cons hx).1 (plnAll_cons hy).1 a1 b1, nkAll_inj xs ys _ (plnAll_cons hx).2 (plnAll_cons hy).2 a2 b2]
        · cases e2
      · cases e
end
theorem kN_inj {x y : PyData} (hx : pln x = true) (hy : pln y = true) (e : kN x = kN y) : x = y := nk_inj x y (kN x) hx hy (nk_pln x hx).1 (by rw [e]; exact (nk_pln y hy).1)
theorem once_full {ks : List NestedKey} : (onceK ks).length = ks.length ↔ ks.Nodup := by
  constructor
  · intro h
    have key : ∀ (ks acc : List NestedKey), (ks.foldl addK acc).length ≤ acc.length + ks.length := by
      intro ks
      induction ks with
      | nil => intro acc; exact Nat.le_refl _
      | cons k ks ih =>
        intro acc
        have h1 := ih (addK acc k)
        have h2 : (addK acc k).length ≤ acc.length + 1 := by
          unfold addK
          split
          · omega
          · rw [List.length_append]; exact Nat.le_refl _
        rw [List.foldl_cons, List.length_cons]
        omega
    have go : ∀ (ks acc : List NestedKey), (ks.foldl addK acc).length = acc.length + ks.length → ks.Nodup ∧ ∀ k ∈ ks, k ∉ acc := by
      intro ks
      induction ks with
      | nil => intro acc _; exact ⟨List.nodup_nil, fun k hk => nomatch hk⟩
      | cons k ks ih =>
        intro acc h
        rw [List.foldl_cons, List.length_cons] at h
        have h1 := key ks (addK acc k)
        have hk : k ∉ acc := fun z => by
          unfold addK at h h1
          rw [if_pos z] at h h1
          omega
        have e : addK acc k = acc ++ [k] := by unfold addK; rw [if_neg hk]
        rw [e] at h
        obtain ⟨n1, n2⟩ := ih (acc ++ [k]) (by rw [h, List.length_append]; simp; omega)
        refine ⟨List.nodup_cons.mpr ⟨fun z => n2 k z (List.mem_append_right _ (List.mem_singleton.mpr rfl)), n1⟩, fun x hx => ?_⟩
        rcases List.mem_cons.mp hx with rfl | hx
        · exact hk
        · exact fun z => n2 x hx (List.mem_append_left _ z)
    exact (go ks [] (by simpa [onceK] using h)).1
  · intro h
    have e : onceK ks = ks := by
      have go : ∀ (ks acc : List NestedKey), ks.Nodup → (∀ k ∈ ks, k ∉ acc) → ks.foldl addK acc = acc ++ ks := by
        intro ks
        induction ks with
        | nil => intro acc _ _; simp
        | cons k ks ih =>
          intro acc hn hd
          obtain ⟨n1, n2⟩ := List.nodup_cons.mp hn
          have e : addK acc k = acc ++ [k] := by unfold addK; rw [if_neg (hd k List.mem_cons_self)]
          rw [List.foldl_cons, e, ih (acc ++ [k]) n2 fun x hx z => ?_]
          · simp
          · rcases List.mem_append.mp z with z | z
            · exact hd x (List.mem_cons_of_mem _ hx) z
            · rw [List.mem_singleton.mp z] at hx
              exact n1 hx
      simpa [onceK] using go ks [] h (fun k _ z => nomatch z)
    rw [e]
end K50
set_option maxHeartbeats 1000000
namespace K50
open PySem PySem.W PySem.Spec PyProof.Rows L2 LamX NdefX Evl RZ Dl Dn Dm Lz K0 Mx Ns ClX
open scoped Classical
abbrev sTwoWay : Stmt := top 21
/-! ### nets that are right -/
structure okV (N : NetV) : Prop where
  ne : N.ss ≠ []
  l1 : N.ss.length ≤ 400
  wd : ∀ w ∈ N.ss, Wd w
  l2 : N.rs.length ≤ 1000
  ok : ∀ r ∈ N.rs, okR N.ss.length r
def okPre (C : Addr) : NetV → Hp → List V → Prop := fun N H vs => okV N ∧ ∃ v, vs = [v] ∧ NetAt C N H v
def flipR (r : Rd) : Rd := (r.2.1, r.1, r.2.2.2, r.2.2.1)
def endR (r : Rd) : Int × PyData := (r.1, r.2.2.1)
noncomputable def twoB (rs : List Rd) : Bool := decide ((rs.map endR).Nodup) && rs.all fun r => decide (flipR r ∈ rs)
def endK (r : Rd) : PyData := .tuple [.int r.1, kW r.2.2.1]
theorem rkD_pln {n : Nat} {r : Rd} (h : okR n r) : pln (rkD r) = true ∧ (rkD r).depth ≤ 2 := by
  have h1 := kW_pln h.o
  have h2 := kW_pln h.i
  refine ⟨?_, ?_⟩
  · show (true && (true && (pln (kW r.2.2.1) && (pln (kW r.2.2.2) && true)))) = true
    rw [h1.1, h2.1]
    rfl
  · have := h1.2.2
    have := h2.2.2
    show max 0 (max 0 (max (kW r.2.2.1).depth (max (kW r.2.2.2).depth 0))) + 1 ≤ 2
    omega
theorem endK_pln {n : Nat} {r : Rd} (h : okR n r) : pln (endK r) = true ∧ (endK r).depth ≤ 2 := by
  have h1 := kW_pln h.o
  refine ⟨?_, ?_⟩
  · show (true && (pln (kW r.2.2.1) && true)) = true
    rw [h1.1]
    rfl
  · have := h1.2.2
    show max 0 (max (kW r.2.2.1).depth 0) + 1 ≤ 2
    omega
theorem rkD_inj {n m : Nat} {r t : Rd} (hr : okR n r) (ht : okR m t) (e : rkD r = rkD t) : r = t := by
  obtain ⟨a, b, o, i⟩ := r
  obtain ⟨a', b', o', i'⟩ := t
  simp [rkD] at e
  obtain ⟨e1, e2, e3, e4⟩ := e
  have e3 := kW_inj hr.o ht.o e3
  have e4 := kW_inj hr.i ht.i e4
  simp at e3 e4
  subst e1 e2 e3 e4
  rfl
theorem endK_inj {n m : Nat} {r t : Rd} (hr : okR n r) (ht : okR m t) : endK r = endK t ↔ endR r = endR t := by
  constructor
  · intro e
    simp [endK] at e
    unfold endR
    rw [e.1, kW_inj hr.o ht.o e.2]
  · intro e
    unfold endR at e
    injection e with e1 e2
    unfold endK
    rw [e1, e2]
theorem okR_flip {n : Nat} {r : Rd} (h : okR n r) : okR n (flipR r) := ⟨h.b0, h.b1, h.a0, h.a1, h.i, h.o⟩
theorem nodup_by {α β γ : Type} {f : α → β} {g : α → γ} {l : List α} (h : ∀ a ∈ l, ∀ b ∈ l, f a = f b ↔ g a = g b) : (l.map f).Nodup ↔ (l.map g).Nodup := by
  unfold List.Nodup
  rw [List.pairwise_map, List.pairwise_map]
  exact ⟨fun p => p.imp_of_mem fun {a b} ha hb n e => n ((h a ha b hb).mpr e), fun p => p.imp_of_mem fun {a b} ha hb n e => n ((h a ha b hb).mp e)⟩
theorem ends_once {n : Nat} {rs : List Rd} (h : ∀ r ∈ rs, okR n r) : decide (((onceK (rs.map fun r => kN (endK r))).length : Int) < (rs.length : Int)) = !decide ((rs.map endR).Nodup) := by
  have e : (rs.map fun r => kN (endK r)).Nodup ↔ (rs.map endR).Nodup := nodup_by fun a ha b hb => ⟨fun z => (endK_inj (h a ha) (h b hb)).mp (kN_inj (endK_pln (h a ha)).1 (endK_pln (h b hb)).1 z), fun z => congrArg kN ((endK_inj (h a ha) (h b hb)).mpr z)⟩
  have l := onceK_len (rs.map fun r => kN (endK r))
  rw [List.length_map] at l
  have f := once_full (ks := rs.map fun r => kN (endK r))
  rw [List.length_map, e] at f
  by_cases hn : (rs.map endR).Nodup
  · rw [decide_eq_true hn, f.mpr hn]
    exact decide_eq_false (by omega)
  · rw [decide_eq_false hn]
    refine decide_eq_true ?_
    have : (onceK (rs.map fun r => kN (endK r))).length ≠ rs.length := fun z => hn (f.mp z)
    omega
theorem known_iff {n : Nat} {rs : List Rd} (h : ∀ r ∈ rs, okR n r) {r : Rd} (hr : okR n r) : kN (rkD r) ∈ onceK (rs.map fun r => kN (rkD r)) ↔ r ∈ rs := by
  rw [onceK_mem, List.mem_map]
  constructor
  · rintro ⟨t, ht, e⟩
    rw [rkD_inj hr (h t ht) (kN_inj (rkD_pln hr).1 (rkD_pln (h t ht)).1 e.symm)]
    exact ht
  · exact fun z => ⟨r, z, rfl⟩
theorem known_in {n : Nat} {rs : List Rd} (h : ∀ r ∈ rs, okR n r) {r : Rd} (hr : okR n r) : decide (kN (rkD r) ∈ onceK (rs.map fun r => kN (rkD r))) = decide (r ∈ rs) := by
  refine decide_eq_decide.mpr ?_
  rw [onceK_mem, List.mem_map]
  constructor
  · rintro ⟨t, ht, e⟩
    rw [rkD_inj hr (h t ht) (kN_inj (rkD_pln hr).1 (rkD_pln (h t ht)).1 e.symm)]
    exact ht
  · exact fun z => ⟨r, z, rfl⟩
/-! ### is_two_way -/
abbrev nTW : List Str := ["net", "roads", "doors", "known", "one", "other", "out", "into", "road"]
theorem scTW : FnScope nTW ["net"] (defScope sTwoWay) := ⟨rfl, rfl, rfl, by decide +kernel, rfl, by decide +kernel, by decide +kernel⟩
theorem open4 {K : PySem.W.Frag} {B : Hp} {x : V} {a b c d : PyData} (hx : Tp B x (.tuple [a, b, c, d])) : ∃ v1 v2 v3 v4, Tp B v1 a ∧ Tp B v2 b ∧ Tp B v3 c ∧ Tp B v4 d ∧ ∀ {i j k l : Nat} {σ : L2.St} {Hx : Hp} {kk : L2.St → Hp → Prop}, Ex B Hx → kk ((((σ.set i (some v1)).set j (some v2)).set k (some v3)).set l (some v4)) Hx →
    gTup K 4 (gCons (gName i) (gCons (gName j) (gCons (gName k) (gCons (gName l) gNil)))) x σ Hx kk := by
  cases hx with
  | tup ha hs =>
    cases hs with
    | cons h1 hs =>
      cases hs with
      | cons h2 hs =>
        cases hs with
        | cons h3 hs =>
          cases hs with
          | cons h4 hs =>
            cases hs
            exact ⟨_, _, _, _, h1, h2, h3, h4, fun e h => ⟨_, _, rfl, st_of (e _ _ ha), rfl, _, _, rfl, _, _, rfl, _, _, rfl, _, _, rfl, rfl, h⟩⟩
def selE : PyData → PyData
  | .tuple [.int a, _, o, _] => .tuple [.int a, o]
  | d => d
def selF : PyData → PyData
  | .tuple [.int a, .int b, o, i] => .tuple [.int b, .int a, i, o]
  | d => d
section
variable {P : Program} {w : World} {K : PySem.W.Frag} {mg : Str → Option Value} {base : Heap} {C : Addr}
theorem ok_twoway {f : Addr} {fd : FuncData} (F : Fun K "is_two_way" "is_two_way" sTwoWay f fd) (B : Bl mg) (hC : NetK K C) (M : CallM P w K mg base 1 C "road_keys" ["self"] (spV 1 (netPre C) fun N => .list (N.rs.map rkD))) :
    FnOk P w K mg base CX0 2 f fd ["net"] (spV 1 (okPre C) fun N => .bool (twoB N.rs)) := by
  refine F.ok scTW (fun vs H Q E h => spV_len h) (fun cdv A outer s H vs Q E hr h => ?_)
  obtain ⟨fM, dM, oM, mM, bM⟩ := M
  have hu := Nat.lt_trans (Nat.lt_succ_self _) (roomG hr)
  refine ⟨_, pss_cons (ps_set (i := 1) scTW.nd rfl (Or.inl rfl) (pe_meth0 (pv 0) hC.cl mM oM hr bM .nil pass0))
    (pss_cons (ps_setDcN (i := 2) (own := [("one", 4), ("other", 5), ("out", 6), ("into", 7)]) (g := gTup K 4 (gCons (gName 4) (gCons (gName 5) (gCons (gName 6) (gCons (gName 7) gNil))))) (tt := tYes) (tk := tTup (tCons (tVar 4) (tCons (tVar 6) tNil))) (tv := tC (.bl true)) hu rfl scTW.nd rfl rfl rfl (pi_list (pv 1))
        (blkOk_by (own := [("one", 4), ("other", 5), ("out", 6), ("into", 7)]) (N := nTW) (sc := defScope sTwoWay) (by decide +kernel))
        (fun _ _ _ _ _ => pg_tup rfl (pgs_cons (pg_name (i := 4) scTW.nd rfl (Or.inl rfl)) (pgs_cons (pg_name (i := 5) scTW.nd rfl (Or.inl rfl)) (pgs_cons (pg_name (i := 6) scTW.nd rfl (Or.inl rfl)) (pgs_cons (pg_name (i := 7) scTW.nd rfl (Or.inl rfl)) pgs_nil)))))
        (fun _ _ _ _ _ => pts_nil) (fun _ _ _ _ _ => pe_tup (pa_cons (pv 4) (pa_cons (pv 6) pa_nil))) (fun _ _ _ _ _ => pe_bl))
    (pss_cons (ps_set (i := 3) scTW.nd rfl (Or.inr rfl) (pe_dcN (own := [("road", 8)]) (g := gName 8) (tt := tYes) (tk := tVar 8) (tv := tC (.bl true)) hu rfl scTW.nd (pi_list (pv 1))
        (blkOk_by (own := [("road", 8)]) (N := nTW) (sc := defScope sTwoWay) (by decide +kernel)) (fun _ _ _ _ _ => pg_name (i := 8) scTW.nd rfl (Or.inl rfl)) (fun _ _ _ _ _ => pts_nil) (fun _ _ _ _ _ => pv 8) (fun _ _ _ _ _ => pe_bl)))
    (pss_cons (ps_if (pt_cmpR op_lt (pe_callB cr_lenD (by rfl) B.len PySem.boot_len (pa_cons (pv 2) pa_nil)) (pe_callB call_len_seq (by rfl) B.len PySem.boot_len (pa_cons (pv 1) pa_nil)) (nomark _))
      (pss_one (ps_ret pe_bl)) pss_nil)
    (pss_one (ps_ret (pe_callB (cr_all rfl) (by rfl) B.all PyProof.Rows.boot_all (pa_cons
      (pe_lc (own := [("one", 4), ("other", 5), ("out", 6), ("into", 7)]) (g := gTup K 4 (gCons (gName 4) (gCons (gName 5) (gCons (gName 6) (gCons (gName 7) gNil))))) (tt := tYes) (te := tOp (rInN w false) (tTup (tCons (tVar 5) (tCons (tVar 4) (tCons (tVar 7) (tCons (tVar 6) tNil))))) (tVar 3)) rfl scTW.nd (pi_list (pv 1))
        (blkOk_by (own := [("one", 4), ("other", 5), ("out", 6), ("into", 7)]) (N := nTW) (sc := defScope sTwoWay) (by decide +kernel))
        (fun _ _ _ _ _ => pg_tup rfl (pgs_cons (pg_name (i := 4) scTW.nd rfl (Or.inl rfl)) (pgs_cons (pg_name (i := 5) scTW.nd rfl (Or.inl rfl)) (pgs_cons (pg_name (i := 6) scTW.nd rfl (Or.inl rfl)) (pgs_cons (pg_name (i := 7) scTW.nd rfl (Or.inl rfl)) pgs_nil)))))
        (fun _ _ _ _ _ => pts_nil) (fun _ _ _ _ _ => pe_cmpR (op_inN (roomS hr)) (pe_tup (pa_cons (pv 5) (pa_cons (pv 4) (pa_cons (pv 7) (pa_cons (pv 6) pa_nil))))) (pv 3) (by rfl))) pa_nil))))))), ?_⟩
  obtain ⟨Bb, N, e, hn, ⟨okN', v, rfl, hv⟩, q⟩ := h
  have okr := okN'.ok
  have s0 := Bs.start e
  have hl : (N.rs.map rkD).length ≤ 50000 := by rw [List.length_map]; have := okN'.l2; omega
  refine q_asgD s0.c (ed_meth (m := "road_keys") (g := fun N => .list (N.rs.map rkD)) (i := 0) rfl hv rfl) fun v1 H1 e1 t1 => ?_
  have b1 := s0.step e1
  refine q_asgV b1.c (ev_dc (w := w) selE (fun d => kN (selE d)) (ei_list (ed_var (i := 1) rfl t1)) hl fun d x H' hd e' hx => ?_) fun v2 H2 e2 k2 => ?_
  · obtain ⟨r, hr1, rfl⟩ := List.mem_map.mp hd
    obtain ⟨w1, w2, w3, w4, g1, g2, g3, g4, gg⟩ := open4 (K := K) hx
    exact ⟨_, fun Hx k ex hk => gg ex hk, rfl, ed_tup (es_cons (ed_var (i := 4) rfl g1) (es_cons (ed_var (i := 6) rfl g3) es_nil)) (show 2 ≤ 100000 by decide), (nk_pln _ (endK_pln (okr r hr1)).1).1, by
      show (kN (endK r)).depth ≤ 8
      rw [(nk_pln _ (endK_pln (okr r hr1)).1).2]
      exact Nat.le_trans (endK_pln (okr r hr1)).2 (by decide), _, ed_bl⟩
  · have b2 := b1.step e2
    have t12 := Tp.ex (gr_up (Hn := H2) b1.c) _ _ t1
    refine q_asgV b2.c (ev_dc (w := w) id (fun d => kN d) (ei_list (ed_var (i := 1) rfl t12)) hl fun d x H' hd e' hx => ?_) fun v3 H3 e3 k3 => ?_
    · obtain ⟨r, hr1, rfl⟩ := List.mem_map.mp hd
      exact ⟨_, fun Hx k ex hk => hk, rfl, ed_var (i := 8) rfl hx, (nk_pln _ (rkD_pln (okr r hr1)).1).1, by
        rw [(nk_pln _ (rkD_pln (okr r hr1)).1).2]
        exact Nat.le_trans (rkD_pln (okr r hr1)).2 (by decide), _, ed_bl⟩
    · have b3 := b2.step e3
      have t13 := Tp.ex (gr_up (Hn := H3) b2.c) _ _ t12
      have k23 := mn_key _ _ _ (gr_up (Hn := H3) b2.c) k2
      rw [List.map_map] at k23 k3
      have lenA := ends_once okr
      refine q_whenD b3.c (b := !decide ((N.rs.map endR).Nodup)) (et_is (et_D (ed_op (ed_lenK (i := 2) rfl k23) (ed_cb (es_cons (ed_var (i := 1) rfl t13) es_nil) (rc_lenL (K := K))) rd_I0b)) (by rw [List.length_map]; exact lenA)) (fun hb H4 e4 => ?_) (fun hb H4 e4 => ?_)
      · have b4 := b3.keep e4
        refine s_retD b4.c (d := .bool false) ed_bl fun v5 H5 e5 t5 => q v5 H5 (b4.a.trans e5) ?_
        have z : twoB N.rs = false := by
          unfold twoB
          rw [show decide ((N.rs.map endR).Nodup) = false by simpa using hb, Bool.false_and]
        show Tp _ _ (.bool (twoB N.rs))
        rw [z]
        exact Tp.ex (b4.step e5).d _ _ t5
      · have b4 := b3.keep e4
        have hn1 : decide ((N.rs.map endR).Nodup) = true := by simpa using hb
        refine s_retD b4.c (d := .bool (twoB N.rs)) (ed_is (ed_cb (ds := [.list ((N.rs.map fun r => decide (flipR r ∈ N.rs)).map PyData.bool)]) (es_cons (ed_is (ed_lc (fun _ => true) (fun d => .bool (decide (kN (selF d) ∈ onceK (N.rs.map fun r => kN (rkD r))))) (ei_list (ed_var (i := 1) rfl t13)) hl fun d x H' hd e' hx => ?_) ?_) es_nil) (rc_all (K := K))) ?_) fun v5 H5 e5 t5 => q v5 H5 (b4.a.trans e5) (Tp.ex (b4.step e5).d _ _ t5)
        · obtain ⟨r, hr1, rfl⟩ := List.mem_map.mp hd
          obtain ⟨w1, w2, w3, w4, g1, g2, g3, g4, gg⟩ := open4 (K := K) hx
          refine ⟨_, fun Hx k ex hk => gg ex hk, rfl, et_yes, fun _ => ?_⟩
          exact ed_inN (i := 3) (v := v3) (ed_tup (es_cons (ed_var (i := 5) rfl g2) (es_cons (ed_var (i := 4) rfl g1) (es_cons (ed_var (i := 7) rfl g4) (es_cons (ed_var (i := 6) rfl g3) es_nil)))) (show 4 ≤ 100000 by decide)) rfl (mn_key _ _ _ e' k3) (nk_pln (rkD (flipR r)) (rkD_pln (okR_flip (okr r hr1))).1).1 (by
            show (kN (rkD (flipR r))).depth ≤ 8
            rw [(nk_pln _ (rkD_pln (okR_flip (okr r hr1))).1).2]
            exact Nat.le_trans (rkD_pln (okR_flip (okr r hr1))).2 (by decide))
        · rw [Dl.filter_tt, List.map_map, List.map_map]
          refine congrArg PyData.list (List.map_congr_left fun r hr1 => ?_)
          show PyData.bool (decide (kN (rkD (flipR r)) ∈ _)) = PyData.bool (decide (flipR r ∈ N.rs))
          exact congrArg PyData.bool (decide_eq_decide.mpr (known_iff okr (okR_flip (okr r hr1))))
        · unfold twoB
          rw [hn1, Bool.true_and, List.all_map]
          rfl
end
end K50
set_option maxHeartbeats 1000000
namespace Dm
open PySem PySem.Spec PyProof.Rows L2 Evl RZ Dl
/-! ### walks over values that are no data -/
structure WalkX (J : It) (B : Hp) (n : Nat) (R : Nat → Hp → V → Prop) : Prop where
  go : ∀ i H', i < n → Ex B H' → J.go i H'
  stop : ∀ H', Ex B H' → J.stop n H'
  yld : ∀ i H' x H'', i < n → Ex B H' → J.yld i H' x H'' → Ex H' H'' ∧ R i (gr B H' H'') x
def EvIX (wi : TI) (σ : L2.St) (H : Hp) (n : Nat) (R : Nat → Hp → V → Prop) : Prop := ∀ H1, Ex H H1 → ∀ Rr : It → Hp → Prop, (∀ J H2, Ex H1 H2 → WalkX J (gr H H1 H2) n R → Rr J H2) → wi σ H1 Rr
section
variable {K : PySem.W.Frag} {σ : L2.St} {B Hc : Hp} {te : TE} {tb : TS} {g : TG} {wi : TI} {D : Ends} {n : Nat} {R : Nat → Hp → V → Prop} {ns : List V}
def LstV (ns : List V) (H : Hp) (v : V) : Prop := ∃ a, v = .ref a ∧ H a = some (.lst ns)
theorem mn_lst : Mn (LstV ns) := fun H H' v e ⟨a, h1, h2⟩ => ⟨a, h1, e _ _ h2⟩
theorem walk_lX {a : Addr} (h : B a = some (.lst ns)) : WalkX (Itl K a) B ns.length fun i _ x => ns[i]? = some x where
  go := fun i H' hi e => ⟨ns, ns[i], sq_of (e a _ h), by simp⟩
  stop := fun H' e => ⟨ns, sq_of (e a _ h), Nat.le_refl _⟩
  yld := fun i H' x H'' hi e y => by
    obtain ⟨e1, y⟩ := y
    subst e1
    exact ⟨Ex.refl _, y ns (sq_of (e a _ h))⟩
theorem walk_eX {a : Addr} (h : B a = some (.lst ns)) : WalkX (Ite K a) B ns.length fun i H x => ∃ T v, x = .ref T ∧ H T = some (.tup [.int (i : Int), v]) ∧ ns[i]? = some v where
  go := fun i H' hi e => ⟨ns, ns[i], sq_of (e a _ h), by simp⟩
  stop := fun H' e => ⟨ns, sq_of (e a _ h), Nat.le_refl _⟩
  yld := fun i H' x H'' hi e y => by
    obtain ⟨T, v, rfl, hT, rfl, y⟩ := y
    exact ⟨Ex.new hT, T, v, rfl, gr_upd hT, y ns (sq_of (e a _ h))⟩
theorem eix_list (h : EvV te σ B (LstV ns)) : EvIX (iList K te) σ B ns.length fun i _ x => ns[i]? = some x := fun H1 e Rr q => h H1 e _ fun v H2 e2 hv => by
  obtain ⟨a, rfl, ha⟩ := hv
  exact ⟨a, rfl, ⟨_, sq_of (gr_sub e e2 _ _ ha)⟩, q _ H2 e2 (walk_lX ha)⟩
theorem eix_enum {i : Nat} {v : V} (h0 : σ[i]? = some (some v)) (h : LstV ns B v) : EvIX (iEnum K (tCons (tVar i) tNil)) σ B ns.length fun i H x => ∃ T v, x = .ref T ∧ H T = some (.tup [.int (i : Int), v]) ∧ ns[i]? = some v := fun H1 e Rr q => by
  obtain ⟨a, rfl, ha⟩ := h
  exact ⟨.ref a, h0, a, ns, rfl, sq_of (e _ _ ha), q _ H1 (Ex.refl _) (walk_eX (gr_ex e _ _ ha))⟩
/-- for, over values -/
theorem s_forX (c : Ex B Hc) (hi : EvIX wi σ B n R) (Pv : Hp → Nat → L2.St → Hp → Prop)
    (h0 : ∀ Hn, Ex Hc Hn → Pv (gr B Hc Hn) 0 σ Hn)
    (hP : ∀ B0 i σ' H', Pv B0 i σ' H' → Ex B0 H')
    (hs : ∀ B0 i x σ' H' Hn, i < n → Pv B0 i σ' H' → Ex H' Hn → R i (gr B0 H' Hn) x → g x σ' Hn fun σ2 H2 => tb { D with nx := Pv B0 (i + 1), ct := Pv B0 (i + 1), bk := D.nx } σ2 H2)
    (hd : ∀ B0 σ' H', Pv B0 n σ' H' → D.nx σ' H') : tFor wi g tb D σ Hc := hi Hc c _ fun J Hn e hJ => by
  refine ⟨fun i m σ' H' => m = n - i ∧ i ≤ n ∧ Pv (gr B Hc Hn) i σ' H', ⟨n, rfl, Nat.zero_le _, h0 Hn e⟩, ?_⟩
  rintro i m σ' H' ⟨rfl, hil, p⟩
  have q := hP _ _ _ _ p
  by_cases hlt : i < n
  · refine .inr ⟨hJ.go i H' hlt q, Pv (gr B Hc Hn) (i + 1), fun σ2 H2 p' => ⟨n - (i + 1), by omega, rfl, hlt, p'⟩, fun x H'' y => ?_⟩
    obtain ⟨e3, hx⟩ := hJ.yld i H' x H'' hlt q y
    exact hs _ i x σ' H' H'' hlt p e3 hx
  · have ei : i = n := by omega
    subst ei
    exact .inl ⟨hJ.stop H' q, hd _ σ' H' p⟩
theorem evv_var {i : Nat} {v : V} {R : Hp → V → Prop} (h0 : σ[i]? = some (some v)) (m : Mn R) (h : R B v) : EvV (tVar i) σ B R := fun H1 e Q q => ⟨v, h0, q v H1 (Ex.refl _) (m _ _ v (gr_ex e) h)⟩
theorem s_retV {R : Hp → V → Prop} {te : TE} (c : Ex B Hc) (h : EvV te σ B R) (k : ∀ v Hn, Ex Hc Hn → R (gr B Hc Hn) v → D.rt v Hn) : tRet te D σ Hc := h Hc c _ k
/-- a def that keeps all: its arguments have a property, so has what is told -/
def spW (n : Nat) {α : Type} (pre : α → Hp → List V → Prop) (post : α → Hp → V → Prop) : Sp := fun vs H1 Q _ => ∃ (B : Hp) (a : α), Ex B H1 ∧ vs.length = n ∧ pre a B vs ∧ ∀ v H2, Ex H1 H2 → post a (gr B H1 H2) v → Q v H2
theorem spW_len {n : Nat} {α : Type} {pre : α → Hp → List V → Prop} {post : α → Hp → V → Prop} {vs : List V} {H : Hp} {Q : VK} {E : XK} (h : spW n pre post vs H Q E) : vs.length = n := by
  obtain ⟨_, _, _, h, _⟩ := h
  exact h
theorem ev_callW {ta : TA} {Rs : Hp → List V → Prop} {n : Nat} {α : Type} {pre : α → Hp → List V → Prop} {post : α → Hp → V → Prop} {E : XK} (a : α) (h : EvsV ta σ B Rs) (mp : Mn (post a)) (hf : ∀ H vs, Rs H vs → vs.length = n ∧ pre a H vs) : EvV (tCall (spW n pre post) [] E ta) σ B (post a) := fun H1 e Q q =>
  h H1 e _ fun vs H2 e2 dvs => by
    obtain ⟨h1, h2⟩ := hf _ vs dvs
    rw [List.append_nil]
    exact ⟨gr B H1 H2, a, gr_sub e e2, h1, h2, fun v H3 e3 g => q v H3 (e2.trans e3) (mp _ _ v (gr_gr e2 e3) g)⟩
end
end Dm
namespace K50
open PySem PySem.W PySem.Spec PyProof.Rows L2 LamX NdefX Evl RZ Dl Dn Dm Lz K0 Mx Ns ClX
abbrev sNeed : Stmt := top 34
abbrev sBeside : Stmt := top 35
abbrev sBackward : Stmt := top 36
/-! ### need_nets -/
def lstPre : List V → Hp → List V → Prop := fun ns H vs => ∃ v, vs = [v] ∧ LstV ns H v
/-- a list of nets -/
def NetsL (C : Addr) (Ts : List NetV) (ns : List V) (H : Hp) : Prop := Paired (fun v N => NetAt C N H v) ns Ts
theorem NetsL.ex {C : Addr} {H H' : Hp} (e : Ex H H') : ∀ {Ts : List NetV} {ns : List V}, NetsL C Ts ns H → NetsL C Ts ns H'
  | _, _, .nil => .nil
  | _, _, .cons h t => .cons (mn_net _ _ _ e h) (NetsL.ex e t)
theorem NetsL.get {C : Addr} {H : Hp} : ∀ {Ts : List NetV} {ns : List V} {i : Nat} {v : V}, NetsL C Ts ns H → ns[i]? = some v → ∃ N, Ts[i]? = some N ∧ NetAt C N H v
  | _, _, 0, v, .cons h t, e => ⟨_, rfl, by
    obtain rfl : _ = v := Option.some.inj e
    exact h⟩
  | _, _, i + 1, v, .cons h t, e => by
    obtain ⟨N, h1, h2⟩ := NetsL.get t (i := i) (v := v) (by simpa using e)
    exact ⟨N, by simpa using h1, h2⟩
  | _, _, _, _, .nil, e => by simp at e
def NetsV (C : Addr) (Ts : List NetV) (H : Hp) (v : V) : Prop := ∃ ns, LstV ns H v ∧ NetsL C Ts ns H
theorem mn_nets {C : Addr} {Ts : List NetV} : Mn (NetsV C Ts) := fun H H' v e ⟨ns, h1, h2⟩ => ⟨ns, mn_lst _ _ v e h1, h2.ex e⟩
def needPre (C : Addr) : List NetV → Hp → List V → Prop := fun Ts H vs => Ts ≠ [] ∧ Ts.length ≤ 1000 ∧ ∃ v, vs = [v] ∧ NetsV C Ts H v
abbrev nNeed : List Str := ["nets", "at", "net"]
theorem scNeed : FnScope nNeed ["nets"] (defScope sNeed) := ⟨rfl, rfl, rfl, by decide +kernel, rfl, by decide +kernel, by decide +kernel⟩
section
variable {P : Program} {w : World} {K : PySem.W.Frag} {mg : Str → Option Value} {base : Heap} {C : Addr}
theorem ok_rowV {f : Addr} {fd : FuncData} (F : Fun K "is_row" "is_row" sRow f fd) (B : Bl mg) : FnOk P w K mg base CX0 1 f fd ["thing"] (spV 1 lstPre fun _ => .bool true) := by
  refine F.ok scRow (fun vs H Q E h => spV_len h) (fun cdv A outer s H vs Q E hr h => ?_)
  refine ⟨_, pss_one (ps_ret (pe_callB call_isiT (by rfl) B.isinstance PyProof.Rows.boot_isinstance (pa_cons (pv 0) (pa_cons (pe_tup (pa_cons (pe_bltn (v := .ty "list") (u := .type "list") (by rfl) B.list (by decide +kernel) rfl) (pa_cons (pe_bltn (v := .ty "tuple") (u := .type "tuple") (by rfl) B.tuple (by decide +kernel) rfl) pa_nil))) pa_nil)))), ?_⟩
  obtain ⟨Bb, ns, e, hn, ⟨v, rfl, a, rfl, ha⟩, q⟩ := h
  exact ⟨.ref a, rfl, by show 2 ≤ sizeLine; decide, fun p hp => ⟨.ref a, p, _, _, _, true, rfl, upd_same, .cons (.ty _) (.cons (.ty _) .nil), .base (.lst ((Ex.new hp) _ _ (e _ _ ha))), rfl, q _ _ (Ex.new hp) (.bl true)⟩⟩
theorem ok_need {f : Addr} {fd : FuncData} (F : Fun K "need_nets" "need_nets" sNeed f fd) (B : Bl mg) (hC : NetK K C) (hI : C8.InsC K C) (hm : mg "Net" = some (.ref C)) (hk : PySem.W.keepIn K (.ref C) = true) (R : CallF P w K mg base 1 "is_row" ["thing"] (spV 1 lstPre fun _ => .bool true)) :
    FnOk P w K mg base CX0 2 f fd ["nets"] (spW 1 (needPre C) (NetsV C)) := by
  refine F.ok scNeed (fun vs H Q E h => spW_len h) (fun cdv A outer s H vs Q E hr h => ?_)
  obtain ⟨fR, dR, oR, gR, kR, bR⟩ := R
  refine ⟨_, pss_cons (ps_if (PW.pt (pw_or (pt_not (pt_val (pe_call oR hr (by rfl) gR kR bR .nil pass0 (pa_cons (pv 0) pa_nil)))) (pw_or1 (pt_cmpR op_eq (pe_callB call_len_seq (by rfl) B.len PySem.boot_len (pa_cons (pv 0) pa_nil)) pe_int (nomark _)))))
      pss_never pss_nil)
    (pss_cons (ps_for PassesOwn.never rfl (pi_enum (by rfl) B.enumerate (pa_cons (pv 0) pa_nil)) (pg_tup rfl (pgs_cons (pg_name (i := 1) scNeed.nd rfl (.inl rfl)) (pgs_cons (pg_name (i := 2) scNeed.nd rfl (.inl rfl)) pgs_nil)))
      (pss_one (ps_if (pt_not (pt_val (pe_callB (C8.call_isC hI) (by rfl) B.isinstance PyProof.Rows.boot_isinstance (pa_cons (pv 2) (pa_cons (pe_glob (v := .ref C) (by rfl) hm rfl) pa_nil))))) pss_never pss_nil)))
    (pss_one (ps_ret (pe_callTy call_list_of (by rfl) B.list (by decide +kernel) (pa_cons (pv 0) pa_nil))))), ?_⟩
  obtain ⟨Bb, Ts, e, hn, ⟨hne, hl, v, rfl, ns, hL, hN⟩, q⟩ := h
  have s0 := Bs.start e
  obtain ⟨a, rfl, ha⟩ := id hL
  have lenT : ns.length = Ts.length := Paired.length hN
  have tr : EvD (tCall (spV 1 lstPre fun _ => .bool true) [] E0 (tCons (tVar 0) tNil)) (L2.start nNeed [.ref a]) Bb (.bool true) := ed_callV (f := fun _ => .bool true) ns (esv_var (i := 0) (R := LstV ns) rfl mn_lst hL esv_nil) fun H vs ⟨v, us, h1, h2, h3⟩ => by
    subst h3
    subst h1
    exact ⟨rfl, v, rfl, h2⟩
  have tl : EvD (tCB (Dl.rLen K) (tCons (tVar 0) tNil)) (L2.start nNeed [.ref a]) Bb (.int ns.length) := fun H1 e1 Q q => ⟨.ref a, rfl, a, ns, rfl, .inl (sq_of (e1 _ _ ha)), q _ H1 (Ex.refl _) (.int _)⟩
  have hpos : 0 < ns.length := by rw [lenT]; exact List.length_pos_iff.mpr hne
  refine q_whenD s0.c (b := false || false) (et_or (et_is (et_not (et_BD tr)) rfl) fun _ => et_is (et_D (ed_op tl ed_int rd_eqI)) (decide_eq_false (by omega))) (fun hb => by cases hb) (fun _ H1 e1 => ?_)
  have b1 := s0.keep e1
  refine s_forX b1.c (eix_enum (i := 0) rfl hL) (fun B0 i σ' H' => ∃ x1 x2, Ex Bb B0 ∧ Ex B0 H' ∧ Ex H H' ∧ σ' = [some (.ref a), x1, x2]) (fun Hn en => ⟨_, _, gr_ex b1.c, gr_sub b1.c en, e1.trans en, rfl⟩) (fun B0 i σ' H' ⟨_, _, _, c, _, _⟩ => c) ?_ ?_
  · rintro B0 i x σ' H' Hn hi ⟨y1, y2, c0, c1, c2, rfl⟩ en ⟨T, v, rfl, hT, hv⟩
    obtain ⟨N, hN1, b, dx, p1, p2, p3, p4, rfl, hb, _⟩ := hN.get hv
    refine ⟨_, _, rfl, st_of (gr_sub c1 en _ _ hT), rfl, _, _, rfl, _, _, rfl, rfl, ?_⟩
    refine s_ifD (gr_sub c1 en) (b := false) (et_is (et_not (et_BD (b := true) (fun H1 e1 Q q => ⟨.ref b, rfl, b, dx, _, rfl, e1 _ _ (gr_ex c1 _ _ (c0 _ _ hb)), q _ H1 (Ex.refl _) (.bl true)⟩))) rfl) (fun hb => by cases hb) (fun _ H7 e7 => ?_)
    exact ⟨_, _, c0, (c1.trans en).trans e7, (c2.trans en).trans e7, rfl⟩
  · rintro B0 σ' H' ⟨x1, x2, c0, c1, c2, rfl⟩
    refine ⟨.ref a, rfl, a, ns, rfl, .inl (sq_of (c1 _ _ (c0 _ _ ha))), fun p hp => ?_⟩
    have c3 : Ex H (upd H' p (.lst ns)) := c2.trans (Ex.new hp)
    refine q (.ref p) _ c3 ⟨ns, ⟨p, rfl, gr_new (fresh_back c2 hp) upd_same⟩, hN.ex (gr_ex e)⟩
end
end K50
set_option maxHeartbeats 1000000
namespace K50
open PySem PySem.W PySem.Spec PyProof.Rows L2 LamX NdefX Evl RZ Dl Dn Dm Lz K0 Mx Ns ClX
/-! ### promises amid the spring and tables -/
def spXT (T : List (Addr × Str)) (n : Nat) {α : Type} (pre : α → Hp → List V → Prop) (post : α → Hp → V → Prop) (kk : Nat) : Sp := fun vs H1 Q E => ∃ p l, spX (mdS p l T) n pre post kk vs H1 Q E
theorem spXT_len {T : List (Addr × Str)} {n : Nat} {α : Type} {pre : α → Hp → List V → Prop} {post : α → Hp → V → Prop} {kk : Nat} {vs : List V} {H : Hp} {Q : VK} {E : XK} (h : spXT T n pre post kk vs H Q E) : vs.length = n := by
  obtain ⟨_, _, _, _, _, _, _, _, _, h, _⟩ := h
  exact h
theorem ex_callXT {p l : Addr} {T : List (Addr × Str)} {σ : L2.St} {B : Hp} {Rs : Hp → List V → Prop} {k : Nat} (c : Cl (mdS p l T) B) {n kk : Nat} {α : Type} {pre : α → Hp → List V → Prop} {post : α → Hp → V → Prop} {E : XK} {ta : TA} (a : α) (h : EvsX (mdS p l T) ta σ B Rs k) (mp : Mn (post a)) (hf : ∀ H vs, Rs H vs → vs.length = n ∧ pre a H vs) :
    EvX (mdS p l T) (tCall (spXT T n pre post kk) [] E ta) σ B (post a) (k + kk) := fun s H1 e j hk Q q =>
  h s H1 e j (by omega) _ fun vs H2 m2 j2 dvs => by
    obtain ⟨h1, h2⟩ := hf _ vs dvs
    rw [List.append_nil]
    exact ⟨p, l, gr B H1 H2, a, s + k, gr_subM c e m2, cl_gr c j, j2, by omega, h1, h2, fun v H3 m3 j3 hp => q v H3 (m2.trans m3) (by rw [← Nat.add_assoc]; exact j3) (mp _ _ v (gr_grM j j2 m2 m3) hp)⟩
/-! ### comprehensions over roads -/
def unR : PyData → Rd
  | .tuple [.int a, .int b, o, i] => (a, b, o, i)
  | _ => (0, 0, .none, .none)
theorem ed_rl {K : PySem.W.Frag} {σ : L2.St} {B : Hp} {rs : List Rd} {wi : TI} {te : TE} {vs : List Nat} {i j k l : Nat} (f : Rd → PyData) (hi : EvI wi σ B (rs.map rdD)) (hl : rs.length ≤ 50000)
    (hw : ∀ a b c d : V, wipe (((((wipe σ vs).set i (some a)).set j (some b)).set k (some c)).set l (some d)) vs = wipe σ vs)
    (hb : ∀ (r : Rd) (v3 v4 : V) (H' : Hp), r ∈ rs → Ex B H' → Tp H' v3 r.2.2.1 → Tp H' v4 r.2.2.2 → EvD te (((((wipe σ vs).set i (some (.int r.1))).set j (some (.int r.2.1))).set k (some v3)).set l (some v4)) H' (f r)) :
    EvD (tLc wi (gTup K 4 (gCons (gName i) (gCons (gName j) (gCons (gName k) (gCons (gName l) gNil))))) tYes te vs) σ B (.list (rs.map f)) := by
  refine ed_is (ed_lc (fun _ => true) (fun d => f (unR d)) hi (by rw [List.length_map]; exact hl) fun d x H' hd e hx => ?_) (by rw [Dl.filter_tt, List.map_map]; rfl)
  obtain ⟨r, hr, rfl⟩ := List.mem_map.mp hd
  obtain ⟨w1, w2, w3, w4, g1, g2, g3, g4, gg⟩ := open4 (K := K) hx
  cases g1
  cases g2
  exact ⟨_, fun Hx k ex hk => gg ex hk, hw _ _ _ _, et_yes, fun _ => hb r w3 w4 H' hr e g3 g4⟩
/-! ### backward -/
def backN (N : NetV) : NetV := ⟨N.ss, sortR (N.rs.map flipR)⟩
abbrev nBk : List Str := ["net", "one", "other", "out", "into"]
theorem scBk : FnScope nBk ["net"] (defScope sBackward) := ⟨rfl, rfl, rfl, by decide +kernel, rfl, by decide +kernel, by decide +kernel⟩
section
variable {P : Program} {w : World} {K : PySem.W.Frag} {mg : Str → Option Value} {base : Heap} {C : Addr}
theorem ok_backward {T : List (Addr × Str)} {f : Addr} {fd : FuncData} (F : Fun K "backward" "backward" sBackward f fd) (hC : NetK K C) (S : CallM P w K mg base 1 C "signs" ["self"] (spV 1 (netPre C) fun N => .list N.ss)) (R : CallM P w K mg base 1 C "roads" ["self"] (spV 1 (netPre C) fun N => .list (N.rs.map rdD)))
    (M : CallMk P w K mg base 6 "Net" C ["self", "signs", "roads"] (spNI T C)) : FnOk P w K mg base CX0 8 f fd ["net"] (spXT T 1 (okPre C) (fun N => NetAt C (backN N)) 0) := by
  refine F.ok scBk (fun vs H Q E h => spXT_len h) (fun cdv A outer s H vs Q E hr h => ?_)
  obtain ⟨fS, dS, oS, mS, bS⟩ := S
  obtain ⟨fR, dR, oR, mR, bR⟩ := R
  obtain ⟨fM, dM, oM, mM, gM, bM⟩ := M
  refine ⟨_, pss_one (ps_ret (pe_make mM oM hr (by rfl) gM bM .nil pass0 (pa_cons (pe_meth0 (pv 0) hC.cl mS oS (hr.mono (by decide)) bS .nil pass0) (pa_cons
      (pe_lc (own := [("one", 1), ("other", 2), ("out", 3), ("into", 4)]) (g := gTup K 4 (gCons (gName 1) (gCons (gName 2) (gCons (gName 3) (gCons (gName 4) gNil))))) (tt := tYes) (te := tTup (tCons (tVar 2) (tCons (tVar 1) (tCons (tVar 4) (tCons (tVar 3) tNil))))) rfl scBk.nd (pi_list (pe_meth0 (pv 0) hC.cl mR oR (hr.mono (by decide)) bR .nil pass0))
        (blkOk_by (own := [("one", 1), ("other", 2), ("out", 3), ("into", 4)]) (N := nBk) (sc := defScope sBackward) (by decide +kernel))
        (fun _ _ _ _ _ => pg_tup rfl (pgs_cons (pg_name (i := 1) scBk.nd rfl (Or.inl rfl)) (pgs_cons (pg_name (i := 2) scBk.nd rfl (Or.inl rfl)) (pgs_cons (pg_name (i := 3) scBk.nd rfl (Or.inl rfl)) (pgs_cons (pg_name (i := 4) scBk.nd rfl (Or.inl rfl)) pgs_nil)))))
        (fun _ _ _ _ _ => pts_nil) (fun _ _ _ _ _ => pe_tup (pa_cons (pv 2) (pa_cons (pv 1) (pa_cons (pv 4) (pa_cons (pv 3) pa_nil)))))) pa_nil)))), ?_⟩
  obtain ⟨p, l, Bb, N, s0, e, cl, j, hk, hn, ⟨ok, v, rfl, hv⟩, q⟩ := h
  have b0 := BsM.start e cl j
  refine s_retX b0 (ex_make (C := C) (E := E0) (k := 0) (ss := N.ss) (rs := N.rs.map flipR) (Rs := fun ds => ds = [.list N.ss, .list ((N.rs.map flipR).map rdD)]) cl (fun n H1 e1 j1 _ Q q =>
    (es_cons (ed_meth (m := "signs") (g := fun N => .list N.ss) (i := 0) rfl hv rfl) (es_cons (ed_is (ed_rl (rs := N.rs) (fun r => rdD (flipR r)) (ei_list (ed_meth (m := "roads") (g := fun N => .list (N.rs.map rdD)) (i := 0) rfl hv rfl)) (by have := ok.l2; omega) (fun _ _ _ _ => rfl) fun r v3 v4 H' hr e g3 g4 =>
      ed_tup (es_cons (ed_var (i := 2) rfl (.int _)) (es_cons (ed_var (i := 1) rfl (.int _)) (es_cons (ed_var (i := 4) rfl g4) (es_cons (ed_var (i := 3) rfl g3) es_nil)))) (show 4 ≤ 100000 by decide)) (by rw [List.map_map]; rfl)) es_nil)) H1 e1 Q fun vs H2 e2 t => q vs H2 _ rfl (ExM.of e2) ((mdS p l T).keep _ _ _ e2 j1) t)
    fun ds hd => ⟨_, _, hd, .inl rfl, .inl rfl, ok.ne, ok.l1, ok.wd, by rw [List.length_map]; exact ok.l2, fun r hr => by
      obtain ⟨t, ht, rfl⟩ := List.mem_map.mp hr
      exact okR_flip (ok.ok t ht)⟩) (by exact hk) fun v2 H2 m2 j2 t2 => ret_X mn_net q b0 m2 j2 (Nat.le_refl _) t2
end
end K50
set_option maxHeartbeats 1000000
namespace K50
open PySem PySem.W PySem.Spec PyProof.Rows L2 LamX NdefX Evl RZ Dl Dn Dm Lz K0 Mx Ns ClX
/-! ### beside -/
def shiftR (a : Int) (r : Rd) : Rd := (a + r.1, a + r.2.1, r.2.2.1, r.2.2.2)
def besS (z : List PyData × List Rd) (N : NetV) : List PyData × List Rd := (z.1 ++ N.ss, z.2 ++ N.rs.map (shiftR (z.1.length : Int)))
def besA (Ts : List NetV) : List PyData × List Rd := Ts.foldl besS ([], [])
def besN (Ts : List NetV) : NetV := ⟨(besA Ts).1, sortR (besA Ts).2⟩
theorem besA_take {Ts : List NetV} {i : Nat} {N : NetV} (h : Ts[i]? = some N) : besA (Ts.take (i + 1)) = besS (besA (Ts.take i)) N := by
  rw [List.take_add_one, h]
  unfold besA
  rw [List.foldl_append]
  rfl
theorem bes_len : ∀ (Ts : List NetV) (z : List PyData × List Rd) (i : Nat), ((Ts.take i).foldl besS z).1.length ≤ (Ts.foldl besS z).1.length ∧ ((Ts.take i).foldl besS z).2.length ≤ (Ts.foldl besS z).2.length
  | [], z, i => by rw [List.take_nil]; exact ⟨Nat.le_refl _, Nat.le_refl _⟩
  | N :: Ts, z, 0 => by
    have h := bes_len Ts (besS z N) 0
    rw [List.take_zero] at h
    have h1 : (besS z N).1.length = z.1.length + N.ss.length := List.length_append
    have h2 : (besS z N).2.length = z.2.length + N.rs.length := by unfold besS; rw [List.length_append, List.length_map]
    have g1 := h.1
    have g2 := h.2
    rw [List.take_zero]
    simp only [List.foldl_nil, List.foldl_cons] at g1 g2 ⊢
    exact ⟨by omega, by omega⟩
  | N :: Ts, z, i + 1 => bes_len Ts (besS z N) i
structure besPre (C : Addr) (Ts : List NetV) (H : Hp) (vs : List V) : Prop where
  ne : Ts ≠ []
  l : Ts.length ≤ 1000
  at_ : ∃ v, vs = [v] ∧ NetsV C Ts H v
  ok : ∀ N ∈ Ts, okV N
  l1 : (besA Ts).1.length ≤ 400
  l2 : (besA Ts).2.length ≤ 1000
theorem bes_ok {Ts : List NetV} (ok : ∀ N ∈ Ts, okV N) : ∀ i, (∀ w ∈ (besA (Ts.take i)).1, Wd w) ∧ ∀ r ∈ (besA (Ts.take i)).2, okR (besA (Ts.take i)).1.length r
  | 0 => ⟨fun w h => (nomatch (by simpa [besA] using h : w ∈ ([] : List PyData))), fun r h => (nomatch (by simpa [besA] using h : r ∈ ([] : List Rd)))⟩
  | i + 1 => by
    obtain ⟨h1, h2⟩ := bes_ok ok i
    cases q : Ts[i]? with
    | none =>
      rw [List.take_add_one, q]
      rw [show (none : Option NetV).toList = [] from rfl, List.append_nil]
      exact ⟨h1, h2⟩
    | some N =>
      rw [besA_take q]
      have oN := ok N (List.mem_of_getElem? q)
      refine ⟨fun w h => ?_, fun r h => ?_⟩
      · rcases List.mem_append.mp h with h | h
        · exact h1 w h
        · exact oN.wd w h
      · have hl : (besS (besA (Ts.take i)) N).1.length = (besA (Ts.take i)).1.length + N.ss.length := List.length_append
        rw [hl]
        rcases List.mem_append.mp h with h | h
        · have := h2 r h
          exact ⟨this.a0, by have := this.a1; omega, this.b0, by have := this.b1; omega, this.o, this.i⟩
        · obtain ⟨t, ht, rfl⟩ := List.mem_map.mp h
          have o := oN.ok t ht
          have a0 := o.a0
          have a1 := o.a1
          have b0 := o.b0
          have b1 := o.b1
          refine ⟨?_, ?_, ?_, ?_, o.o, o.i⟩
          · show 0 ≤ ((besA (Ts.take i)).1.length : Int) + t.1
            omega
          · show ((besA (Ts.take i)).1.length : Int) + t.1 < _
            omega
          · show 0 ≤ ((besA (Ts.take i)).1.length : Int) + t.2.1
            omega
          · show ((besA (Ts.take i)).1.length : Int) + t.2.1 < _
            omega
section
variable {K : PySem.W.Frag} {σ : L2.St} {B : Hp} {te : TE} {C : Addr} {Ts : List NetV}
theorem eix_nets (h : EvV te σ B (NetsV C Ts)) : EvIX (iList K te) σ B Ts.length fun i H x => ∃ N, Ts[i]? = some N ∧ NetAt C N H x := fun H1 e Rr q => h H1 e _ fun v H2 e2 hv => by
  obtain ⟨ns, ⟨a, rfl, ha⟩, hN⟩ := hv
  have l : ns.length = Ts.length := Paired.length hN
  have wk := walk_lX (K := K) ha
  refine ⟨a, rfl, ⟨_, sq_of (gr_sub e e2 _ _ ha)⟩, q _ H2 e2 ⟨fun i H' hi => wk.go i H' (by omega), by rw [← l]; exact wk.stop, fun i H' x H'' hi e y => ?_⟩⟩
  obtain ⟨e3, h3⟩ := wk.yld i H' x H'' (by omega) e y
  obtain ⟨N, h4, h5⟩ := hN.get h3
  exact ⟨e3, N, h4, mn_net _ _ _ (gr_ex e) h5⟩
end
abbrev nBes : List Str := ["nets", "signs", "roads", "net", "ahead", "one", "other", "out", "into"]
theorem scBes : FnScope nBes ["nets"] (defScope sBeside) := ⟨rfl, rfl, rfl, by decide +kernel, rfl, by decide +kernel, by decide +kernel⟩
section
variable {P : Program} {w : World} {K : PySem.W.Frag} {mg : Str → Option Value} {base : Heap} {C : Addr}
theorem ok_beside {T : List (Addr × Str)} {f : Addr} {fd : FuncData} (F : Fun K "beside" "beside" sBeside f fd) (B : Bl mg) (hC : NetK K C) (D : CallF P w K mg base 2 "need_nets" ["nets"] (spW 1 (needPre C) (NetsV C))) (S : CallM P w K mg base 1 C "signs" ["self"] (spV 1 (netPre C) fun N => .list N.ss)) (R : CallM P w K mg base 1 C "roads" ["self"] (spV 1 (netPre C) fun N => .list (N.rs.map rdD)))
    (M : CallMk P w K mg base 6 "Net" C ["self", "signs", "roads"] (spNI T C)) : FnOk P w K mg base CX0 8 f fd ["nets"] (spXT T 1 (besPre C) (fun Ts => NetAt C (besN Ts)) 0) := by
  refine F.ok scBes (fun vs H Q E h => spXT_len h) (fun cdv A outer s H vs Q E hr h => ?_)
  obtain ⟨fD, dD, oD, gD, kD, bD⟩ := D
  obtain ⟨fS, dS, oS, mS, bS⟩ := S
  obtain ⟨fR, dR, oR, mR, bR⟩ := R
  obtain ⟨fM, dM, oM, mM, gM, bM⟩ := M
  refine ⟨_, pss_cons (ps_set (i := 1) scBes.nd rfl (Or.inl rfl) (pe_lst pa_nil)) (pss_cons (ps_set (i := 2) scBes.nd rfl (Or.inl rfl) (pe_lst pa_nil))
    (pss_cons (ps_for PassesOwn.never rfl (pi_list (pe_call oD (hr.mono (by decide)) (by rfl) gD kD bD .nil pass0 (pa_cons (pv 0) pa_nil))) (pg_name (i := 3) scBes.nd rfl (Or.inl rfl))
      (pss_cons (ps_set (i := 4) scBes.nd rfl (Or.inr rfl) (pe_callB call_len_seq (by rfl) B.len PySem.boot_len (pa_cons (pv 1) pa_nil)))
      (pss_cons (ps_expr (pe_bm PySem.F.plainAttrs_list PySem.F.slot_list_extend PySem.F.type_list_extend mt_extend (pv 2) (pa_cons
        (pe_lc (own := [("one", 5), ("other", 6), ("out", 7), ("into", 8)]) (g := gTup K 4 (gCons (gName 5) (gCons (gName 6) (gCons (gName 7) (gCons (gName 8) gNil))))) (tt := tYes)
          (te := tTup (tCons (tOp (rI0 fun i j => .int (i + j)) (tVar 4) (tVar 5)) (tCons (tOp (rI0 fun i j => .int (i + j)) (tVar 4) (tVar 6)) (tCons (tVar 7) (tCons (tVar 8) tNil))))) rfl scBes.nd (pi_list (pe_meth0 (pv 3) hC.cl mR oR (hr.mono (by decide)) bR .nil pass0))
        (blkOk_by (own := [("one", 5), ("other", 6), ("out", 7), ("into", 8)]) (N := nBes) (sc := defScope sBeside) (by decide +kernel))
        (fun _ _ _ _ _ => pg_tup rfl (pgs_cons (pg_name (i := 5) scBes.nd rfl (Or.inl rfl)) (pgs_cons (pg_name (i := 6) scBes.nd rfl (Or.inl rfl)) (pgs_cons (pg_name (i := 7) scBes.nd rfl (Or.inl rfl)) (pgs_cons (pg_name (i := 8) scBes.nd rfl (Or.inl rfl)) pgs_nil)))))
        (fun _ _ _ _ _ => pts_nil) (fun _ _ _ _ _ => pe_tup (pa_cons (pe_op op_add (pv 4) (pv 5)) (pa_cons (pe_op op_add (pv 4) (pv 6)) (pa_cons (pv 7) (pa_cons (pv 8) pa_nil)))))) pa_nil)))
      (pss_one (ps_expr (pe_bm PySem.F.plainAttrs_list PySem.F.slot_list_extend PySem.F.type_list_extend mt_extend (pv 1) (pa_cons (pe_meth0 (pv 3) hC.cl mS oS (hr.mono (by decide)) bS .nil pass0) pa_nil))))))) 
    (pss_one (ps_ret (pe_make mM oM hr (by rfl) gM bM .nil pass0 (pa_cons (pv 1) (pa_cons (pv 2) pa_nil))))))), ?_⟩
  obtain ⟨p, l, Bb, Ts, s0, e, cl, j, hk, hn, ⟨hne, hl, ⟨v, rfl, hv⟩, hok, hl1, hl2⟩, q⟩ := h
  have b0 := Bs.start e
  refine q_asgOwn b0 fun a o1 b1 e1 => ?_
  refine ⟨Nat.zero_le _, fun b hb => ?_⟩
  have nba : b ≠ a := fun z => by rw [z, upd_same] at hb; cases hb
  have o2 : Own H Bb (upd (upd H a (.lst [])) b (.lst [])) b [] := ⟨fresh_back b1.a hb, fresh_back b1.c hb, [], upd_same, .nil⟩
  have b2 := b1.new (o := .lst []) hb
  have o1 := o1.other (q := b) (o := .lst []) nba.symm
  have aH := o1.1
  refine s_forX b2.c (eix_nets (ev_callW Ts (esv_var (i := 0) rfl mn_nets hv esv_nil) mn_nets fun H vs ⟨v, us, h1, h2, h3⟩ => by
      subst h3
      subst h1
      exact ⟨rfl, hne, hl, v, rfl, h2⟩))
    (fun B0 i σ' H' => ∃ B' x3 x4, Bs Bb H B' H' ∧ Own H B' H' a (besA (Ts.take i)).1 ∧ Own H B' H' b ((besA (Ts.take i)).2.map rdD) ∧ Ex B0 B' ∧ σ' = [some v, some (.ref a), some (.ref b), x3, x4, none, none, none, none])
    (fun Hn en => ⟨_, _, _, b2.step en, o1.step b2.c en, o2.step b2.c en, Ex.refl _, rfl⟩) (fun B0 i σ' H' ⟨_, _, _, b3, _, _, c3, _⟩ => c3.trans b3.c) ?_ ?_
  · rintro B0 i x σ' H' Hn hi ⟨B', y3, y4, b3, o3, o4, c3, rfl⟩ en ⟨N, hN, hx⟩
    have oN := hok N (List.mem_of_getElem? hN)
    have b4 := b3.step en
    have o5 := o3.step b3.c en
    have o6 := o4.step b3.c en
    have hx4 := mn_net _ _ _ (gr_mono (Hc := H') (Hn := Hn) c3) hx
    obtain ⟨vs5, h5, t5⟩ := o5.rd
    have l5 := dp_len t5
    have le := bes_len Ts ([], []) (i + 1)
    have e1 := besA_take hN
    unfold besA at e1
    rw [e1] at le
    have m1 : (besS (besA (Ts.take i)) N).1.length = (besA (Ts.take i)).1.length + N.ss.length := List.length_append
    have m2 : (besS (besA (Ts.take i)) N).2.length = (besA (Ts.take i)).2.length + N.rs.length := by unfold besS; rw [List.length_append, List.length_map]
    have le1 : (besA (Ts.take i)).1.length + N.ss.length ≤ 400 := by rw [← m1]; exact Nat.le_trans le.1 hl1
    have le2 : (besA (Ts.take i)).2.length + N.rs.length ≤ 1000 := by rw [← m2]; exact Nat.le_trans le.2 hl2
    refine ⟨.ref a, rfl, a, vs5, rfl, .inl (sq_of h5), ?_⟩
    rw [l5]
    refine q_extD b4 rfl o6 (es := (N.rs.map (shiftR ((besA (Ts.take i)).1.length : Int))).map rdD) (ed_is (ed_rl (rs := N.rs) (fun r => rdD (shiftR ((besA (Ts.take i)).1.length : Int) r)) (ei_list (ed_meth (m := "roads") (g := fun N => .list (N.rs.map rdD)) (i := 3) rfl hx4 rfl)) (by omega) (fun _ _ _ _ => rfl) fun r v3 v4 H5 hr5 e5 g3 g4 =>
      ed_tup (es_cons (ed_is (ed_op (ed_var (i := 4) rfl (.int _)) (ed_var (i := 5) rfl (.int _)) rd_I0) rfl) (es_cons (ed_is (ed_op (ed_var (i := 4) rfl (.int _)) (ed_var (i := 6) rfl (.int _)) rd_I0) rfl) (es_cons (ed_var (i := 7) rfl g3) (es_cons (ed_var (i := 8) rfl g4) es_nil)))) (show 4 ≤ 100000 by decide)) (by rw [List.map_map]; rfl)) (by rw [List.length_map, List.length_map, List.length_map]; omega) fun Hg Hh eg kg og bg => ?_
    have o7 : Own H (gr (gr B' H' Hn) Hn Hg) Hh a (besA (Ts.take i)).1 := by
      have z := o5.step b4.c eg
      obtain ⟨z1, z2, vs, z3, z4⟩ := z
      exact ⟨z1, z2, vs, kg _ _ nba.symm z3, z4⟩
    refine s_extD bg rfl o7 (es := N.ss) (ed_meth (m := "signs") (g := fun N => .list N.ss) (i := 3) rfl (mn_net _ _ _ (gr_ex b4.c) hx4) rfl) (by omega) fun Hi Hj ei ki oi bi => ?_
    have o8 : Own H (gr (gr (gr B' H' Hn) Hn Hg) Hh Hi) Hj b ((besA (Ts.take i)).2.map rdD ++ (N.rs.map (shiftR ((besA (Ts.take i)).1.length : Int))).map rdD) := by
      have z := og.step bg.c ei
      obtain ⟨z1, z2, vs, z3, z4⟩ := z
      exact ⟨z1, z2, vs, ki _ _ nba z3, z4⟩
    refine ⟨_, _, _, bi, by rw [besA_take hN]; exact oi, by rw [besA_take hN]; unfold besS; rw [List.map_append]; exact o8, ((c3.trans (gr_ex b3.c)).trans (gr_ex b4.c)).trans (gr_ex bg.c), rfl⟩
  · rintro B0 σ' H' ⟨B', x3, x4, b3, o3, o4, c3, rfl⟩
    rw [List.take_length] at o3 o4
    have ta := o3.out b3
    have tb := o4.out b3
    have j3 := (mdS p l T).keep _ _ _ b3.a j
    have c4 : Cl (mdS p l T) (gr Bb H H') := cl_gr cl j
    have b5 : BsM (mdS p l T) Bb H (gr Bb H H') H' s0 := (BsM.start e cl j).step (ExM.of b3.a) j3
    have bo := bes_ok hok Ts.length
    rw [List.take_length] at bo
    have ne : (besA Ts).1 ≠ [] := fun z => by
      cases Ts with
      | nil => exact hne rfl
      | cons N Ts =>
        have h1 := (bes_len Ts (besS ([], []) N) 0).1
        rw [List.take_zero] at h1
        have h2 : (besS ([], []) N).1.length = ([] : List PyData).length + N.ss.length := List.length_append
        have h3 := List.length_pos_iff.mpr (hok N List.mem_cons_self).ne
        have h4 : (besA (N :: Ts)).1.length = 0 := by rw [z]; rfl
        have h5 : (besA (N :: Ts)).1 = (Ts.foldl besS (besS ([], []) N)).1 := rfl
        rw [h5] at h4
        simp only [List.foldl_nil] at h1
        simp only [List.length_nil] at h2
        omega
    refine s_retX b5 (ex_make (C := C) (E := E0) (k := 0) (ss := (besA Ts).1) (rs := (besA Ts).2) (Rs := fun ds => ds = [.list (besA Ts).1, .list ((besA Ts).2.map rdD)]) c4 (fun n H1 e1 j1 _ Q q =>
      (es_cons (ed_var (i := 1) rfl ta) (es_cons (ed_var (i := 2) rfl tb) es_nil)) H1 e1 Q fun vs H2 e2 t => q vs H2 _ rfl (ExM.of e2) ((mdS p l T).keep _ _ _ e2 j1) t)
      fun ds hd => ⟨_, _, hd, .inl rfl, .inl rfl, ne, hl1, bo.1, hl2, bo.2⟩) (by exact hk) fun v2 H2 m2 j2 t2 => ret_X mn_net q b5 m2 j2 (Nat.le_refl _) t2
end
end K50
set_option maxHeartbeats 1000000
namespace Ns
open PySem PySem.Spec PyProof.Rows L2
/-! ### list(d.values()) -/
theorem vals_at : ∀ (xs : List V) (us : List Value), xs.length = us.length → (∀ (j : Nat) x u, xs[j]? = some x → us[j]? = some u → RelV x u) → Vals xs us
  | [], [], _, _ => .nil
  | [], _ :: _, h, _ => by cases h
  | _ :: _, [], h, _ => by cases h
  | x :: xs, u :: us, h, r => .cons (r 0 x u rfl rfl) (vals_at xs us (Nat.succ.inj h) fun j y v h1 h2 => r (j + 1) y v (by simpa using h1) (by simpa using h2))
def tListVals (te : TE) : TE := fun σ H Q => te σ H fun x H1 => ∃ (d : Addr) (kvs : List (Key × V)), x = .ref d ∧ H1 d = some (.dK kvs) ∧ ∀ p, H1 p = none → Q (.ref p) (upd H1 p (.lst (kvs.map (·.2))))
section
variable {X : Cx} {e : Expr} {te : TE} {p apos cpos pos : Pos}
theorem pe_listVals (hc : X.calm = true) (he : PE X e te) (hg : Gl X "list") (hm : X.mg "list" = none) (hv : bootBuiltins "list" = some (.type "list")) (hbase : attributeBase e "values" X.env (eval e X.env) = eval e X.env := by rfl) (hline : (apos.endLine == cpos.line) = true := by rfl)
    (hs : starEach [.Call (.Attribute e "values" apos) [] [] cpos] X.env = (false, eval (.Call (.Attribute e "values" apos) [] [] cpos) X.env) :: starEach [] X.env := by rfl) :
    PE X (.Call (.Name "list" p) [.Call (.Attribute e "values" apos) [] [] cpos] [] pos) (tListVals te) := by
  refine ⟨fun pins s σ H Q I hq => ?_⟩
  refine wpAny_Call_Name_kw (ld_blt I hg hm hv ?_)
  refine PyProof.Rows.callWith_type1 ?_ hs rfl
  rw [hs]
  show wpAny _ _ (spliced ((false, eval (.Call (.Attribute e "values" apos) [] [] cpos) X.env) :: backTo pos (starEach [] X.env))) _ _ s
  refine Calls.spliced_cons ?_
  refine wpAny_Call_method (T := "dict") (id := "dict.values") hbase rfl hline F.plainAttrs_dict F.slot_dict_values F.type_dict_values (thn (he.run pins s σ H _ I hq) fun u s1 ⟨x, H1, I1, rx, d, kvs, ex, hd, q⟩ => ?_)
  subst ex
  obtain rfl : u = Value.ref d := rx
  obtain ⟨hz, hs0, vs, kv, hdo⟩ := I1.hok d _ hd
  have lk : kvs.length = vs.length := Paired.length kv
  have I2 : Inv X pins σ H1 { s1 with heap := s1.heap.push { cls := .type "dict_values", data := .fields #[.ref d] } } := I1.kept (t' := s1.toks) fun b ob q => Heap.get?_push_of_some _ q
  refine ⟨hdo.typeIs, hdo.mapOf.noDict, ?_⟩
  show wpAny _ _ (callWith cpos (.builtin "dict.values") [.ref d] [] []) _ X.xe s1
  refine method_meetsIn F.slot_dict_values F.entry_dict_values rfl (PySem.evalArgs_none ⟨rfl, hdo.typeIs, F.args_dict_values_1 _, _, meets_dict_values (mixKind X.prog X.w) d hs0, ⟨vs, hdo⟩, ?_⟩)
  refine Calls.spliced_nil ?_
  obtain ⟨es, ep, hr, hsz, hent⟩ := hdo.raw
  refine PySem.W.kdl_call (PySem.KdlSrc.rawValues (r := s1.heap.objs.size) (d := d) (es := es) (ep := ep)) (I1.ok.hd hc) ⟨⟨_, Heap.get?_push_size _ rfl, rfl, rfl⟩, hr.push _⟩ (by omega) fun h' tk acc c hk hS hi => ?_
  have la : acc.size = vs.length := by rw [hi.1]; exact hsz
  have val : Vals (kvs.map (·.2)) acc.toList := vals_at _ _ ((List.length_map _).trans (lk.trans (la.symm.trans Array.length_toList.symm))) fun j x u hx hu => by
    rw [List.getElem?_map] at hx
    obtain ⟨⟨k1, x1⟩, h1, rfl⟩ := Option.map_eq_some_iff.mp hx
    obtain ⟨⟨k2, u2⟩, h2, h3⟩ : ∃ y, vs[j]? = some y ∧ _ := LiI.paired_get kv h1
    rw [Array.getElem?_toList] at hu
    obtain ⟨h4, h5⟩ := hi.2 j u hu
    have h6 := (hent j h4 k2 u2 h2).2
    rw [h5, h6]
    exact h3.2
  exact ⟨.ref _, _, I2.laid (o := .lst (kvs.map (·.2))) (t' := tk) hk (Nat.le_refl _) ⟨by rw [List.length_map]; exact hz, acc.toList, c, val, by rw [Array.toArray_toList]; exact hS⟩, rfl, q _ (I2.hok.fresh (Nat.le_refl _))⟩
end
end Ns
set_option maxHeartbeats 1000000
namespace K50
open PySem PySem.W PySem.Spec PyProof.Rows L2 LamX NdefX Evl RZ Dl Dn Dm Lz K0 Mx Ns ClX
abbrev sGrouped : Stmt := top 18
abbrev sLots : Stmt := top 19
/-! ### grouped -/
theorem valV_mem {κ : Type} [DecidableEq κ] {kvs : List (κ × V)} {k : κ} {v : V} (h : valV kvs k = some v) : (k, v) ∈ kvs := by
  induction kvs with
  | nil => cases h
  | cons p r ih =>
    by_cases e : p.1 = k
    · rw [valV_pos e] at h
      obtain ⟨a, b⟩ := p
      cases h
      cases e
      exact List.mem_cons_self
    · rw [valV_neg e] at h
      exact List.mem_cons_of_mem _ (ih h)
def addI (acc : List Int) (k : Int) : List Int := if k ∈ acc then acc else acc ++ [k]
def onceI (ks : List Int) : List Int := ks.foldl addI []
theorem onceI_take {ks : List Int} {i : Nat} {k : Int} (h : ks[i]? = some k) : onceI (ks.take (i + 1)) = addI (onceI (ks.take i)) k := by
  unfold onceI
  rw [List.take_add_one, h, List.foldl_append]
  rfl
def grpPre : List Int → Hp → List V → Prop := fun L H vs => L.length ≤ 1000 ∧ ∃ v, vs = [v] ∧ Tp H v (.list (L.map PyData.int))
def grpPost : List Int → Hp → V → Prop := fun L H v => ∃ xs, LstV xs H v ∧ xs.length = (onceI L).length
abbrev nGrp : List Str := ["labels", "lots", "at", "label"]
theorem scGrp : FnScope nGrp ["labels"] (defScope sGrouped) := ⟨rfl, rfl, rfl, by decide +kernel, rfl, by decide +kernel, by decide +kernel⟩
section
variable {P : Program} {w : World} {K : PySem.W.Frag} {mg : Str → Option Value} {base : Heap} {C : Addr}
theorem ok_grouped {f : Addr} {fd : FuncData} (F : Fun K "grouped" "grouped" sGrouped f fd) (B : Bl mg) : FnOk P w K mg base CX0 1 f fd ["labels"] (spW 1 grpPre grpPost) := by
  refine F.ok scGrp (fun vs H Q E h => spW_len h) (fun cdv A outer s H vs Q E hr h => ?_)
  refine ⟨_, pss_cons (ps_set (i := 1) scGrp.nd rfl (Or.inl rfl) pe_dnewK)
    (pss_cons (ps_for PassesOwn.never rfl (pi_enum (by rfl) B.enumerate (pa_cons (pv 0) pa_nil)) (pg_tup rfl (pgs_cons (pg_name (i := 2) scGrp.nd rfl (.inl rfl)) (pgs_cons (pg_name (i := 3) scGrp.nd rfl (.inl rfl)) pgs_nil)))
      (pss_one (ps_expr (pe_bm PySem.F.plainAttrs_list PySem.F.slot_list_append PySem.F.type_list_append mt_append (pe_dsetd (pv 1) (pv 3) (pe_lst pa_nil) ⟨rfl, rfl, rfl, rfl⟩) (pa_cons (pv 2) pa_nil)))))
    (pss_one (ps_ret (pe_listVals rfl (pv 1) (by rfl) B.list (by decide +kernel))))), ?_⟩
  obtain ⟨Bb, L, e, hn, ⟨hl, v, rfl, hv⟩, q⟩ := h
  have b0 := Bs.start e
  refine fun d hd => ?_
  have b1 := b0.new (o := .dK []) hd
  have lL : (enumD 0 (L.map PyData.int)).length = L.length := by rw [enum_len, List.length_map]
  refine s_forD b1.c (ei_enum (es_cons (ed_var (i := 0) rfl hv) es_nil))
    (fun B0 i σ' H' => ∃ B' x2 x3 kvs, Bs Bb H B' H' ∧ Ex B0 B' ∧ H d = none ∧ B' d = none ∧ H' d = some (.dK kvs) ∧ kvs.map (·.1) = (onceI (L.take i)).map Sum.inl ∧ kvs.length ≤ i ∧
      (∀ p ∈ kvs, ∃ a xs, p.2 = V.ref a ∧ a ≠ d ∧ H a = none ∧ B' a = none ∧ H' a = some (.lst xs) ∧ xs.length ≤ i) ∧ σ' = [some v, some (.ref d), x2, x3])
    (fun Hn en => ⟨_, _, _, [], b1.step en, Ex.refl _, fresh_back b0.a hd, gr_off (fresh_back b0.c hd) (by rw [upd_same]; exact Option.some_ne_none _), en _ _ upd_same, rfl, Nat.le_refl _, (fun p hp => nomatch hp), rfl⟩) (fun B0 i σ' H' ⟨_, _, _, _, b3, c3, _⟩ => c3.trans b3.c) ?_ ?_
  · rintro B0 i t x σ' H' Hn hi ⟨B', y2, y3, kvs, b3, c3, d1, d2, d3, hk, hkl, hkv, rfl⟩ en hx
    have hlt : i < L.length := by
      have := (List.getElem?_eq_some_iff.mp hi).1
      omega
    have hLi : L[i]? = some L[i] := List.getElem?_eq_getElem hlt
    have h1 := enum_get 0 i (L.map PyData.int) (.int L[i]) (by rw [List.getElem?_map, hLi]; rfl)
    rw [hi, Nat.zero_add] at h1
    obtain rfl := Option.some.inj h1
    have b4 := b3.step en
    have hx4 := Tp.ex (gr_mono (Hc := H') (Hn := Hn) c3) _ _ hx
    refine g_pair hx4 b4.c fun va vb ta tb => ?_
    cases ta
    cases tb
    have e2 := en _ _ d3
    refine ⟨.ref d, rfl, d, rfl, .inl ⟨kvs, .inl e2⟩, .int L[i], rfl, Nat.zero_le _, fun z hz => ?_⟩
    have nzd : d ≠ z := fun q => by rw [← q, e2] at hz; cases hz
    have b5 := b4.new (o := .lst []) hz
    have Bd : gr B' H' Hn d = none := gr_off d2 (by rw [d3]; exact Option.some_ne_none _)
    have Bz : gr B' H' Hn z = none := fresh_back b4.c hz
    have Hz : H z = none := fresh_back b4.a hz
    have hd5 : upd Hn z (.lst []) d = some (.dK kvs) := by rw [upd_ne nzd]; exact e2
    have tk := onceI_take hLi
    have old : ∀ p ∈ kvs, ∃ a xs, p.2 = V.ref a ∧ a ≠ d ∧ a ≠ z ∧ H a = none ∧ gr B' H' Hn a = none ∧ upd Hn z (.lst []) a = some (.lst xs) ∧ xs.length ≤ i := fun p hp => by
      obtain ⟨a, xs, h1, h2, h3, h4, h5, h6⟩ := hkv p hp
      have e5 := en _ _ h5
      have naz : a ≠ z := fun q => by rw [← q, e5] at hz; cases hz
      exact ⟨a, xs, h1, h2, naz, h3, gr_off h4 (by rw [h5]; exact Option.some_ne_none _), by rw [upd_ne naz]; exact e5, h6⟩
    have szl : sizeLine ≥ 100000 := sz_of (Nat.le_refl _)
    refine ⟨kvs, .inl L[i], hd5, rfl, sz_lt (by omega), fun u hu => ?_, fun hu => ?_⟩
    · obtain ⟨a, xs, h1, h2, h3, h4, h5, h6, h7⟩ := old _ (valV_mem hu)
      have h1 : u = V.ref a := h1
      subst h1
      refine ⟨.inl ⟨rfl, xs, sq_of h6⟩, .int (i : Int), rfl, a, xs, _, rfl, rfl, h6, sz_lt (by omega), ?_⟩
      have b6 := b5.mut (p := a) (o := .lst (xs ++ [.int (i : Int)])) h4 h5
      have kin : L[i] ∈ onceI (L.take i) := by
        have z := valV_in hu
        rw [hk] at z
        obtain ⟨y, hy, ey⟩ := List.mem_map.mp z
        cases ey
        exact hy
      refine ⟨_, _, _, kvs, b6, c3.trans (gr_ex b3.c), d1, Bd, by rw [upd_ne h2.symm]; exact hd5, by rw [tk, hk]; unfold addI; rw [if_pos kin], by omega, fun p hp => ?_, rfl⟩
      obtain ⟨a2, ys, g1, g2, g3, g4, g5, g6, g7⟩ := old p hp
      by_cases q : a2 = a
      · subst q
        rw [g6] at h6
        cases h6
        exact ⟨a2, _, g1, g2, g4, g5, upd_same, by rw [List.length_append, List.length_singleton]; omega⟩
      · exact ⟨a2, ys, g1, g2, g4, g5, by rw [upd_ne q]; exact g6, by omega⟩
    · have b6 := b5.mut (p := d) (o := .dK (putK kvs (.inl L[i]) (.ref z))) d1 Bd
      have b7 := b6.mut (p := z) (o := .lst ([] ++ [.int (i : Int)])) Hz Bz
      have knot : ¬ L[i] ∈ onceI (L.take i) := fun z => valV_not hu (by rw [hk]; exact List.mem_map.mpr ⟨_, z, rfl⟩)
      have hz6 : upd (upd Hn z (.lst [])) d (.dK (putK kvs (.inl L[i]) (.ref z))) z = some (.lst []) := by rw [upd_ne nzd.symm, upd_same]
      refine ⟨.inl ⟨rfl, [], sq_of hz6⟩, .int (i : Int), rfl, z, [], _, rfl, rfl, hz6, sz_lt (by decide), ?_⟩
      refine ⟨_, _, _, kvs ++ [(.inl L[i], .ref z)], b7, c3.trans (gr_ex b3.c), d1, Bd, by rw [upd_ne nzd, upd_same, putK_new _ hu], by rw [tk, List.map_append, hk]; unfold addI; rw [if_neg knot, List.map_append]; rfl, by rw [List.length_append, List.length_singleton]; omega, fun p hp => ?_, rfl⟩
      rcases List.mem_append.mp hp with hp | hp
      · obtain ⟨a2, ys, g1, g2, g3, g4, g5, g6, g7⟩ := old p hp
        exact ⟨a2, ys, g1, g2, g4, g5, by rw [upd_ne g3, upd_ne g2]; exact g6, by omega⟩
      · rw [List.mem_singleton.mp hp]
        exact ⟨z, _, rfl, nzd.symm, Hz, Bz, upd_same, by simp⟩
  · rintro B0 σ' H' ⟨B', x2, x3, kvs, b3, c3, d1, d2, d3, hk, hkl, hkv, rfl⟩
    refine ⟨.ref d, rfl, d, kvs, rfl, d3, fun p hp => ?_⟩
    rw [lL, List.take_length] at hk
    refine q (.ref p) _ (b3.a.trans (Ex.new hp)) ⟨kvs.map (·.2), ⟨p, rfl, gr_new (fresh_back b3.a hp) upd_same⟩, ?_⟩
    have z := congrArg List.length hk
    rw [List.length_map, List.length_map] at z
    rw [List.length_map]
    exact z
end
end K50
set_option maxHeartbeats 1000000
namespace Ns
open PySem PySem.Spec PyProof.Rows L2 Evl RZ Dl Dm
/-! ### lists of one's own that hold numbers, lists of such -/
def nV (n : Nat) : V := .int (n : Int)
def Same (S : List Addr) (H H' : Hp) : Prop := ∀ x, x ∉ S → H' x = H x
theorem Same.ex {S : List Addr} {H0 H H' : Hp} (e : Ex H0 H) (s : Same S H H') (n : ∀ x ∈ S, H0 x = none) : Ex H0 H' := fun b o h => by
  rw [s b fun z => by rw [n b z] at h; cases h]
  exact e b o h
theorem same_upd {H : Hp} {p : Addr} {o : HO} {S : List Addr} (h : p ∈ S) : Same S H (upd H p o) := fun x hx => upd_ne fun z => hx (z ▸ h)
structure LL (H : Hp) (p : Addr) (qs : List Addr) (A : List (List Nat)) : Prop where
  top : H p = some (.lst (qs.map V.ref))
  len : qs.length = A.length
  row : ∀ (i : Nat) q ns, qs[i]? = some q → A[i]? = some ns → H q = some (.lst (ns.map nV))
  nd : qs.Nodup
  np : p ∉ qs
theorem LL.off {H H' : Hp} {p : Addr} {qs : List Addr} {A : List (List Nat)} (h : LL H p qs A) (s : ∀ x, x = p ∨ x ∈ qs → H' x = H x) : LL H' p qs A :=
  ⟨(s _ (.inl rfl)).trans h.top, h.len, fun i q ns h1 h2 => (s _ (.inr (List.mem_of_getElem? h1))).trans (h.row i q ns h1 h2), h.nd, h.np⟩
theorem LL.ex {H H' : Hp} {p : Addr} {qs : List Addr} {A : List (List Nat)} (h : LL H p qs A) (e : Ex H H') : LL H' p qs A :=
  ⟨e _ _ h.top, h.len, fun i q ns h1 h2 => e _ _ (h.row i q ns h1 h2), h.nd, h.np⟩
theorem LL.get {H : Hp} {p : Addr} {qs : List Addr} {A : List (List Nat)} (h : LL H p qs A) {i : Nat} (hi : i < A.length) : ∃ q, qs[i]? = some q ∧ H q = some (.lst (A[i].map nV)) := by
  have h1 : i < qs.length := by rw [h.len]; exact hi
  exact ⟨qs[i], List.getElem?_eq_getElem h1, h.row i _ _ (List.getElem?_eq_getElem h1) (List.getElem?_eq_getElem hi)⟩
def appAt (A : List (List Nat)) (i m : Nat) : List (List Nat) := A.set i (A.getD i [] ++ [m])
theorem appAt_len {A : List (List Nat)} {i m : Nat} : (appAt A i m).length = A.length := List.length_set
theorem appAt_mem {A : List (List Nat)} {i m v x : Nat} (hi : i < A.length) : x ∈ (appAt A i m).getD v [] ↔ x ∈ A.getD v [] ∨ (v = i ∧ x = m) := by
  unfold appAt
  rw [List.getD_eq_getElem?_getD, List.getElem?_set]
  by_cases e : i = v
  · subst e
    rw [if_pos rfl, if_pos hi]
    show x ∈ A.getD i [] ++ [m] ↔ _
    rw [List.mem_append, List.mem_singleton]
    exact ⟨fun h => h.elim .inl fun z => .inr ⟨rfl, z⟩, fun h => h.elim .inl fun z => .inr z.2⟩
  · rw [if_neg e, ← List.getD_eq_getElem?_getD]
    exact ⟨.inl, fun h => h.elim id fun z => absurd z.1.symm e⟩
theorem appAt_row {A : List (List Nat)} {i m v : Nat} : ((appAt A i m).getD v []).length ≤ (A.getD v []).length + 1 := by
  unfold appAt
  rw [List.getD_eq_getElem?_getD, List.getElem?_set]
  split
  · rename_i e
    subst e
    split
    · show (A.getD i [] ++ [m]).length ≤ _
      rw [List.length_append]
      exact Nat.le_refl _
    · exact Nat.zero_le _
  · rw [← List.getD_eq_getElem?_getD]
    omega
theorem LL.app {H : Hp} {p : Addr} {qs : List Addr} {A : List (List Nat)} (h : LL H p qs A) {i m : Nat} {q : Addr} (hq : qs[i]? = some q) (hi : i < A.length) : LL (upd H q (.lst ((A[i] ++ [m]).map nV))) p qs (appAt A i m) := by
  have hm := List.mem_of_getElem? hq
  refine ⟨by rw [upd_ne fun z => h.np (by rw [z]; exact hm)]; exact h.top, by rw [appAt_len]; exact h.len, fun j r ns h1 h2 => ?_, h.nd, h.np⟩
  unfold appAt at h2
  rw [List.getElem?_set] at h2
  by_cases e : i = j
  · subst e
    rw [if_pos rfl, if_pos hi] at h2
    rw [hq] at h1
    cases h1
    cases h2
    rw [upd_same, List.getD_eq_getElem?_getD, List.getElem?_eq_getElem hi]
    rfl
  · rw [if_neg e] at h2
    have ne : r ≠ q := fun z => by
      subst z
      have i1 := (List.getElem?_eq_some_iff.mp hq)
      have i2 := (List.getElem?_eq_some_iff.mp h1)
      obtain ⟨a1, b1⟩ := i1
      obtain ⟨a2, b2⟩ := i2
      have pw := List.pairwise_iff_getElem.mp h.nd
      rcases Nat.lt_or_gt_of_ne e with g | g
      · exact pw i j a1 a2 g (b1.trans b2.symm)
      · exact pw j i a2 a1 g (b2.trans b1.symm)
    rw [upd_ne ne]
    exact h.row j r ns h1 h2
section
variable {K : PySem.W.Frag} {σ : L2.St} {Hc : Hp} {D : Ends} {p : Addr} {qs : List Addr} {A : List (List Nat)} {te : TE} {Q : VK}
theorem atI_at {α : Type} {xs : List α} {i : Nat} {a : α} (h : xs[i]? = some a) : atI xs (i : Int) = some a := L2.atI_nat h
/-- b[i].append(m) -/
theorem s_app2 {j a b i m : Nat} (hj : σ[j]? = some (some (.ref p))) (ha : σ[a]? = some (some (nV i))) (hb : σ[b]? = some (some (nV m))) (L : LL Hc p qs A) (hi : i < A.length) (hz : (A.getD i []).length < 100000)
    (k : ∀ Hn, Same qs Hc Hn → LL Hn p qs (appAt A i m) → D.nx σ Hn) : tDrop (tBM K "list" rAppend (tOp (rIxL K) (tVar j) (tVar a)) (tCons (tVar b) tNil)) D σ Hc := by
  obtain ⟨q, h1, h2⟩ := L.get hi
  have ga : A.getD i [] = A[i] := by rw [List.getD_eq_getElem?_getD, List.getElem?_eq_getElem hi]; rfl
  rw [ga] at hz
  refine ⟨.ref p, hj, nV i, ha, p, qs.map V.ref, (i : Int), .ref q, rfl, rfl, sq_of L.top, atI_at (by rw [List.getElem?_map, h1]; rfl), .inl ⟨rfl, _, sq_of h2⟩, nV m, hb, q, A[i].map nV, nV m, rfl, rfl, h2, sz_lt (by rw [List.length_map]; exact hz), ?_⟩
  have e : A[i].map nV ++ [nV m] = (A[i] ++ [m]).map nV := by rw [List.map_append]; rfl
  rw [e]
  exact k _ (same_upd (List.mem_of_getElem? h1)) (L.app h1 hi)
theorem q_app2 {j a b i m : Nat} {tz : TS} (hj : σ[j]? = some (some (.ref p))) (ha : σ[a]? = some (some (nV i))) (hb : σ[b]? = some (some (nV m))) (L : LL Hc p qs A) (hi : i < A.length) (hz : (A.getD i []).length < 100000)
    (k : ∀ Hn, Same qs Hc Hn → LL Hn p qs (appAt A i m) → tz D σ Hn) : tSeq (tDrop (tBM K "list" rAppend (tOp (rIxL K) (tVar j) (tVar a)) (tCons (tVar b) tNil))) tz D σ Hc :=
  s_app2 (D := { D with nx := tz D }) hj ha hb L hi hz k
/-- [[] for _ in range(n)] -/
theorem lc_nest {a j n : Nat} {vs : List Nat} (ha : σ[a]? = some (some (nV n))) (hn : n ≤ 1000) (hw : ∀ v : V, wipe ((wipe σ vs).set j (some v)) vs = wipe σ vs)
    (k : ∀ p qs Hn, Ex Hc Hn → Hc p = none → (∀ q ∈ qs, Hc q = none) → LL Hn p qs (List.replicate n []) → Q (.ref p) Hn) : tLc (iRng1 (tCons (tVar a) tNil)) (gName j) tYes (tLst tNil) vs σ Hc Q := by
  refine ⟨nV n, ha, (n : Int), rfl, by omega, by omega, fun D hD => ?_⟩
  have hnn : ((n : Int)).toNat = n := by omega
  rw [hnn]
  refine ⟨fun i m H' => m = n - i ∧ i ≤ n ∧ Ex Hc H' ∧ ∃ qs : List Addr, qs.length = i ∧ H' D = some (.lst (qs.map V.ref)) ∧ qs.Nodup ∧ D ∉ qs ∧ ∀ q ∈ qs, Hc q = none ∧ H' q = some (.lst []), ⟨n, rfl, Nat.zero_le _, Ex.new hD, [], rfl, upd_same, List.nodup_nil, (fun z => nomatch z), fun q hq => nomatch hq⟩, ?_⟩
  rintro i m H' ⟨rfl, hil, e, qs, h1, h2, h3, h4, h5⟩
  by_cases hlt : i < n
  · refine .inr ⟨hlt, fun H' => i + 1 ≤ n ∧ Ex Hc H' ∧ ∃ qs : List Addr, qs.length = i + 1 ∧ H' D = some (.lst (qs.map V.ref)) ∧ qs.Nodup ∧ D ∉ qs ∧ ∀ q ∈ qs, Hc q = none ∧ H' q = some (.lst []), fun H' hh => ⟨n - (i + 1), by omega, rfl, hh⟩, fun x H'' y => ?_⟩
    obtain ⟨e1, e2⟩ := y
    subst e1 e2
    refine ⟨hw _, ?_⟩
    refine ⟨Nat.zero_le _, fun z hz => ?_⟩
    have nDz : D ≠ z := fun q => by rw [← q, h2] at hz; cases hz
    refine ⟨qs.map V.ref, by rw [upd_ne nDz]; exact h2, sz_lt (by rw [List.length_map]; omega), hlt, ?_, qs ++ [z], by rw [List.length_append, h1]; rfl, by rw [upd_same, List.map_append]; rfl, ?_, ?_, fun q hq => ?_⟩
    · exact Ex.mut (e.trans (Ex.new hz)) hD
    · refine List.nodup_append.mpr ⟨h3, by simp, fun a ha b hb => ?_⟩
      rw [List.mem_singleton.mp hb]
      intro q
      rw [q] at ha
      have := (h5 z ha).2
      rw [hz] at this
      cases this
    · intro q
      rcases List.mem_append.mp q with q | q
      · exact h4 q
      · exact nDz (List.mem_singleton.mp q)
    · rcases List.mem_append.mp hq with hq | hq
      · obtain ⟨g1, g2⟩ := h5 q hq
        have n1 : q ≠ z := fun w => by rw [w, hz] at g2; cases g2
        have n2 : q ≠ D := fun w => h4 (w ▸ hq)
        exact ⟨g1, by rw [upd_ne n2, upd_ne n1]; exact g2⟩
      · rw [List.mem_singleton.mp hq]
        exact ⟨fresh_back e hz, by rw [upd_ne nDz.symm, upd_same]⟩
  · have ei : i = n := by omega
    subst ei
    refine .inl ⟨Nat.le_refl _, k D qs H' e hD (fun q hq => (h5 q hq).1) ⟨h2, by rw [List.length_replicate]; exact h1, fun j q ns g1 g2 => ?_, h3, h4⟩⟩
    rw [(h5 q (List.mem_of_getElem? g1)).2]
    have g3 := List.mem_of_getElem? g2
    rw [(List.mem_replicate.mp g3).2]
    rfl
end
end Ns
set_option maxHeartbeats 1000000
namespace Ns
/-! ### what is reached -/
inductive Rch (R : Nat → Nat → Prop) (a : Nat) : Nat → Prop
  | refl : Rch R a a
  | step {v u : Nat} (h : Rch R a v) (r : R v u) : Rch R a u
theorem Rch.mono {R S : Nat → Nat → Prop} (m : ∀ v u, R v u → S v u) {a v : Nat} (h : Rch R a v) : Rch S a v := by
  induction h with
  | refl => exact .refl
  | step _ r ih => exact .step ih (m _ _ r)
theorem Rch.trans {R : Nat → Nat → Prop} {a b c : Nat} (h : Rch R a b) (g : Rch R b c) : Rch R a c := by
  induction g with
  | refl => exact h
  | step _ r ih => exact .step ih r
theorem Rch.back {R S : Nat → Nat → Prop} (m : ∀ v u, R v u → S u v) {a v : Nat} (h : Rch R a v) : Rch S v a := by
  induction h with
  | refl => exact .refl
  | step _ r ih => exact Rch.trans (.step .refl (m _ _ r)) ih
/-! ### who stands beside whom -/
def Ad (A : List (List Nat)) (v u : Nat) : Prop := u ∈ A.getD v []
def symS (A : List (List Nat)) (p : Nat × Nat) : List (List Nat) := appAt (appAt A p.1 p.2) p.2 p.1
def symA (n : Nat) (ps : List (Nat × Nat)) : List (List Nat) := ps.foldl symS (List.replicate n [])
def dirS (A : List (List Nat)) (p : Nat × Nat) : List (List Nat) := appAt A p.1 p.2
def dirA (n : Nat) (ps : List (Nat × Nat)) : List (List Nat) := ps.foldl dirS (List.replicate n [])
theorem fold_take {α β : Type} {f : β → α → β} {b : β} {l : List α} {i : Nat} {a : α} (h : l[i]? = some a) : (l.take (i + 1)).foldl f b = f ((l.take i).foldl f b) a := by
  rw [List.take_add_one, h, List.foldl_append]
  rfl
theorem rep_row {n v : Nat} : (List.replicate n ([] : List Nat)).getD v [] = [] := by
  rw [List.getD_eq_getElem?_getD, List.getElem?_replicate]
  split <;> rfl
structure AdOk (n : Nat) (R : Nat → Nat → Prop) (k : Nat) (A : List (List Nat)) : Prop where
  len : A.length = n
  row : ∀ v, (A.getD v []).length ≤ k
  mem : ∀ v u, Ad A v u ↔ R v u
theorem sym_fold {n : Nat} : ∀ (ps : List (Nat × Nat)) (A : List (List Nat)) (R : Nat → Nat → Prop) (k : Nat), (∀ p ∈ ps, p.1 < n ∧ p.2 < n) → AdOk n R k A → AdOk n (fun v u => R v u ∨ (v, u) ∈ ps ∨ (u, v) ∈ ps) (k + 2 * ps.length) (ps.foldl symS A)
  | [], A, R, k, _, h => ⟨h.len, h.row, fun v u => (h.mem v u).trans (by simp)⟩
  | p :: ps, A, R, k, hp, h => by
    have hb := hp p List.mem_cons_self
    have l1 : (appAt A p.1 p.2).length = n := appAt_len.trans h.len
    have ih := sym_fold ps (symS A p) (fun v u => R v u ∨ (v = p.1 ∧ u = p.2) ∨ (v = p.2 ∧ u = p.1)) (k + 2) (fun q hq => hp q (List.mem_cons_of_mem _ hq)) ⟨appAt_len.trans l1, fun v => by
      have g1 := appAt_row (A := appAt A p.1 p.2) (i := p.2) (m := p.1) (v := v)
      have g2 := appAt_row (A := A) (i := p.1) (m := p.2) (v := v)
      have g3 := h.row v
      unfold symS
      omega, fun v u => by
      unfold Ad symS
      rw [appAt_mem (by rw [l1]; exact hb.2), appAt_mem (by rw [h.len]; exact hb.1), or_assoc]
      exact or_congr (h.mem v u) Iff.rfl⟩
    obtain ⟨a, b⟩ := p
    refine ⟨ih.len, fun v => by have := ih.row v; rw [List.length_cons]; rw [List.foldl_cons]; omega, fun v u => (ih.mem v u).trans ?_⟩
    simp only [List.mem_cons, Prod.mk.injEq]
    constructor
    · rintro ((h | h | h) | h | h)
      · exact .inl h
      · exact .inr (.inl (.inl h))
      · exact .inr (.inr (.inl ⟨h.2, h.1⟩))
      · exact .inr (.inl (.inr h))
      · exact .inr (.inr (.inr h))
    · rintro (h | (h | h) | (h | h))
      · exact .inl (.inl h)
      · exact .inl (.inr (.inl h))
      · exact .inr (.inl h)
      · exact .inl (.inr (.inr ⟨h.2, h.1⟩))
      · exact .inr (.inr h)
theorem dir_fold {n : Nat} : ∀ (ps : List (Nat × Nat)) (A : List (List Nat)) (R : Nat → Nat → Prop) (k : Nat), (∀ p ∈ ps, p.1 < n ∧ p.2 < n) → AdOk n R k A → AdOk n (fun v u => R v u ∨ (v, u) ∈ ps) (k + ps.length) (ps.foldl dirS A)
  | [], A, R, k, _, h => ⟨h.len, h.row, fun v u => (h.mem v u).trans (by simp)⟩
  | p :: ps, A, R, k, hp, h => by
    have hb := hp p List.mem_cons_self
    have ih := dir_fold ps (dirS A p) (fun v u => R v u ∨ (v = p.1 ∧ u = p.2)) (k + 1) (fun q hq => hp q (List.mem_cons_of_mem _ hq)) ⟨appAt_len.trans h.len, fun v => by
      have g2 := appAt_row (A := A) (i := p.1) (m := p.2) (v := v)
      have g3 := h.row v
      unfold dirS
      omega, fun v u => by
      unfold Ad dirS
      rw [appAt_mem (by rw [h.len]; exact hb.1)]
      exact or_congr (h.mem v u) Iff.rfl⟩
    obtain ⟨a, b⟩ := p
    refine ⟨ih.len, fun v => by have := ih.row v; rw [List.length_cons]; rw [List.foldl_cons]; omega, fun v u => (ih.mem v u).trans ?_⟩
    simp only [List.mem_cons, Prod.mk.injEq]
    rw [or_assoc]
theorem rep_ok (n : Nat) : AdOk n (fun _ _ => False) 0 (List.replicate n []) := ⟨List.length_replicate, fun v => by rw [rep_row]; exact Nat.le_refl _, fun v u => by unfold Ad; rw [rep_row]; simp⟩
theorem symA_ok {n : Nat} {ps : List (Nat × Nat)} (h : ∀ p ∈ ps, p.1 < n ∧ p.2 < n) : AdOk n (fun v u => (v, u) ∈ ps ∨ (u, v) ∈ ps) (2 * ps.length) (symA n ps) := by
  have z := sym_fold ps _ _ _ h (rep_ok n)
  exact ⟨z.len, fun v => by have := z.row v; unfold symA; omega, fun v u => (z.mem v u).trans (by simp)⟩
theorem dirA_ok {n : Nat} {ps : List (Nat × Nat)} (h : ∀ p ∈ ps, p.1 < n ∧ p.2 < n) : AdOk n (fun v u => (v, u) ∈ ps) ps.length (dirA n ps) := by
  have z := dir_fold ps _ _ _ h (rep_ok n)
  exact ⟨z.len, fun v => by have := z.row v; unfold dirA; omega, fun v u => (z.mem v u).trans (by simp)⟩
/-! ### labels -/
def negs (L : List Int) : Nat := L.countP fun z => decide (z < 0)
theorem negs_set {L : List Int} {u : Nat} {z : Int} {s : Nat} (h : L[u]? = some z) (hz : z < 0) : negs (L.set u (s : Int)) + 1 = negs L := by
  induction L generalizing u with
  | nil => simp at h
  | cons a L ih =>
    cases u with
    | zero =>
      have e : a = z := by simpa using h
      subst e
      unfold negs
      rw [List.set_cons_zero, List.countP_cons, List.countP_cons, decide_eq_false (by omega : ¬ (s : Int) < 0), decide_eq_true hz]
      rfl
    | succ u =>
      have e := ih (u := u) (by simpa using h)
      unfold negs at e ⊢
      rw [List.set_cons_succ, List.countP_cons, List.countP_cons]
      omega
structure LI (A : List (List Nat)) (s : Nat) (L0 L : List Int) (T : List Nat) (x i : Nat) : Prop where
  len : L.length = A.length
  tl : ∀ t ∈ T, L[t]? = some (s : Int)
  rel : ∀ v : Nat, L[v]? = L0[v]? ∨ ((∃ z, L0[v]? = some z ∧ z < 0) ∧ L[v]? = some (s : Int))
  snd : s = 0 → ∀ v : Nat, L[v]? = some 0 → Rch (Ad A) 0 v
  clo : s = 0 → ∀ v : Nat, L[v]? = some 0 → v ∈ T ∨ ∀ j u : Nat, (A.getD v [])[j]? = some u → (v = x → j < i) → ∃ z, L[u]? = some z ∧ 0 ≤ z
  st : L[s]? = some (s : Int)
section
variable {A : List (List Nat)} {s : Nat} {L0 L : List Int} {T : List Nat} {x i : Nat}
theorem get_lt {α : Type} {l : List α} {v : Nat} {a : α} (h : l[v]? = some a) : v < l.length := (List.getElem?_eq_some_iff.mp h).1
theorem LI.pop (h : LI A s L0 L (T ++ [x]) A.length 0) : LI A s L0 L T x 0 := ⟨h.len, fun t ht => h.tl t (List.mem_append_left _ ht), h.rel, h.snd, fun hs v hv => by
  rcases h.clo hs v hv with g | g
  · rcases List.mem_append.mp g with g | g
    · exact .inl g
    · have e := List.mem_singleton.mp g
      exact .inr fun j u _ hj => absurd (hj e) (Nat.not_lt_zero _)
  · refine .inr fun j u hu _ => g j u hu fun e => ?_
    have := get_lt hv
    rw [h.len] at this
    omega, h.st⟩
theorem LI.full (h : LI A s L0 L T x (A.getD x []).length) : LI A s L0 L T A.length 0 := ⟨h.len, h.tl, h.rel, h.snd, fun hs v hv => by
  rcases h.clo hs v hv with g | g
  · exact .inl g
  · exact .inr fun j u hu _ => g j u hu fun e => by subst e; exact get_lt hu, h.st⟩
theorem LI.seen {u : Nat} {z : Int} (h : LI A s L0 L T x i) (hu : (A.getD x [])[i]? = some u) (hz : L[u]? = some z) (z0 : 0 ≤ z) : LI A s L0 L T x (i + 1) := ⟨h.len, h.tl, h.rel, h.snd, fun hs v hv => by
  rcases h.clo hs v hv with g | g
  · exact .inl g
  · refine .inr fun j w hw hj => ?_
    by_cases e : v = x ∧ j = i
    · obtain ⟨e1, e2⟩ := e
      subst e1 e2
      rw [hu] at hw
      cases hw
      exact ⟨z, hz, z0⟩
    · refine g j w hw fun e1 => ?_
      have := hj e1
      have : j ≠ i := fun e2 => e ⟨e1, e2⟩
      omega, h.st⟩
theorem set_get {L : List Int} {u v : Nat} {y : Int} (hu : u < L.length) : (L.set u y)[v]? = if u = v then some y else L[v]? := by
  rw [List.getElem?_set]
  split
  · rename_i e
    subst e
    first | rfl | rw [if_pos hu]
  · rfl
theorem LI.new {u : Nat} {z : Int} (h : LI A s L0 L T x i) (hu : (A.getD x [])[i]? = some u) (hx : L[x]? = some (s : Int)) (hz : L[u]? = some z) (z0 : z < 0) : LI A s L0 (L.set u (s : Int)) (T ++ [u]) x (i + 1) := by
  have hl := get_lt hz
  have s0 : (0 : Int) ≤ (s : Int) := by omega
  refine ⟨by rw [List.length_set]; exact h.len, fun t ht => ?_, fun v => ?_, fun hs v hv => ?_, fun hs v hv => ?_, ?_⟩
  · rw [set_get hl]
    split
    · rfl
    · rename_i n
      rcases List.mem_append.mp ht with g | g
      · exact h.tl t g
      · exact absurd (List.mem_singleton.mp g).symm n
  · rw [set_get hl]
    split
    · rename_i e
      subst e
      refine .inr ⟨?_, rfl⟩
      rcases h.rel u with g | g
      · exact ⟨z, g.symm.trans hz, z0⟩
      · rw [g.2] at hz
        cases hz
        omega
    · exact h.rel v
  · rw [set_get hl] at hv
    split at hv
    · rename_i e
      subst e
      subst hs
      exact .step (h.snd rfl x hx) (List.mem_of_getElem? hu)
    · exact h.snd hs v hv
  · rw [set_get hl] at hv
    by_cases e : u = v
    · exact .inl (List.mem_append_right _ (List.mem_singleton.mpr e.symm))
    · rw [if_neg e] at hv
      rcases h.clo hs v hv with g | g
      · exact .inl (List.mem_append_left _ g)
      · refine .inr fun j w hw hj => ?_
        by_cases e2 : u = w
        · exact ⟨s, by rw [set_get hl, if_pos e2], s0⟩
        · by_cases e3 : v = x ∧ j = i
          · obtain ⟨e1, e4⟩ := e3
            subst e1 e4
            rw [hu] at hw
            cases hw
            exact absurd rfl e2
          · obtain ⟨y, y1, y2⟩ := g j w hw fun e1 => by
              have := hj e1
              have : j ≠ i := fun e4 => e3 ⟨e1, e4⟩
              omega
            exact ⟨y, by rw [set_get hl, if_neg e2]; exact y1, y2⟩
  · rw [set_get hl]
    split
    · rfl
    · exact h.st
/-- labels before start i -/
structure LO (A : List (List Nat)) (i : Nat) (L : List Int) : Prop where
  len : L.length = A.length
  neg : i = 0 → ∀ (v : Nat) (z : Int), L[v]? = some z → z < 0
  pos : 0 < i → ∀ v : Nat, v < A.length → (L[v]? = some 0 ↔ Rch (Ad A) 0 v)
theorem LO.zero : LO A 0 (List.replicate A.length (-1)) := ⟨List.length_replicate, fun _ v z h => (by
  rw [List.getElem?_replicate] at h
  split at h
  · cases h; decide
  · cases h), fun h => absurd h (Nat.lt_irrefl _)⟩
theorem LO.skip {z : Int} (h : LO A i L) (hz : L[i]? = some z) (z0 : ¬ z < 0) : LO A (i + 1) L := ⟨h.len, (fun e => (nomatch e)), fun _ => by
  cases i with
  | zero => exact absurd (h.neg rfl 0 z hz) z0
  | succ i => exact h.pos (Nat.succ_pos _)⟩
theorem LO.start {z : Int} (h : LO A i L) (hz : L[i]? = some z) (z0 : z < 0) : LI A i L (L.set i (i : Int)) [i] A.length 0 := by
  have hl := get_lt hz
  refine ⟨by rw [List.length_set]; exact h.len, fun t ht => ?_, fun v => ?_, fun hs v hv => ?_, fun hs v hv => ?_, by rw [set_get hl, if_pos rfl]⟩
  · rw [List.mem_singleton.mp ht, set_get hl, if_pos rfl]
  · rw [set_get hl]
    split
    · rename_i e
      subst e
      exact .inr ⟨⟨z, hz, z0⟩, rfl⟩
    · exact .inl rfl
  · rw [set_get hl] at hv
    split at hv
    · rename_i e
      rw [← e, hs]
      exact .refl
    · have := h.neg hs v 0 hv
      omega
  · rw [set_get hl] at hv
    split at hv
    · rename_i e
      exact .inl (List.mem_singleton.mpr e.symm)
    · have := h.neg hs v 0 hv
      omega
theorem LI.done (h : LI A i L0 L [] A.length 0) (o : LO A i L0) (hA : ∀ v u, Ad A v u → u < A.length) : LO A (i + 1) L := by
  refine ⟨h.len, (fun e => (nomatch e)), fun _ v hv => ?_⟩
  cases i with
  | zero =>
    constructor
    · exact h.snd rfl v
    · intro r
      have zer : ∀ (w : Nat) (z : Int), L[w]? = some z → 0 ≤ z → L[w]? = some (0 : Int) := fun w z hw z0 => by
        rcases h.rel w with g | g
        · have := o.neg rfl w z (g.symm.trans hw)
          omega
        · exact g.2
      clear hv
      induction r with
      | refl => exact h.st
      | step _ r ih =>
        rcases h.clo rfl _ ih with g | g
        · cases g
        · obtain ⟨j, hj, e⟩ := List.getElem_of_mem r
          obtain ⟨z, z1, z2⟩ := g j _ (by rw [List.getElem?_eq_getElem hj, e]) fun e => by
            have := get_lt ih
            rw [h.len] at this
            omega
          exact zer _ z z1 z2
  | succ i =>
    rw [← o.pos (Nat.succ_pos _) v hv]
    rcases h.rel v with g | ⟨⟨z, g1, g2⟩, g3⟩
    · rw [g]
    · constructor
      · intro e
        rw [g3] at e
        injection e with e
        omega
      · intro e
        rw [g1] at e
        injection e with e
        omega
end
end Ns
set_option maxHeartbeats 1000000
namespace Ns
open PySem PySem.Spec PyProof.Rows L2 Evl RZ Dl Dm
section
variable {K : PySem.W.Frag} {σ : L2.St} {H : Hp} {D : Ends} {l : Addr} {L : List Int} {z : Int} {i j a : Nat}
theorem ixN_at {n i : Nat} (h : i < n) : ixN n (i : Int) = some i := by
  unfold ixN
  rw [if_pos (by omega), if_pos (by omega)]
  rw [Int.toNat_natCast]
theorem s_ifLt {t u : TS} (hj : σ[j]? = some (some (.ref l))) (ha : σ[a]? = some (some (nV i))) (h : H l = some (.lst (L.map V.int))) (hz : L[i]? = some z) (h1 : z < 0 → t D σ H) (h2 : ¬ z < 0 → u D σ H) :
    tIfS (tTest (tOp (rI0 fun i j => .bl (decide (i < j))) (tOp (rIxL K) (tVar j) (tVar a)) (tC (.int 0)))) t u D σ H := by
  refine ⟨.ref l, hj, nV i, ha, l, L.map V.int, (i : Int), .int z, rfl, rfl, sq_of h, atI_at (by rw [List.getElem?_map, hz]; rfl), z, 0, rfl, rfl, decide (z < 0), rfl, ?_⟩
  show if decide (z < 0) = true then t D σ H else u D σ H
  by_cases c : z < 0
  · rw [if_pos (decide_eq_true c)]
    exact h1 c
  · rw [if_neg (by rw [decide_eq_false c]; exact Bool.false_ne_true)]
    exact h2 c
theorem q_setI {tz : TS} {s : Nat} {b : Nat} (hb : σ[b]? = some (some (nV s))) (hj : σ[j]? = some (some (.ref l))) (ha : σ[a]? = some (some (nV i))) (h : H l = some (.lst (L.map V.int))) (hi : i < L.length)
    (k : tz D σ (upd H l (.lst ((L.set i (s : Int)).map V.int)))) : tSeq (tAsg (tVar b) (gSub (tVar j) (tVar a) rSetL)) tz D σ H := by
  refine ⟨nV s, hb, .ref l, hj, nV i, ha, l, L.map V.int, (i : Int), i, rfl, rfl, h, ixN_at (by rw [List.length_map]; exact hi), ?_⟩
  have e : (L.map V.int).set i (nV s) = (L.set i (s : Int)).map V.int := by rw [List.map_set]; rfl
  rw [e]
  exact k
end
theorem q_nest {K : PySem.W.Frag} {σ : L2.St} {Hc : Hp} {D : Ends} {tz : TS} {a j n i : Nat} {vs : List Nat} (ha : σ[a]? = some (some (nV n))) (hn : n ≤ 1000) (hw : ∀ v : V, wipe ((wipe σ vs).set j (some v)) vs = wipe σ vs)
    (k : ∀ p qs Hn, Ex Hc Hn → Hc p = none → (∀ q ∈ qs, Hc q = none) → LL Hn p qs (List.replicate n []) → tz D (σ.set i (some (.ref p))) Hn) : tSeq (tAsg (tLc (iRng1 (tCons (tVar a) tNil)) (gName j) tYes (tLst tNil) vs) (gName i)) tz D σ Hc :=
  lc_nest (Q := fun v H => tz D (σ.set i (some v)) H) ha hn hw k
theorem q_one {σ : L2.St} {H : Hp} {D : Ends} {tz : TS} {i b : Nat} {v : V} (hb : σ[b]? = some (some v)) (k : ∀ t, H t = none → tz D (σ.set i (some (.ref t))) (upd H t (.lst [v]))) : tSeq (tAsg (tLst (tCons (tVar b) tNil)) (gName i)) tz D σ H :=
  ⟨v, hb, show 1 ≤ sizeLine from sz_of (by decide), k⟩
theorem flat_rep {α : Type} (x : α) : ∀ k, (List.replicate k [x]).flatten = List.replicate k x
  | 0 => rfl
  | k + 1 => by rw [List.replicate_succ, List.flatten_cons, flat_rep x k]; rfl
/-! ### how many there are -/
open K50 in
theorem onceI_mem {L : List Int} {x : Int} : x ∈ onceI L ↔ x ∈ L := by
  have key : ∀ (L acc : List Int), x ∈ L.foldl addI acc ↔ x ∈ acc ∨ x ∈ L := by
    intro L
    induction L with
    | nil => intro acc; simp
    | cons a L ih =>
      intro acc
      rw [List.foldl_cons, ih]
      unfold addI
      split
      · rename_i h
        constructor
        · rintro (g | g)
          · exact .inl g
          · exact .inr (List.mem_cons_of_mem _ g)
        · rintro (g | g)
          · exact .inl g
          · rcases List.mem_cons.mp g with g | g
            · subst g; exact .inl h
            · exact .inr g
      · simp [or_assoc]
  unfold onceI
  rw [key]
  simp
open K50 in
theorem onceI_nodup (L : List Int) : (onceI L).Nodup := by
  have key : ∀ (L acc : List Int), acc.Nodup → (L.foldl addI acc).Nodup := by
    intro L
    induction L with
    | nil => intro acc h; exact h
    | cons a L ih =>
      intro acc h
      rw [List.foldl_cons]
      refine ih _ ?_
      unfold addI
      split
      · exact h
      · rename_i g
        refine List.nodup_append.mpr ⟨h, by simp, fun x hx y hy => ?_⟩
        rw [List.mem_singleton.mp hy]
        intro e
        exact g (e ▸ hx)
  exact key L [] List.nodup_nil
theorem one_of {α : Type} {l : List α} (nd : l.Nodup) {a : α} (h : ∀ x ∈ l, x = a) (ne : a ∈ l) : l.length = 1 := by
  match l, nd, h, ne with
  | [x], _, _, _ => rfl
  | x :: y :: r, nd, h, _ =>
    have h1 := h x List.mem_cons_self
    have h2 := h y (List.mem_cons_of_mem _ List.mem_cons_self)
    have h3 := (List.nodup_cons.mp nd).1
    rw [h1, h2] at h3
    exact absurd List.mem_cons_self h3
open K50 in
theorem once_one {L : List Int} (h0 : L[0]? = some 0) : (onceI L).length = 1 ↔ ∀ v : Nat, v < L.length → L[v]? = some 0 := by
  constructor
  · intro h v hv
    match q : onceI L, h with
    | [b], _ =>
      have m : ∀ x ∈ L, x = b := fun x hx => by
        have := onceI_mem.mpr hx
        rw [q] at this
        exact List.mem_singleton.mp this
      have e0 := m 0 (List.mem_of_getElem? h0)
      rw [List.getElem?_eq_getElem hv, m _ (List.getElem_mem hv), ← e0]
  · intro h
    refine one_of (onceI_nodup L) (a := 0) (fun x hx => ?_) (onceI_mem.mpr (List.mem_of_getElem? h0))
    obtain ⟨v, hv, e⟩ := List.getElem_of_mem (onceI_mem.mp hx)
    have := h v hv
    rw [List.getElem?_eq_getElem hv, e] at this
    exact Option.some.inj this
end Ns
namespace K50
open PySem PySem.W PySem.Spec PyProof.Rows L2 LamX NdefX Evl RZ Dl Dn Dm Lz K0 Mx Ns ClX
/-! ### lots_of -/
def edD (p : Nat × Nat) : PyData := .tuple [.int (p.1 : Int), .int (p.2 : Int)]
def lotsPre : Nat × List (Nat × Nat) → Hp → List V → Prop := fun a H vs => 0 < a.1 ∧ a.1 ≤ 400 ∧ a.2.length ≤ 1000 ∧ (∀ p ∈ a.2, p.1 < a.1 ∧ p.2 < a.1) ∧ ∃ v, vs = [nV a.1, v] ∧ Tp H v (.list (a.2.map edD))
def lotsPost : Nat × List (Nat × Nat) → Hp → V → Prop := fun a H v => ∃ xs, LstV xs H v ∧ (xs.length = 1 ↔ ∀ v, v < a.1 → Rch (Ad (symA a.1 a.2)) 0 v)
theorem mn_lots {a : Nat × List (Nat × Nat)} : Mn (lotsPost a) := fun H H' v e ⟨xs, h1, h2⟩ => ⟨xs, mn_lst _ _ v e h1, h2⟩
theorem mn_grp {L : List Int} : Mn (grpPost L) := fun H H' v e ⟨xs, h1, h2⟩ => ⟨xs, mn_lst _ _ v e h1, h2⟩
abbrev nLots : List Str := ["many", "pairs", "beside", "one", "other", "labels", "start", "todo", "near", "_"]
theorem scLots : FnScope nLots ["many", "pairs"] (defScope sLots) := ⟨rfl, rfl, rfl, by decide +kernel, rfl, by decide +kernel, by decide +kernel⟩
section
variable {P : Program} {w : World} {K : PySem.W.Frag} {mg : Str → Option Value} {base : Heap} {C : Addr}
theorem ok_lots {f : Addr} {fd : FuncData} (F : Fun K "lots_of" "lots_of" sLots f fd) (B : Bl mg) (G : CallF P w K mg base 1 "grouped" ["labels"] (spW 1 grpPre grpPost)) : FnOk P w K mg base CX0 2 f fd ["many", "pairs"] (spW 2 lotsPre lotsPost) := by
  refine F.ok scLots (fun vs H Q E h => spW_len h) (fun cdv A outer s H vs Q E hr h => ?_)
  obtain ⟨fG, dG, oG, gG, kG, bG⟩ := G
  refine ⟨_, pss_cons (ps_setLc (i := 2) (own := [("_", 9)]) (g := gName 9) (tt := tYes) (te := tLst tNil) rfl scLots.nd rfl rfl rfl (pi_range1 (by rfl) B.range (pa_cons (pv 0) pa_nil))
        (blkOk_by (own := [("_", 9)]) (N := nLots) (sc := defScope sLots) (by decide +kernel)) (fun _ _ _ _ _ => pg_name (i := 9) scLots.nd rfl (Or.inl rfl)) (fun _ _ _ _ _ => pts_nil) (fun _ _ _ _ _ => pe_lst pa_nil))
    (pss_cons (ps_for PassesOwn.never rfl (pi_list (pv 1)) (pg_tup rfl (pgs_cons (pg_name (i := 3) scLots.nd rfl (.inl rfl)) (pgs_cons (pg_name (i := 4) scLots.nd rfl (.inl rfl)) pgs_nil)))
      (pss_cons (ps_expr (pe_bm PySem.F.plainAttrs_list PySem.F.slot_list_append PySem.F.type_list_append mt_append (pe_ix ix_list (pv 2) (pv 3) (fun _ _ => rfl)) (pa_cons (pv 4) pa_nil)))
      (pss_one (ps_expr (pe_bm PySem.F.plainAttrs_list PySem.F.slot_list_append PySem.F.type_list_append mt_append (pe_ix ix_list (pv 2) (pv 4) (fun _ _ => rfl)) (pa_cons (pv 3) pa_nil))))))
    (pss_cons (ps_set (i := 5) scLots.nd rfl (Or.inl rfl) (pe_op op_rep (pe_lst (pa_cons (pe_un un_neg pe_int) pa_nil)) (pv 0)))
    (pss_cons (ps_for PassesOwn.never rfl (pi_range1 (by rfl) B.range (pa_cons (pv 0) pa_nil)) (pg_name (i := 6) scLots.nd rfl (Or.inl rfl))
      (pss_one (ps_if (pt_cmpR op_lt (pe_ix ix_list (pv 5) (pv 6) (fun _ _ => rfl)) pe_int (nomark _))
        (pss_cons (ps_asg (pv 6) (pg_sub (pv 5) (pv 6) set_list))
        (pss_cons (ps_set (i := 7) scLots.nd rfl (Or.inl rfl) (pe_lst (pa_cons (pv 6) pa_nil)))
        (pss_one (ps_while PassesOwn.never (pt_truth (pv 7) (fun _ => rfl))
          (pss_one (ps_for PassesOwn.never rfl (pi_list (pe_ix ix_list (pv 2) (pe_bm0 PySem.F.plainAttrs_list PySem.F.slot_list_pop PySem.F.type_list_pop mt_pop (pv 7)) (fun _ _ => rfl))) (pg_name (i := 8) scLots.nd rfl (Or.inl rfl))
            (pss_one (ps_if (pt_cmpR op_lt (pe_ix ix_list (pv 5) (pv 8) (fun _ _ => rfl)) pe_int (nomark _))
              (pss_cons (ps_asg (pv 6) (pg_sub (pv 5) (pv 8) set_list))
              (pss_one (ps_expr (pe_bm PySem.F.plainAttrs_list PySem.F.slot_list_append PySem.F.type_list_append mt_append (pv 7) (pa_cons (pv 8) pa_nil)))))
              pss_nil))))))))
        pss_nil)))
    (pss_one (ps_ret (pe_call oG hr (by rfl) gG kG bG .nil pass0 (pa_cons (pv 5) pa_nil))))))), ?_⟩
  obtain ⟨Bb, ⟨n, ps⟩, e, hn, ⟨n0, n4, pl, hp, v, rfl, hv⟩, q⟩ := h
  have pl : ps.length ≤ 1000 := pl
  have n0 : 0 < n := n0
  have n4 : n ≤ 400 := n4
  refine q_nest (K := K) (a := 0) (n := n) rfl (by omega) ?_ fun p qs H1 e1 pN qN LL1 => ?_
  · exact fun _ => rfl
  cases hv with
  | @lst a xs _ ha hs =>
    have ea := e _ _ ha
    have es1 := Ex.refl H
    refine ⟨.ref a, rfl, a, rfl, ⟨xs, sq_of (e1 _ _ ea)⟩, ?_⟩
    have lx : xs.length = ps.length := by rw [dp_len hs, List.length_map]
    have adk : ∀ i, AdOk n _ (2 * (ps.take i).length) (symA n (ps.take i)) := fun i => symA_ok fun z hz => hp z (List.mem_of_mem_take hz)
    refine for_list (fun i σ' H' => ∃ x3 x4, Ex H H' ∧ LL H' p qs (symA n (ps.take i)) ∧ σ' = [some (nV n), some (.ref a), some (.ref p), x3, x4, none, none, none, none, none]) ⟨none, none, e1, LL1, rfl⟩ (fun i σ' H' _ ⟨_, _, z, _⟩ => sq_of (z _ _ ea)) ?_ ?_
    · rintro i x σ' H' hx ⟨y3, y4, e2, L2, rfl⟩
      obtain ⟨d, hd, td⟩ := dp_getV hs hx
      have hlt : i < ps.length := by have := get_lt hx; omega
      have hpi : ps[i]? = some ps[i] := List.getElem?_eq_getElem hlt
      rw [List.getElem?_map, hpi] at hd
      obtain rfl := Option.some.inj hd
      refine g_pair (Tp.ex e _ _ td) e2 fun va vb ta tb => ?_
      cases ta
      cases tb
      have A0 := adk i
      have hb := hp _ (List.mem_of_getElem? hpi)
      have r1 := A0.row ps[i].1
      have tl : (ps.take i).length ≤ ps.length := by rw [List.length_take]; omega
      refine q_app2 (j := 2) (a := 3) (b := 4) (i := ps[i].1) (m := ps[i].2) rfl rfl rfl L2 (by rw [A0.len]; exact hb.1) (by omega) fun H3 s3 L3 => ?_
      have r2 := A0.row ps[i].2
      have r3 := appAt_row (A := symA n (ps.take i)) (i := ps[i].1) (m := ps[i].2) (v := ps[i].2)
      refine s_app2 (j := 2) (a := 4) (b := 3) (i := ps[i].2) (m := ps[i].1) rfl rfl rfl L3 (by rw [appAt_len, A0.len]; exact hb.2) (by omega) fun H4 s4 L4 => ?_
      refine ⟨_, _, s4.ex (s3.ex e2 qN) qN, ?_, rfl⟩
      unfold symA
      rw [fold_take hpi]
      exact L4
    · rintro σ' H' ⟨x3, x4, e2, L2, rfl⟩
      rw [lx, List.take_length] at L2
      have A0 := symA_ok hp
      generalize hAe : symA n ps = A at L2 A0 ⊢
      have hA : ∀ v u, Ad A v u → u < A.length := fun v u h => by
        rw [A0.len]
        rcases (A0.mem v u).mp h with h | h
        · exact (hp _ h).2
        · exact (hp _ h).1
      have len : A.length = n := A0.len
      refine ⟨1, rfl, show 1 ≤ sizeLine from sz_of (by decide), fun z hz => ⟨nV n, rfl, z, (n : Int), _, rfl, rfl, upd_same, by omega, by omega, sz_of (by simp; omega), fun l hl => ?_⟩⟩
      have fl : (List.replicate ((n : Int)).toNat [V.int (-1)]).flatten = (List.replicate A.length (-1 : Int)).map V.int := by rw [Int.toNat_natCast, flat_rep, List.map_replicate, len]
      rw [show V.int (-1) = V.int (-1) from rfl] at fl
      have e3 := Ex.new (o := .lst [V.int (-1)]) hz
      have e4 := (e3.trans (Ex.new (o := .lst (List.replicate ((n : Int)).toNat [V.int (-1)]).flatten) hl))
      have L5 := L2.ex e4
      have e5 := e2.trans e4
      have lN : H l = none := fresh_back (e2.trans e3) hl
      have lp : l ≠ p := fun q => by rw [q, (L2.ex e3).top] at hl; cases hl
      have lq : l ∉ qs := fun q => by
        obtain ⟨i, hi, e⟩ := List.getElem_of_mem q
        have := (L2.ex e3).row i l (A[i]'(by rw [← L2.len]; exact hi)) (by rw [List.getElem?_eq_getElem hi, e]) (List.getElem?_eq_getElem _)
        rw [hl] at this
        cases this
      have hl5 : upd (upd H' z (.lst [V.int (-1)])) l (.lst (List.replicate ((n : Int)).toNat [V.int (-1)]).flatten) l = some (.lst ((List.replicate A.length (-1 : Int)).map V.int)) := by rw [upd_same, fl]
      show tSeq _ _ _ [some (nV n), some (.ref a), some (.ref p), x3, x4, some (.ref l), none, none, none, none] (upd (upd H' z (.lst [V.int (-1)])) l (.lst (List.replicate ((n : Int)).toNat [V.int (-1)]).flatten))
      generalize upd (upd H' z (.lst [V.int (-1)])) l (.lst (List.replicate ((n : Int)).toNat [V.int (-1)]).flatten) = H5 at L5 e5 hl5 ⊢
      clear fl e3 e4
      refine ⟨nV n, rfl, (n : Int), rfl, by omega, by omega, ?_⟩
      rw [Int.toNat_natCast]
      refine for_range (fun i σ' H' => ∃ L x6 x7 x8, Ex H H' ∧ LL H' p qs A ∧ H' l = some (.lst (L.map V.int)) ∧ LO A i L ∧ σ' = [some (nV n), some (.ref a), some (.ref p), x3, x4, some (.ref l), x6, x7, x8, none]) ⟨_, none, none, none, e5, L5, hl5, LO.zero, rfl⟩ ?_ ?_
      · rintro i σ' H6 hi ⟨L, y6, y7, y8, e6, L6, hl6, o6, rfl⟩
        rw [Int.zero_add]
        have hiL : i < L.length := by rw [o6.len, len]; exact hi
        refine s_ifLt (j := 5) (a := 6) (L := L) (z := L[i]) rfl rfl hl6 (List.getElem?_eq_getElem hiL) (fun z0 => ?_) fun z0 => ?_
        · have I0 := o6.start (List.getElem?_eq_getElem hiL) z0
          refine q_setI (s := i) (b := 6) (j := 5) (a := 6) rfl rfl rfl hl6 hiL ?_
          have nl : l ∉ p :: qs := fun q => by
            rcases List.mem_cons.mp q with q | q
            · exact lp q
            · exact lq q
          have e7 : Ex H (upd H6 l (.lst ((L.set i (i : Int)).map V.int))) := Ex.mut e6 lN
          have L7 : LL (upd H6 l (.lst ((L.set i (i : Int)).map V.int))) p qs A := L6.off fun x hx => upd_ne fun q => by
            subst q
            rcases hx with hx | hx
            · exact lp hx
            · exact lq hx
          have hl7 : upd H6 l (.lst ((L.set i (i : Int)).map V.int)) l = some (.lst ((L.set i (i : Int)).map V.int)) := upd_same
          generalize upd H6 l (.lst ((L.set i (i : Int)).map V.int)) = H7 at e7 L7 hl7 ⊢
          refine q_one (v := nV i) rfl fun t ht => ?_
          have tN : H t = none := fresh_back e7 ht
          have tp : t ≠ p := fun q => by rw [q, L7.top] at ht; cases ht
          have tl : t ≠ l := fun q => by rw [q, hl7] at ht; cases ht
          have tq : t ∉ qs := fun q => by
            obtain ⟨i, hi, e⟩ := List.getElem_of_mem q
            have := L7.row i t (A[i]'(by rw [← L7.len]; exact hi)) (by rw [List.getElem?_eq_getElem hi, e]) (List.getElem?_eq_getElem _)
            rw [ht] at this
            cases this
          refine ⟨fun m σ' H' => ∃ L1 T x8, m = 2 * negs L1 + T.length ∧ 2 * negs L1 + T.length ≤ 2 * n + 1 ∧ Ex H H' ∧ LL H' p qs A ∧ H' l = some (.lst (L1.map V.int)) ∧ H' t = some (.lst (T.map nV)) ∧ LI A i L L1 T A.length 0 ∧ σ' = [some (nV n), some (.ref a), some (.ref p), x3, x4, some (.ref l), some (nV i), some (.ref t), x8, none],
            ⟨_, _, [i], y8, rfl, by have n1 : negs (L.set i (i : Int)) ≤ (L.set i (i : Int)).length := List.countP_le_length; have n2 := I0.len; rw [len] at n2; rw [List.length_singleton]; omega, e7.trans (Ex.new ht), L7.ex (Ex.new ht), Ex.new ht _ _ hl7, upd_same, I0, rfl⟩, ?_⟩
          rintro m σ' H8 ⟨L1, T, z8, rfl, bd, e8, L8, hl8, ht8, I8, rfl⟩
          refine ⟨.ref t, rfl, !(T.map nV).isEmpty, .inl ⟨_, sq_of ht8, rfl⟩, ?_⟩
          rcases List.eq_nil_or_concat T with rfl | ⟨T, x, rfl⟩
          · exact ⟨L1, _, _, _, e8, L8, hl8, I8.done o6 hA, rfl⟩
          · rw [List.concat_eq_append] at I8 ht8 bd ⊢
            have hxL := I8.tl x (List.mem_append_right _ List.mem_cons_self)
            have I9 := I8.pop
            have hx : x < A.length := by rw [← I8.len]; exact get_lt hxL
            have bd2 : 2 * negs L1 + T.length + 1 ≤ 2 * n + 1 := by rw [List.length_append, List.length_singleton] at bd; omega
            have emp : (!((T ++ [x]).map nV).isEmpty) = true := by rw [List.map_append]; cases T <;> rfl
            rw [emp]
            refine ⟨fun σ' H' => ∃ m', m' < 2 * negs L1 + (T ++ [x]).length ∧ ∃ L1 T x8, m' = 2 * negs L1 + T.length ∧ 2 * negs L1 + T.length ≤ 2 * n + 1 ∧ Ex H H' ∧ LL H' p qs A ∧ H' l = some (.lst (L1.map V.int)) ∧ H' t = some (.lst (T.map nV)) ∧ LI A i L L1 T A.length 0 ∧ σ' = [some (nV n), some (.ref a), some (.ref p), x3, x4, some (.ref l), some (nV i), some (.ref t), x8, none], fun σ' H' h => h, ?_⟩
            obtain ⟨q1, g1, g2⟩ := L8.get hx
            have last : ((T ++ [x]).map nV)[((T ++ [x]).map nV).length - 1]? = some (nV x) := by simp
            have drop : ((T ++ [x]).map nV).dropLast = T.map nV := by simp
            have qt : q1 ≠ t := fun q => tq (q ▸ List.mem_of_getElem? g1)
            refine ⟨.ref p, rfl, .ref t, rfl, .inl ⟨rfl, _, sq_of ht8⟩, t, _, nV x, rfl, rfl, ht8, last, ?_⟩
            rw [drop]
            have e9 : Ex H (upd H8 t (.lst (T.map nV))) := Ex.mut e8 tN
            have L9 : LL (upd H8 t (.lst (T.map nV))) p qs A := L8.off fun y hy => upd_ne fun q => by
              subst q
              rcases hy with hy | hy
              · exact tp hy
              · exact tq hy
            have hl9 : upd H8 t (.lst (T.map nV)) l = some (.lst (L1.map V.int)) := by rw [upd_ne tl.symm]; exact hl8
            have hq9 : upd H8 t (.lst (T.map nV)) q1 = some (.lst (A[x].map nV)) := by rw [upd_ne qt]; exact g2
            have ht9 : upd H8 t (.lst (T.map nV)) t = some (.lst (T.map nV)) := upd_same
            generalize upd H8 t (.lst (T.map nV)) = H9 at e9 L9 hl9 hq9 ht9 ⊢
            have gx : A.getD x [] = A[x] := by rw [List.getD_eq_getElem?_getD, List.getElem?_eq_getElem hx]; rfl
            refine ⟨p, qs.map V.ref, (x : Int), .ref q1, rfl, rfl, sq_of L9.top, atI_at (by rw [List.getElem?_map, g1]; rfl), q1, rfl, ⟨_, sq_of hq9⟩, ?_⟩
            refine for_list (xs := A[x].map nV) (fun k σ' H' => ∃ L2 T2 x8, 2 * negs L2 + T2.length + 1 ≤ 2 * negs L1 + (T ++ [x]).length ∧ Ex H H' ∧ LL H' p qs A ∧ H' l = some (.lst (L2.map V.int)) ∧ H' t = some (.lst (T2.map nV)) ∧ LI A i L L2 T2 x k ∧ L2[x]? = some (i : Int) ∧ σ' = [some (nV n), some (.ref a), some (.ref p), x3, x4, some (.ref l), some (nV i), some (.ref t), x8, none])
              ⟨L1, T, z8, by rw [List.length_append, List.length_singleton]; omega, e9, L9, hl9, ht9, I9, hxL, rfl⟩ (fun k σ' H' _ ⟨_, _, _, _, _, LLk, _⟩ => sq_of (LLk.row x q1 _ g1 (List.getElem?_eq_getElem hx))) ?_ ?_
            · rintro k x' σ' H' hk ⟨L2, T2, w8, mu, ek, Lk, hlk, htk, Ik, hxk, rfl⟩
              rw [List.getElem?_map] at hk
              obtain ⟨u, hu, rfl⟩ := Option.map_eq_some_iff.mp hk
              rw [← gx] at hu
              have hun : u < A.length := hA x u (List.mem_of_getElem? hu)
              have huL : u < L2.length := by rw [Ik.len]; exact hun
              refine s_ifLt (j := 5) (a := 8) (L := L2) (z := L2[u]) rfl rfl hlk (List.getElem?_eq_getElem huL) (fun z1 => ?_) fun z1 => ?_
              · refine q_setI (s := i) (b := 6) (j := 5) (a := 8) rfl rfl rfl hlk huL ?_
                have ng := negs_set (s := i) (List.getElem?_eq_getElem huL) z1
                have tl2 : T2.length < 100000 := by
                  have n1 : negs L1 ≤ L1.length := List.countP_le_length
                  have n2 : L1.length = n := I9.len.trans len
                  rw [List.length_append, List.length_singleton] at mu
                  omega
                refine ⟨.ref t, rfl, .inl ⟨rfl, _, sq_of (by rw [upd_ne tl]; exact htk)⟩, nV u, rfl, t, T2.map nV, _, rfl, rfl, by rw [upd_ne tl]; exact htk, sz_lt (by rw [List.length_map]; exact tl2), ?_⟩
                refine ⟨L2.set u (i : Int), T2 ++ [u], _, by rw [List.length_append, List.length_singleton]; omega, Ex.mut (Ex.mut ek lN) tN, Lk.off fun y hy => ?_, by rw [upd_ne tl.symm, upd_same], by rw [upd_same, List.map_append]; rfl, Ik.new hu hxk (List.getElem?_eq_getElem huL) z1, ?_, rfl⟩
                · have y1 : y ≠ t := fun q => by
                    subst q
                    rcases hy with hy | hy
                    · exact tp hy
                    · exact tq hy
                  have y2 : y ≠ l := fun q => by
                    subst q
                    rcases hy with hy | hy
                    · exact lp hy
                    · exact lq hy
                  rw [upd_ne y1, upd_ne y2]
                · rw [set_get huL]
                  split
                  · rfl
                  · exact hxk
              · exact ⟨L2, T2, _, mu, ek, Lk, hlk, htk, Ik.seen hu (List.getElem?_eq_getElem huL) (by omega), hxk, rfl⟩
            · rintro σ' H' ⟨L2, T2, w8, mu, ek, Lk, hlk, htk, Ik, hxk, rfl⟩
              rw [List.length_map, ← gx] at Ik
              exact ⟨_, by omega, L2, T2, _, rfl, Nat.le_trans (Nat.le_of_lt (by omega)) bd, ek, Lk, hlk, htk, Ik.full, rfl⟩
        · exact ⟨L, _, _, _, e6, L6, hl6, o6.skip (List.getElem?_eq_getElem hiL) z0, rfl⟩
      · rintro σ' H6 ⟨L, y6, y7, y8, e6, L6, hl6, o6, rfl⟩
        have tL : Tp (gr Bb H H6) (.ref l) (.list (L.map PyData.int)) := .lst (gr_new lN hl6) (tp_ints L)
        have lL : L.length = n := o6.len.trans len
        have cB : Ex (gr Bb H H6) H6 := gr_sub e e6
        refine s_retV cB (ev_callW L (esv_var (i := 5) (R := fun H v => Tp H v (.list (L.map PyData.int))) rfl mn_tp tL esv_nil) mn_grp fun H vs ⟨v, us, h1, h2, h3⟩ => ?_) fun v2 H7 e7 ⟨xs7, x71, x72⟩ => q v2 H7 (e6.trans e7) ⟨xs7, mn_lst _ _ v2 (gr_gr e6 e7) x71, ?_⟩
        · subst h3
          subst h1
          exact ⟨rfl, by omega, v, rfl, h2⟩
        · have h0 : L[0]? = some 0 := (o6.pos n0 0 (by rw [len]; exact n0)).mpr .refl
          show xs7.length = 1 ↔ ∀ v, v < n → Rch (Ad (symA n ps)) 0 v
          rw [hAe, x72, once_one h0, lL]
          exact forall_congr' fun v => ⟨fun h hv => (o6.pos n0 v (by rw [len]; exact hv)).mp (h hv), fun h hv => (o6.pos n0 v (by rw [len]; exact hv)).mpr (h hv)⟩
end
end K50
set_option maxHeartbeats 1000000
namespace Ns
structure RI (A : List (List Nat)) (a : Nat) (D T : List Nat) (x i : Nat) : Prop where
  nd : D.Nodup
  lt : ∀ v ∈ D, v < A.length
  tl : ∀ t ∈ T, t ∈ D
  snd : ∀ v ∈ D, Rch (Ad A) a v
  clo : ∀ v ∈ D, v ∈ T ∨ ∀ j u : Nat, (A.getD v [])[j]? = some u → (v = x → j < i) → u ∈ D
  st : a ∈ D
section
variable {A : List (List Nat)} {a : Nat} {D T : List Nat} {x i : Nat}
theorem RI.start (h : a < A.length) : RI A a [a] [a] A.length 0 := ⟨by simp, fun v hv => by rw [List.mem_singleton.mp hv]; exact h, fun t ht => ht, fun v hv => by rw [List.mem_singleton.mp hv]; exact .refl, fun v hv => .inl hv, List.mem_singleton.mpr rfl⟩
theorem RI.pop (h : RI A a D (T ++ [x]) A.length 0) : RI A a D T x 0 := ⟨h.nd, h.lt, fun t ht => h.tl t (List.mem_append_left _ ht), h.snd, fun v hv => by
  rcases h.clo v hv with g | g
  · rcases List.mem_append.mp g with g | g
    · exact .inl g
    · have e := List.mem_singleton.mp g
      exact .inr fun j u _ hj => absurd (hj e) (Nat.not_lt_zero _)
  · refine .inr fun j u hu _ => g j u hu fun e => ?_
    have := h.lt v hv
    omega, h.st⟩
theorem RI.full (h : RI A a D T x (A.getD x []).length) : RI A a D T A.length 0 := ⟨h.nd, h.lt, h.tl, h.snd, fun v hv => by
  rcases h.clo v hv with g | g
  · exact .inl g
  · exact .inr fun j u hu _ => g j u hu fun e => by subst e; exact get_lt hu, h.st⟩
theorem RI.seen {u : Nat} (h : RI A a D T x i) (hu : (A.getD x [])[i]? = some u) (hd : u ∈ D) : RI A a D T x (i + 1) := ⟨h.nd, h.lt, h.tl, h.snd, fun v hv => by
  rcases h.clo v hv with g | g
  · exact .inl g
  · refine .inr fun j w hw hj => ?_
    by_cases e : v = x ∧ j = i
    · obtain ⟨e1, e2⟩ := e
      subst e1 e2
      rw [hu] at hw
      cases hw
      exact hd
    · refine g j w hw fun e1 => ?_
      have := hj e1
      have : j ≠ i := fun e2 => e ⟨e1, e2⟩
      omega, h.st⟩
theorem RI.new {u : Nat} (h : RI A a D T x i) (hu : (A.getD x [])[i]? = some u) (hx : x ∈ D) (hd : u ∉ D) (hl : u < A.length) : RI A a (D ++ [u]) (T ++ [u]) x (i + 1) := by
  refine ⟨List.nodup_append.mpr ⟨h.nd, by simp, fun y hy z hz => ?_⟩, fun v hv => ?_, fun t ht => ?_, fun v hv => ?_, fun v hv => ?_, List.mem_append_left _ h.st⟩
  · rw [List.mem_singleton.mp hz]
    intro e
    exact hd (e ▸ hy)
  · rcases List.mem_append.mp hv with g | g
    · exact h.lt v g
    · rw [List.mem_singleton.mp g]; exact hl
  · rcases List.mem_append.mp ht with g | g
    · exact List.mem_append_left _ (h.tl t g)
    · exact List.mem_append_right _ g
  · rcases List.mem_append.mp hv with g | g
    · exact h.snd v g
    · rw [List.mem_singleton.mp g]
      exact .step (h.snd x hx) (List.mem_of_getElem? hu)
  · rcases List.mem_append.mp hv with g | g
    · rcases h.clo v g with g2 | g2
      · exact .inl (List.mem_append_left _ g2)
      · refine .inr fun j w hw hj => ?_
        by_cases e : v = x ∧ j = i
        · obtain ⟨e1, e2⟩ := e
          subst e1 e2
          rw [hu] at hw
          cases hw
          exact List.mem_append_right _ (List.mem_singleton.mpr rfl)
        · refine List.mem_append_left _ (g2 j w hw fun e1 => ?_)
          have := hj e1
          have : j ≠ i := fun e2 => e ⟨e1, e2⟩
          omega
    · exact .inl (List.mem_append_right _ g)
theorem RI.all (h : RI A a D [] A.length 0) {v : Nat} (r : Rch (Ad A) a v) : v ∈ D := by
  induction r with
  | refl => exact h.st
  | step _ r ih =>
    rcases h.clo _ ih with g | g
    · cases g
    · obtain ⟨j, hj, e⟩ := List.getElem_of_mem r
      exact g j _ (by rw [List.getElem?_eq_getElem hj, e]) fun e => by
        have := h.lt _ ih
        omega
theorem full_iff {n : Nat} {D : List Nat} (nd : D.Nodup) (lt : ∀ v ∈ D, v < n) : D.length = n ↔ ∀ v, v < n → v ∈ D := by
  constructor
  · intro e v hv
    refine Classical.byContradiction fun h => ?_
    have n1 : (v :: D).Nodup := List.nodup_cons.mpr ⟨h, nd⟩
    have := n1.length_le_of_subset (l₂ := List.range n) fun y hy => by
      rcases List.mem_cons.mp hy with g | g
      · rw [g]; exact List.mem_range.mpr hv
      · exact List.mem_range.mpr (lt y g)
    rw [List.length_cons, List.length_range] at this
    omega
  · intro h
    have h1 := nd.length_le_of_subset (l₂ := List.range n) fun y hy => List.mem_range.mpr (lt y hy)
    have h2 := (List.nodup_range (n := n)).length_le_of_subset (l₂ := D) fun y hy => h y (List.mem_range.mp hy)
    rw [List.length_range] at h1 h2
    omega
theorem RI.le (h : RI A a D T x i) : D.length ≤ A.length := by
  have h1 := h.nd.length_le_of_subset (l₂ := List.range A.length) fun y hy => List.mem_range.mpr (h.lt y hy)
  rw [List.length_range] at h1
  exact h1
theorem RI.done (h : RI A a D [] A.length 0) : D.length = A.length ↔ ∀ v, v < A.length → Rch (Ad A) a v := by
  rw [full_iff h.nd h.lt]
  exact forall_congr' fun v => ⟨fun g hv => h.snd v (g hv), fun g hv => h.all (g hv)⟩
end
end Ns
namespace K50
open PySem PySem.W PySem.Spec PyProof.Rows L2 LamX NdefX Evl RZ Dl Dn Dm Lz K0 Mx Ns ClX
abbrev sReached : Stmt := top 24
/-! ### reached -/
def rchPre : Nat × List (Nat × Nat) × Nat → Hp → List V → Prop := fun a H vs => a.2.2 < a.1 ∧ a.1 ≤ 400 ∧ a.2.1.length ≤ 1000 ∧ (∀ p ∈ a.2.1, p.1 < a.1 ∧ p.2 < a.1) ∧ ∃ v, vs = [nV a.1, v, nV a.2.2] ∧ Tp H v (.list (a.2.1.map edD))
def rchPost : Nat × List (Nat × Nat) × Nat → Hp → V → Prop := fun a H v => ∃ d kvs, v = .ref d ∧ H d = some (.dK kvs) ∧ (kvs.length = a.1 ↔ ∀ v, v < a.1 → Rch (Ad (dirA a.1 a.2.1)) a.2.2 v)
theorem mn_rch {a : Nat × List (Nat × Nat) × Nat} : Mn (rchPost a) := fun H H' v e ⟨d, kvs, h1, h2, h3⟩ => ⟨d, kvs, h1, e _ _ h2, h3⟩
abbrev nRch : List Str := ["many", "pairs", "start", "following", "one", "other", "found", "todo", "near", "_"]
theorem scRch : FnScope nRch ["many", "pairs", "start"] (defScope sReached) := ⟨rfl, rfl, rfl, by decide +kernel, rfl, by decide +kernel, by decide +kernel⟩
def kN2 (v : Nat) : Key × V := (.inl (v : Int), .bl true)
theorem val_kN2 {D : List Nat} {u : Nat} : (valV (D.map kN2) (.inl (u : Int))).isSome = decide (u ∈ D) := by
  induction D with
  | nil => simp [valV_nil]
  | cons a D ih =>
    by_cases e : a = u
    · subst e
      rw [List.map_cons, valV_pos (by rfl)]
      simp
    · have e2 : ¬ (kN2 a).1 = .inl (u : Int) := fun z => by
        injection z with z
        omega
      rw [List.map_cons, valV_neg e2, ih]
      exact decide_eq_decide.mpr ⟨fun h => List.mem_cons_of_mem _ h, fun h => (List.mem_cons.mp h).elim (fun z => absurd z.symm e) id⟩
theorem q_disp1 {σ : L2.St} {H : Hp} {D : Ends} {tz : TS} {b i s : Nat} (hb : σ[b]? = some (some (nV s))) (k : ∀ d, H d = none → tz D (σ.set i (some (.ref d))) (upd (upd H d (.dK [])) d (.dK ([s].map kN2)))) : tSeq (tAsg (tDisp [(tVar b, tC (.bl true))]) (gName i)) tz D σ H :=
  fun p hp => ⟨nV s, hb, upd_same, [kN2 s], rfl, show 1 ≤ 15 by decide, k p hp⟩
theorem s_ifNotIn {σ : L2.St} {H : Hp} {D : Ends} {t u : TS} {j a v : Nat} {d : Addr} {ks : List Nat} (ha : σ[a]? = some (some (nV v))) (hj : σ[j]? = some (some (.ref d))) (hd : H d = some (.dK (ks.map kN2))) (h1 : v ∉ ks → t D σ H) (h2 : v ∈ ks → u D σ H) :
    tIfS (tB (tDNotIn (tVar a) (tVar j))) t u D σ H := by
  refine ⟨nV v, ha, .ref d, hj, d, _, rfl, DGet.k (k := .inl (v : Int)) hd, !(valV (ks.map kN2) (.inl (v : Int))).isSome, rfl, ?_⟩
  rw [val_kN2]
  by_cases c : v ∈ ks
  · rw [decide_eq_true c]
    exact h2 c
  · rw [decide_eq_false c]
    exact h1 c
theorem q_put {σ : L2.St} {H : Hp} {D : Ends} {tz : TS} {j a v : Nat} {d : Addr} {ks : List Nat} (ha : σ[a]? = some (some (nV v))) (hj : σ[j]? = some (some (.ref d))) (hd : H d = some (.dK (ks.map kN2))) (hn : v ∉ ks) (hl : ks.length < 100000) (k : tz D σ (upd H d (.dK ((ks ++ [v]).map kN2)))) : tSeq (sDPut (tVar j) (tVar a) (tC (.bl true))) tz D σ H := by
  have e : putK (ks.map kN2) (.inl (v : Int)) (.bl true) = (ks ++ [v]).map kN2 := by
    rw [putK_new, List.map_append]
    · rfl
    · have h := val_kN2 (D := ks) (u := v)
      rw [decide_eq_false hn] at h
      cases q : valV (ks.map kN2) (.inl (v : Int)) with
      | none => rfl
      | some y => rw [q] at h; cases h
  refine ⟨.ref d, hj, nV v, ha, d, _, rfl, DPut.k (k := .inl (v : Int)) hd (sz_lt (by rw [List.length_map]; exact hl)), ?_⟩
  rw [e]
  exact k
section
variable {P : Program} {w : World} {K : PySem.W.Frag} {mg : Str → Option Value} {base : Heap} {C : Addr}
theorem ok_reached {f : Addr} {fd : FuncData} (F : Fun K "reached" "reached" sReached f fd) (B : Bl mg) : FnOk P w K mg base CX0 1 f fd ["many", "pairs", "start"] (spW 3 rchPre rchPost) := by
  refine F.ok scRch (fun vs H Q E h => spW_len h) (fun cdv A outer s H vs Q E hr h => ?_)
  have hu := Nat.lt_of_le_of_lt (Nat.add_le_add_left (show 1 ≤ 9 by decide) _) (roomG hr)
  refine ⟨_, pss_cons (ps_setLc (i := 3) (own := [("_", 9)]) (g := gName 9) (tt := tYes) (te := tLst tNil) rfl scRch.nd rfl rfl rfl (pi_range1 (by rfl) B.range (pa_cons (pv 0) pa_nil))
        (blkOk_by (own := [("_", 9)]) (N := nRch) (sc := defScope sReached) (by decide +kernel)) (fun _ _ _ _ _ => pg_name (i := 9) scRch.nd rfl (Or.inl rfl)) (fun _ _ _ _ _ => pts_nil) (fun _ _ _ _ _ => pe_lst pa_nil))
    (pss_cons (ps_for PassesOwn.never rfl (pi_list (pv 1)) (pg_tup rfl (pgs_cons (pg_name (i := 4) scRch.nd rfl (.inl rfl)) (pgs_cons (pg_name (i := 5) scRch.nd rfl (.inl rfl)) pgs_nil)))
      (pss_one (ps_expr (pe_bm PySem.F.plainAttrs_list PySem.F.slot_list_append PySem.F.type_list_append mt_append (pe_ix ix_list (pv 3) (pv 4) (fun _ _ => rfl)) (pa_cons (pv 5) pa_nil)))))
    (pss_cons (ps_set (i := 6) scRch.nd rfl (Or.inl rfl) (pe_disp (pps_cons (pv 2) pe_bl pps_nil) rfl rfl (by decide) (by decide)))
    (pss_cons (ps_set (i := 7) scRch.nd rfl (Or.inl rfl) (pe_lst (pa_cons (pv 2) pa_nil)))
    (pss_cons (ps_while PassesOwn.never (pt_truth (pv 7) (fun _ => rfl))
          (pss_one (ps_for PassesOwn.never rfl (pi_list (pe_ix ix_list (pv 3) (pe_bm0 PySem.F.plainAttrs_list PySem.F.slot_list_pop PySem.F.type_list_pop mt_pop (pv 7)) (fun _ _ => rfl))) (pg_name (i := 8) scRch.nd rfl (Or.inl rfl))
            (pss_one (ps_if (pt_cmp (pc_dnotin hu (pv 8) (pv 6)))
              (pss_cons (ps_dput hu (pv 6) (pv 8) pe_bl rfl)
              (pss_one (ps_expr (pe_bm PySem.F.plainAttrs_list PySem.F.slot_list_append PySem.F.type_list_append mt_append (pv 7) (pa_cons (pv 8) pa_nil)))))
              pss_nil)))))
    (pss_one (ps_ret (pv 6))))))), ?_⟩
  obtain ⟨Bb, ⟨n, ps, st⟩, e, hn, ⟨n0, n4, pl, hp, v, rfl, hv⟩, q⟩ := h
  have pl : ps.length ≤ 1000 := pl
  have n0 : st < n := n0
  have n4 : n ≤ 400 := n4
  refine q_nest (K := K) (a := 0) (n := n) rfl (by omega) ?_ fun p qs H1 e1 pN qN LL1 => ?_
  · exact fun _ => rfl
  cases hv with
  | @lst a xs _ ha hs =>
    have ea := e _ _ ha
    refine ⟨.ref a, rfl, a, rfl, ⟨xs, sq_of (e1 _ _ ea)⟩, ?_⟩
    have lx : xs.length = ps.length := by rw [dp_len hs, List.length_map]
    have adk : ∀ i, AdOk n _ (ps.take i).length (dirA n (ps.take i)) := fun i => dirA_ok fun z hz => hp z (List.mem_of_mem_take hz)
    refine for_list (fun i σ' H' => ∃ x4 x5, Ex H H' ∧ LL H' p qs (dirA n (ps.take i)) ∧ σ' = [some (nV n), some (.ref a), some (nV st), some (.ref p), x4, x5, none, none, none, none]) ⟨none, none, e1, LL1, rfl⟩ (fun i σ' H' _ ⟨_, _, z, _⟩ => sq_of (z _ _ ea)) ?_ ?_
    · rintro i x σ' H' hx ⟨y3, y4, e2, L2, rfl⟩
      obtain ⟨d, hd, td⟩ := dp_getV hs hx
      have hlt : i < ps.length := by have := get_lt hx; omega
      have hpi : ps[i]? = some ps[i] := List.getElem?_eq_getElem hlt
      rw [List.getElem?_map, hpi] at hd
      obtain rfl := Option.some.inj hd
      refine g_pair (Tp.ex e _ _ td) e2 fun va vb ta tb => ?_
      cases ta
      cases tb
      have A0 := adk i
      have hb := hp _ (List.mem_of_getElem? hpi)
      have r1 := A0.row ps[i].1
      have tl : (ps.take i).length ≤ ps.length := by rw [List.length_take]; omega
      refine s_app2 (j := 3) (a := 4) (b := 5) (i := ps[i].1) (m := ps[i].2) rfl rfl rfl L2 (by rw [A0.len]; exact hb.1) (by omega) fun H3 s3 L3 => ?_
      refine ⟨_, _, s3.ex e2 qN, ?_, rfl⟩
      unfold dirA
      rw [fold_take hpi]
      exact L3
    · rintro σ' H' ⟨x4, x5, e2, L2, rfl⟩
      rw [lx, List.take_length] at L2
      have A0 := dirA_ok hp
      generalize hAe : dirA n ps = A at L2 A0 ⊢
      have hA : ∀ v u, Ad A v u → u < A.length := fun v u h => by
        rw [A0.len]
        exact (hp _ ((A0.mem v u).mp h)).2
      have len : A.length = n := A0.len
      refine q_disp1 (s := st) rfl fun d hd => ?_
      have fresh : ∀ {H' : Hp} {l : Addr}, LL H' p qs A → H' l = none → l ≠ p ∧ l ∉ qs := fun {H'} {l} L hl => ⟨(fun q => by rw [q, L.top] at hl; cases hl), fun q => by
        obtain ⟨i, hi, e⟩ := List.getElem_of_mem q
        have := L.row i l (A[i]'(by rw [← L.len]; exact hi)) (by rw [List.getElem?_eq_getElem hi, e]) (List.getElem?_eq_getElem _)
        rw [hl] at this
        cases this⟩
      obtain ⟨dp, dq⟩ := fresh L2 hd
      have dN : H d = none := fresh_back e2 hd
      have e3 : Ex H (upd (upd H' d (.dK [])) d (.dK ([st].map kN2))) := Ex.mut (Ex.mut e2 dN) dN
      have L3 : LL (upd (upd H' d (.dK [])) d (.dK ([st].map kN2))) p qs A := L2.off fun x hx => by
        have : x ≠ d := fun q => by
          subst q
          rcases hx with hx | hx
          · exact dp hx
          · exact dq hx
        rw [upd_ne this, upd_ne this]
      have hd3 : upd (upd H' d (.dK [])) d (.dK ([st].map kN2)) d = some (.dK ([st].map kN2)) := upd_same
      generalize upd (upd H' d (.dK [])) d (.dK ([st].map kN2)) = H3 at e3 L3 hd3 ⊢
      refine q_one (v := nV st) rfl fun t ht => ?_
      obtain ⟨tp, tq⟩ := fresh L3 ht
      have tN : H t = none := fresh_back e3 ht
      have td : t ≠ d := fun q => by rw [q, hd3] at ht; cases ht
      refine ⟨fun m σ' H' => ∃ D T x8, m + 2 * D.length = 2 * n + T.length ∧ T.length ≤ D.length ∧ Ex H H' ∧ LL H' p qs A ∧ H' d = some (.dK (D.map kN2)) ∧ H' t = some (.lst (T.map nV)) ∧ RI A st D T A.length 0 ∧ σ' = [some (nV n), some (.ref a), some (nV st), some (.ref p), x4, x5, some (.ref d), some (.ref t), x8, none],
        ⟨2 * n - 1, [st], [st], none, by rw [List.length_singleton]; omega, Nat.le_refl _, e3.trans (Ex.new ht), L3.ex (Ex.new ht), Ex.new ht _ _ hd3, upd_same, RI.start (by rw [len]; exact n0), rfl⟩, ?_⟩
      rintro m σ' H8 ⟨D, T, z8, hm, hTD, e8, L8, hd8, ht8, I8, rfl⟩
      refine ⟨.ref t, rfl, !(T.map nV).isEmpty, .inl ⟨_, sq_of ht8, rfl⟩, ?_⟩
      rcases List.eq_nil_or_concat T with rfl | ⟨T, x, rfl⟩
      · refine ⟨.ref d, rfl, q (.ref d) H8 e8 ⟨d, D.map kN2, rfl, gr_new dN hd8, ?_⟩⟩
        show (D.map kN2).length = n ↔ ∀ v, v < n → Rch (Ad (dirA n ps)) st v
        rw [hAe, List.length_map, ← len]
        exact I8.done
      · rw [List.concat_eq_append] at I8 ht8 hm hTD ⊢
        rw [List.length_append, List.length_singleton] at hm hTD
        have hxD := I8.tl x (List.mem_append_right _ List.mem_cons_self)
        have I9 := I8.pop
        have hx : x < A.length := I8.lt x hxD
        have dl := I8.le
        have emp : (!((T ++ [x]).map nV).isEmpty) = true := by rw [List.map_append]; cases T <;> rfl
        rw [emp]
        refine ⟨fun σ' H' => ∃ m', m' < m ∧ ∃ D T x8, m' + 2 * D.length = 2 * n + T.length ∧ T.length ≤ D.length ∧ Ex H H' ∧ LL H' p qs A ∧ H' d = some (.dK (D.map kN2)) ∧ H' t = some (.lst (T.map nV)) ∧ RI A st D T A.length 0 ∧ σ' = [some (nV n), some (.ref a), some (nV st), some (.ref p), x4, x5, some (.ref d), some (.ref t), x8, none], fun σ' H' h => h, ?_⟩
        obtain ⟨q1, g1, g2⟩ := L8.get hx
        have last : ((T ++ [x]).map nV)[((T ++ [x]).map nV).length - 1]? = some (nV x) := by simp
        have drop : ((T ++ [x]).map nV).dropLast = T.map nV := by simp
        have qt : q1 ≠ t := fun q => tq (q ▸ List.mem_of_getElem? g1)
        refine ⟨.ref p, rfl, .ref t, rfl, .inl ⟨rfl, _, sq_of ht8⟩, t, _, nV x, rfl, rfl, ht8, last, ?_⟩
        rw [drop]
        have e9 : Ex H (upd H8 t (.lst (T.map nV))) := Ex.mut e8 tN
        have L9 : LL (upd H8 t (.lst (T.map nV))) p qs A := L8.off fun y hy => upd_ne fun q => by
          subst q
          rcases hy with hy | hy
          · exact tp hy
          · exact tq hy
        have hd9 : upd H8 t (.lst (T.map nV)) d = some (.dK (D.map kN2)) := by rw [upd_ne td.symm]; exact hd8
        have hq9 : upd H8 t (.lst (T.map nV)) q1 = some (.lst (A[x].map nV)) := by rw [upd_ne qt]; exact g2
        have ht9 : upd H8 t (.lst (T.map nV)) t = some (.lst (T.map nV)) := upd_same
        generalize upd H8 t (.lst (T.map nV)) = H9 at e9 L9 hd9 hq9 ht9 ⊢
        have gx : A.getD x [] = A[x] := by rw [List.getD_eq_getElem?_getD, List.getElem?_eq_getElem hx]; rfl
        refine ⟨p, qs.map V.ref, (x : Int), .ref q1, rfl, rfl, sq_of L9.top, atI_at (by rw [List.getElem?_map, g1]; rfl), q1, rfl, ⟨_, sq_of hq9⟩, ?_⟩
        refine for_list (xs := A[x].map nV) (fun k σ' H' => ∃ D2 T2 x8, 2 * n + T2.length + 1 ≤ m + 2 * D2.length ∧ T2.length + D.length ≤ T.length + D2.length ∧ Ex H H' ∧ LL H' p qs A ∧ H' d = some (.dK (D2.map kN2)) ∧ H' t = some (.lst (T2.map nV)) ∧ RI A st D2 T2 x k ∧ x ∈ D2 ∧ D.length ≤ D2.length ∧ σ' = [some (nV n), some (.ref a), some (nV st), some (.ref p), x4, x5, some (.ref d), some (.ref t), x8, none])
          ⟨D, T, z8, by omega, by omega, e9, L9, hd9, ht9, I9, hxD, Nat.le_refl _, rfl⟩ (fun k σ' H' _ ⟨_, _, _, _, _, _, LLk, _⟩ => sq_of (LLk.row x q1 _ g1 (List.getElem?_eq_getElem hx))) ?_ ?_
        · rintro k x' σ' H' hk ⟨D2, T2, w8, mu, mv, ek, Lk, hdk, htk, Ik, hxk, hdd, rfl⟩
          rw [List.getElem?_map] at hk
          obtain ⟨u, hu, rfl⟩ := Option.map_eq_some_iff.mp hk
          rw [← gx] at hu
          have hun : u < A.length := hA x u (List.mem_of_getElem? hu)
          have dl2 := Ik.le
          refine s_ifNotIn (a := 8) (j := 6) (v := u) (ks := D2) rfl rfl hdk (fun z1 => ?_) fun z1 => ?_
          · refine q_put (a := 8) (j := 6) (v := u) (ks := D2) rfl rfl hdk z1 (by omega) ?_
            have I3 := Ik.new hu hxk z1 hun
            have dl3 := I3.le
            rw [List.length_append, List.length_singleton] at dl3
            refine ⟨.ref t, rfl, .inl ⟨rfl, _, sq_of (by rw [upd_ne td]; exact htk)⟩, nV u, rfl, t, T2.map nV, _, rfl, rfl, by rw [upd_ne td]; exact htk, sz_lt (by rw [List.length_map]; omega), ?_⟩
            refine ⟨D2 ++ [u], T2 ++ [u], _, by rw [List.length_append, List.length_append, List.length_singleton]; omega, by rw [List.length_append, List.length_append, List.length_singleton]; omega, Ex.mut (Ex.mut ek dN) tN, Lk.off fun y hy => ?_, by rw [upd_ne td.symm, upd_same], by rw [upd_same, List.map_append]; rfl, I3, List.mem_append_left _ hxk, by rw [List.length_append]; omega, rfl⟩
            have y1 : y ≠ t := fun q => by
              subst q
              rcases hy with hy | hy
              · exact tp hy
              · exact tq hy
            have y2 : y ≠ d := fun q => by
              subst q
              rcases hy with hy | hy
              · exact dp hy
              · exact dq hy
            rw [upd_ne y1, upd_ne y2]
          · exact ⟨D2, T2, _, mu, mv, ek, Lk, hdk, htk, Ik.seen hu z1, hxk, hdd, rfl⟩
        · rintro σ' H' ⟨D2, T2, w8, mu, mv, ek, Lk, hdk, htk, Ik, hxk, hdd, rfl⟩
          rw [List.length_map, ← gx] at Ik
          have dl2 := Ik.le
          exact ⟨2 * n + T2.length - 2 * D2.length, by omega, D2, T2, _, by omega, by omega, ek, Lk, hdk, htk, Ik.full, rfl⟩
end
end K50
set_option maxHeartbeats 1000000
namespace Dm
open PySem PySem.Spec PyProof.Rows L2 Evl RZ Dl Ns
section
variable {K : PySem.W.Frag} {σ : L2.St} {B : Hp} {te : TE} {ta : TA} {R : Hp → V → Prop} {Rs : Hp → List V → Prop}
theorem esv_cons (h : EvV te σ B R) (mR : Mn R) (hr : EvsV ta σ B Rs) (c : ∀ H l H', Ex H H' → Rs H l → Rs H' l) : EvsV (tCons te ta) σ B (fun H l => ∃ v vs, l = v :: vs ∧ R H v ∧ Rs H vs) := fun H1 e Q q =>
  h H1 e _ fun v H2 e2 hv => hr H2 (e.trans e2) _ fun vs H3 e3 hvs => q (v :: vs) H3 (e2.trans e3) ⟨v, vs, rfl, mR _ _ v (gr_l e3) hv, c _ _ _ (gr_r e e2) hvs⟩
theorem mnl_nil : ∀ (H : Hp) (l : List V) (H' : Hp), Ex H H' → l = [] → l = [] := fun _ _ _ _ h => h
theorem mnl_cons (mR : Mn R) (c : ∀ H l H', Ex H H' → Rs H l → Rs H' l) : ∀ (H : Hp) (l : List V) (H' : Hp), Ex H H' → (∃ v vs, l = v :: vs ∧ R H v ∧ Rs H vs) → ∃ v vs, l = v :: vs ∧ R H' v ∧ Rs H' vs := fun H l H' e ⟨v, vs, h1, h2, h3⟩ => ⟨v, vs, h1, mR _ _ v e h2, c _ _ _ e h3⟩
/-- len(e) == i, e no data -/
theorem ed_lenEq {b : Bool} {tb : TE} {i : Int} (h : EvV te σ B R) (hb : EvD tb σ B (.int i)) (f : ∀ H v, R H v → ∃ xs, LstV xs H v ∧ decide ((xs.length : Int) = i) = b) : EvD (tOp rEq (tCB (Dl.rLen K) (tCons te tNil)) tb) σ B (.bool b) := fun H1 e Q q =>
  h H1 e _ fun v H2 e2 hv => by
    obtain ⟨xs, ⟨a, rfl, ha⟩, h2⟩ := f _ v hv
    refine ⟨a, xs, rfl, .inl (sq_of (gr_sub e e2 _ _ ha)), hb H2 (e.trans e2) _ fun w H3 e3 hw => ?_⟩
    exact rd_eqI (H := gr B H2 H3) H3 (.int xs.length) w (gr_sub (e.trans e2) e3) (.int _) hw Q fun u H4 e4 hu => q u H4 (e2.trans (e3.trans e4)) (by
      rw [h2] at hu
      cases hu
      exact .bl b)
def rLenDK : List V → Hp → VK → Prop := fun xs H Q => ∃ a kvs, xs = [V.ref a] ∧ H a = some (.dK kvs) ∧ Q (.int kvs.length) H
theorem ed_lenDEq {b : Bool} {tb : TE} {i : Int} (h : EvV te σ B R) (hb : EvD tb σ B (.int i)) (f : ∀ H v, R H v → ∃ a kvs, v = .ref a ∧ H a = some (.dK kvs) ∧ decide ((kvs.length : Int) = i) = b) : EvD (tOp rEq (tCB rLenDK (tCons te tNil)) tb) σ B (.bool b) := fun H1 e Q q =>
  h H1 e _ fun v H2 e2 hv => by
    obtain ⟨a, xs, rfl, ha, h2⟩ := f _ v hv
    refine ⟨a, xs, rfl, gr_sub e e2 _ _ ha, hb H2 (e.trans e2) _ fun w H3 e3 hw => ?_⟩
    exact rd_eqI (H := gr B H2 H3) H3 (.int xs.length) w (gr_sub (e.trans e2) e3) (.int _) hw Q fun u H4 e4 hu => q u H4 (e2.trans (e3.trans e4)) (by
      rw [h2] at hu
      cases hu
      exact .bl b)
end
end Dm
namespace K50
open PySem PySem.W PySem.Spec PyProof.Rows L2 LamX NdefX Evl RZ Dl Dn Dm Lz K0 Mx Ns ClX
open scoped Classical
abbrev sJoined : Stmt := top 22
abbrev sStrong : Stmt := top 23
/-! ### is_joined, is_strong -/
def edR (r : Rd) : Nat × Nat := (r.1.toNat, r.2.1.toNat)
def flP (p : Nat × Nat) : Nat × Nat := (p.2, p.1)
def Jn (n : Nat) (ps : List (Nat × Nat)) : Prop := ∀ v, v < n → Rch (fun v u => (v, u) ∈ ps ∨ (u, v) ∈ ps) 0 v
def St1 (n : Nat) (ps : List (Nat × Nat)) : Prop := ∀ v, v < n → Rch (fun v u => (v, u) ∈ ps) 0 v
noncomputable def joB (n : Nat) (rs : List Rd) : Bool := decide (Jn n (rs.map edR))
noncomputable def stB (n : Nat) (rs : List Rd) : Bool := decide (St1 n (rs.map edR)) && decide (St1 n ((rs.map edR).map flP))
theorem rch_iff {R S : Nat → Nat → Prop} (h : ∀ v u, R v u ↔ S v u) {a v : Nat} : Rch R a v ↔ Rch S a v := ⟨Rch.mono fun v u => (h v u).mp, Rch.mono fun v u => (h v u).mpr⟩
def rPair (r : Rd) : PyData := .tuple [.int r.1, .int r.2.1]
theorem pair_ed {n : Nat} {rs : List Rd} (h : ∀ r ∈ rs, okR n r) : rs.map rPair = (rs.map edR).map edD := by
  rw [List.map_map]
  refine List.map_congr_left fun r hr => ?_
  have h1 := (h r hr).a0
  have h2 := (h r hr).b0
  show PyData.tuple [.int r.1, .int r.2.1] = .tuple [.int (r.1.toNat : Int), .int (r.2.1.toNat : Int)]
  rw [Int.toNat_of_nonneg h1, Int.toNat_of_nonneg h2]
theorem ed_lt {n : Nat} {rs : List Rd} (h : ∀ r ∈ rs, okR n r) : ∀ p ∈ rs.map edR, p.1 < n ∧ p.2 < n := fun p hp => by
  obtain ⟨r, hr, rfl⟩ := List.mem_map.mp hp
  have h0 := (h r hr).a0
  have h1 := (h r hr).a1
  have h2 := (h r hr).b0
  have h3 := (h r hr).b1
  exact ⟨by show r.1.toNat < n; omega, by show r.2.1.toNat < n; omega⟩
def CallLen (P : Program) (w : World) (K : PySem.W.Frag) (mg : Str → Option Value) (base : Heap) (C : Addr) : Prop := ∃ f fd, FnOk P w K mg base CX0 1 f fd ["self"] (spV 1 (netPre C) fun N => .int N.ss.length) ∧ PySem.W.findIn K (.ref C) "__len__" = some (some (.ref f)) ∧ PySem.W.isFn K (.ref f) = true ∧ L2.Binds K fd ["self"] []
abbrev nJo : List Str := ["net", "road"]
theorem scJo : FnScope nJo ["net"] (defScope sJoined) := ⟨rfl, rfl, rfl, by decide +kernel, rfl, by decide +kernel, by decide +kernel⟩
abbrev nSt : List Str := ["net", "pairs", "turned", "many", "road", "one", "other"]
theorem scSt : FnScope nSt ["net"] (defScope sStrong) := ⟨rfl, rfl, rfl, by decide +kernel, rfl, by decide +kernel, by decide +kernel⟩
def selP (d : PyData) : PyData := rPair (unR d)
section
variable {P : Program} {w : World} {K : PySem.W.Frag} {mg : Str → Option Value} {base : Heap} {C : Addr}
/-- [road[:2] for road in net.roads()] -/
theorem ed_ends {σ : L2.St} {B : Hp} {i j : Nat} {v : V} {N : NetV} {vs : List Nat} (h0 : σ[i]? = some (some v)) (hv : NetAt C N B v) (ok : okV N) (hw : ∀ v : V, wipe ((wipe σ vs).set j (some v)) vs = wipe σ vs) (hj : ∀ v : V, ((wipe σ vs).set j (some v))[j]? = some (some v)) :
    EvD (tLc (iList K (tMeth C "roads" (spV 1 (netPre C) fun N => .list (N.rs.map rdD)) [] E0 (tVar i) tNil)) (gName j) tYes (tSl (rSlT K) (tVar j) tNoPart (tPart (tC (.int 2)))) vs) σ B (.list (N.rs.map rPair)) := by
  refine ed_is (ed_lc (fun _ => true) selP (ei_list (ed_meth (m := "roads") (g := fun N => .list (N.rs.map rdD)) h0 hv rfl)) (by rw [List.length_map]; have := ok.l2; omega) fun d x H' hd e hx => ⟨_, fun Hx k _ hk => hk, hw x, et_yes, fun _ => ?_⟩) (by rw [Dl.filter_tt, List.map_map]; rfl)
  obtain ⟨r, hr, rfl⟩ := List.mem_map.mp hd
  have cut : cutD [PyData.int r.1, .int r.2.1, r.2.2.1, r.2.2.2] none (some ((2 : Nat) : Int)) = [.int r.1, .int r.2.1] := cut_to (show 2 ≤ 4 by decide)
  exact ed_is (ed_slT (lo := none) (hi := some 2) (ed_var (hj x) hx) eo_none (eo_someD ed_int) (show ¬ (HT.sIx 4 0 none = 0 ∧ HT.sIx 4 4 (some 2) = 4) by decide)) (congrArg PyData.tuple cut)
theorem ok_joined {f : Addr} {fd : FuncData} (F : Fun K "is_joined" "is_joined" sJoined f fd) (B : Bl mg) (hC : NetK K C) (R : CallM P w K mg base 1 C "roads" ["self"] (spV 1 (netPre C) fun N => .list (N.rs.map rdD))) (LN : CallLen P w K mg base C) (L : CallF P w K mg base 2 "lots_of" ["many", "pairs"] (spW 2 lotsPre lotsPost)) :
    FnOk P w K mg base CX0 3 f fd ["net"] (spV 1 (okPre C) fun N => .bool (joB N.ss.length N.rs)) := by
  refine F.ok scJo (fun vs H Q E h => spV_len h) (fun cdv A outer s H vs Q E hr h => ?_)
  obtain ⟨fR, dR, oR, mR, bR⟩ := R
  obtain ⟨fN, dN, oN, hN1, hN2, bN⟩ := LN
  obtain ⟨fL, dL, oL, gL, kL, bL⟩ := L
  refine ⟨_, pss_one (ps_ret (pe_cmpR op_eq (pe_callB call_len_seq (by rfl) B.len PySem.boot_len (pa_cons (pe_call oL hr (by rfl) gL kL bL .nil pass0 (pa_cons (pe_callB (call_lenI hN1 hN2 oN hr bN) (by rfl) B.len PySem.boot_len (pa_cons (pv 0) pa_nil))
      (pa_cons (pe_lc (own := [("road", 1)]) (g := gName 1) (tt := tYes) (te := tSl (rSlT K) (tVar 1) tNoPart (tPart (tC (.int 2)))) rfl scJo.nd (pi_list (pe_meth0 (pv 0) hC.cl mR oR (hr.mono (by decide)) bR .nil pass0))
        (blkOk_by (own := [("road", 1)]) (N := nJo) (sc := defScope sJoined) (by decide +kernel)) (fun _ _ _ _ _ => pg_name (i := 1) scJo.nd rfl (Or.inl rfl)) (fun _ _ _ _ _ => pts_nil) (fun _ _ _ _ _ => pe_slice sl_tup (pv 1) po_none (po_some pe_int))) pa_nil))) pa_nil)) pe_int (nomark _))), ?_⟩
  obtain ⟨Bb, N, e, hn, ⟨ok, v, rfl, hv⟩, q⟩ := h
  have b0 := Bs.start e
  have n4 : N.ss.length ≤ 400 := ok.l1
  have n0 : 0 < N.ss.length := List.length_pos_iff.mpr ok.ne
  have bd := ed_lt ok.ok
  refine s_retV b0.c (R := fun H v => Tp H v (.bool (joB N.ss.length N.rs))) (ed_lenEq (K := K) (ev_callW (N.ss.length, N.rs.map edR) (esv_cons (R := fun H v => Tp H v (.int N.ss.length)) (ed_lenN (i := 0) rfl hv (by omega)) mn_tp (esv_cons (R := fun H v => Tp H v (.list (N.rs.map rPair))) (ed_ends (i := 0) rfl hv ok (fun _ => rfl) (fun _ => rfl)) mn_tp esv_nil mnl_nil) (mnl_cons mn_tp mnl_nil)) mn_lots fun H vs hh => ?_) ed_int fun H v hh => ?_) fun v2 H2 e2 t2 => q v2 H2 (b0.a.trans e2) t2
  · obtain ⟨v1, us, rfl, h1, v2, us2, rfl, h2, rfl⟩ := hh
    cases h1
    rw [pair_ed ok.ok] at h2
    exact ⟨rfl, n0, n4, by show (N.rs.map edR).length ≤ 1000; rw [List.length_map]; exact ok.l2, bd, v2, rfl, h2⟩
  · obtain ⟨xs, h1, h2⟩ := hh
    refine ⟨xs, h1, decide_eq_decide.mpr ?_⟩
    have A0 := symA_ok bd
    have e1 : ((xs.length : Int) = 1) ↔ xs.length = 1 := by omega
    rw [e1, h2]
    exact forall_congr' fun v => forall_congr' fun _ => rch_iff A0.mem
theorem ok_strong {f : Addr} {fd : FuncData} (F : Fun K "is_strong" "is_strong" sStrong f fd) (B : Bl mg) (hC : NetK K C) (R : CallM P w K mg base 1 C "roads" ["self"] (spV 1 (netPre C) fun N => .list (N.rs.map rdD))) (LN : CallLen P w K mg base C) (L : CallF P w K mg base 1 "reached" ["many", "pairs", "start"] (spW 3 rchPre rchPost)) :
    FnOk P w K mg base CX0 3 f fd ["net"] (spV 1 (okPre C) fun N => .bool (stB N.ss.length N.rs)) := by
  refine F.ok scSt (fun vs H Q E h => spV_len h) (fun cdv A outer s H vs Q E hr h => ?_)
  obtain ⟨fR, dR, oR, mR, bR⟩ := R
  obtain ⟨fN, dN, oN, hN1, hN2, bN⟩ := LN
  obtain ⟨fL, dL, oL, gL, kL, bL⟩ := L
  refine ⟨_, pss_cons (ps_setLc (i := 1) (own := [("road", 4)]) (g := gName 4) (tt := tYes) (te := tSl (rSlT K) (tVar 4) tNoPart (tPart (tC (.int 2)))) rfl scSt.nd rfl rfl rfl (pi_list (pe_meth0 (pv 0) hC.cl mR oR (hr.mono (by decide)) bR .nil pass0))
        (blkOk_by (own := [("road", 4)]) (N := nSt) (sc := defScope sStrong) (by decide +kernel)) (fun _ _ _ _ _ => pg_name (i := 4) scSt.nd rfl (Or.inl rfl)) (fun _ _ _ _ _ => pts_nil) (fun _ _ _ _ _ => pe_slice sl_tup (pv 4) po_none (po_some pe_int)))
    (pss_cons (ps_setLc (i := 2) (own := [("one", 5), ("other", 6)]) (g := gTup K 2 (gCons (gName 5) (gCons (gName 6) gNil))) (tt := tYes) (te := tTup (tCons (tVar 6) (tCons (tVar 5) tNil))) rfl scSt.nd rfl rfl rfl (pi_list (pv 1))
        (blkOk_by (own := [("one", 5), ("other", 6)]) (N := nSt) (sc := defScope sStrong) (by decide +kernel)) (fun _ _ _ _ _ => pg_tup rfl (pgs_cons (pg_name (i := 5) scSt.nd rfl (Or.inl rfl)) (pgs_cons (pg_name (i := 6) scSt.nd rfl (Or.inl rfl)) pgs_nil))) (fun _ _ _ _ _ => pts_nil) (fun _ _ _ _ _ => pe_tup (pa_cons (pv 6) (pa_cons (pv 5) pa_nil))))
    (pss_cons (ps_set (i := 3) scSt.nd rfl (Or.inl rfl) (pe_callB (call_lenI hN1 hN2 oN hr bN) (by rfl) B.len PySem.boot_len (pa_cons (pv 0) pa_nil)))
    (pss_one (ps_ret (pe_and (pe_cmpR op_eq (pe_callB call_lenD (by rfl) B.len PySem.boot_len (pa_cons (pe_call oL (hr.mono (by decide)) (by rfl) gL kL bL .nil pass0 (pa_cons (pv 3) (pa_cons (pv 1) (pa_cons pe_int pa_nil)))) pa_nil)) (pv 3) (nomark _))
      (pe_one (pe_cmpR op_eq (pe_callB call_lenD (by rfl) B.len PySem.boot_len (pa_cons (pe_call oL (hr.mono (by decide)) (by rfl) gL kL bL .nil pass0 (pa_cons (pv 3) (pa_cons (pv 2) (pa_cons pe_int pa_nil)))) pa_nil)) (pv 3) (nomark _)))))))), ?_⟩
  obtain ⟨Bb, N, e, hn, ⟨ok, v, rfl, hv⟩, q⟩ := h
  have b0 := Bs.start e
  have n4 : N.ss.length ≤ 400 := ok.l1
  have n0 : 0 < N.ss.length := List.length_pos_iff.mpr ok.ne
  have l2 : N.rs.length ≤ 1000 := ok.l2
  have bd := ed_lt ok.ok
  refine q_asgD b0.c (ed_is (ed_ends (i := 0) rfl hv ok (fun _ => rfl) (fun _ => rfl)) (congrArg PyData.list (pair_ed ok.ok))) fun v1 H1 e1 t1 => ?_
  have b1 := b0.step e1
  refine q_asgD b1.c (d := .list (((N.rs.map edR).map flP).map edD)) (ed_is (ed_lc (fun _ => true) (fun d => match d with
      | .tuple [a, b] => .tuple [b, a]
      | d => d) (ei_list (ed_var (i := 1) rfl t1)) (by rw [List.length_map, List.length_map]; omega) fun d x H' hd e hx => ?_) (by rw [Dl.filter_tt]; simp only [List.map_map]; rfl)) fun v2 H2 e2 t2 => ?_
  · obtain ⟨p, hp, rfl⟩ := List.mem_map.mp hd
    cases hx with
    | tup hA hS =>
      obtain ⟨va, vb, rfl, ta, tb⟩ := tp2 hS
      exact ⟨_, fun Hx k ex hk => ⟨_, _, rfl, st_of (ex _ _ hA), rfl, _, _, rfl, _, _, rfl, rfl, hk⟩, rfl, et_yes, fun _ => ed_tup (es_cons (ed_var (i := 6) rfl tb) (es_cons (ed_var (i := 5) rfl ta) es_nil)) (show 2 ≤ 100000 by decide)⟩
  · have b2 := b1.step e2
    have hv2 := mn_net _ _ _ (gr_ex (H2 := H2) b1.c) (mn_net _ _ _ (gr_ex (H2 := H1) b0.c) hv)
    refine q_asgD b2.c (ed_lenN (i := 0) rfl hv2 (by omega)) fun v3 H3 e3 t3 => ?_
    have b3 := b2.step e3
    have t13 := Tp.ex (gr_ex (H2 := H3) b2.c) _ _ (Tp.ex (gr_ex (H2 := H2) b1.c) _ _ t1)
    have t23 := Tp.ex (gr_ex (H2 := H3) b2.c) _ _ t2
    have one : ∀ (j : Nat) (u : V) (ps : List (Nat × Nat)), ([some v, some v1, some v2, some v3, none, none, none] : L2.St)[j]? = some (some u) → Tp (gr (gr (gr Bb H H1) H1 H2) H2 H3) u (.list (ps.map edD)) → ps.length ≤ 1000 → (∀ p ∈ ps, p.1 < N.ss.length ∧ p.2 < N.ss.length) →
        EvD (tOp rEq (tCB rLenDK (tCons (tCall (spW 3 rchPre rchPost) [] E0 (tCons (tVar 3) (tCons (tVar j) (tCons (tC (.int 0)) tNil)))) tNil)) (tVar 3)) [some v, some v1, some v2, some v3, none, none, none] (gr (gr (gr Bb H H1) H1 H2) H2 H3) (.bool (decide (St1 N.ss.length ps))) := fun j u ps hj tu lp bp =>
      ed_lenDEq (ev_callW (N.ss.length, ps, 0) (esv_cons (R := fun H v => Tp H v (.int N.ss.length)) (ed_var (i := 3) rfl t3) mn_tp (esv_cons (R := fun H v => Tp H v (.list (ps.map edD))) (ed_var hj tu) mn_tp (esv_cons (R := fun H v => Tp H v (.int 0)) ed_int mn_tp esv_nil mnl_nil) (mnl_cons mn_tp mnl_nil)) (mnl_cons mn_tp (mnl_cons mn_tp mnl_nil))) mn_rch fun H vs hh => by
          obtain ⟨v1, us, rfl, h1, v2, us2, rfl, h2, v3, us3, rfl, h3, rfl⟩ := hh
          cases h1
          cases h3
          exact ⟨rfl, n0, n4, lp, bp, v2, rfl, h2⟩) (ed_var (i := 3) rfl t3) fun H v hh => by
        obtain ⟨d, kvs, h1, h2, h3⟩ := hh
        refine ⟨d, kvs, h1, h2, decide_eq_decide.mpr ?_⟩
        have A0 := dirA_ok bp
        have e1 : ((kvs.length : Int) = (N.ss.length : Int)) ↔ kvs.length = N.ss.length := by omega
        rw [e1, h3]
        exact forall_congr' fun v => forall_congr' fun _ => rch_iff A0.mem
    refine s_retD b3.c (d := .bool (stB N.ss.length N.rs)) (ed_andV (one 1 v1 (N.rs.map edR) rfl t13 (by rw [List.length_map]; exact l2) bd) (fun ha => ed_is (one 2 v2 ((N.rs.map edR).map flP) rfl t23 (by rw [List.length_map, List.length_map]; exact l2) fun p hp => ?_) ?_) fun ha => ?_) fun v4 H4 e4 t4 => q v4 H4 (b3.a.trans e4) (Tp.ex (b3.step e4).d _ _ t4)
    · obtain ⟨p2, h2, rfl⟩ := List.mem_map.mp hp
      exact ⟨(bd p2 h2).2, (bd p2 h2).1⟩
    · unfold stB
      rw [ha]
      rfl
    · unfold stB
      rw [ha]
      rfl
end
end K50
set_option maxHeartbeats 1000000
namespace K50
open PySem PySem.W PySem.Spec PyProof.Rows L2 LamX NdefX Evl RZ Dl Dn Dm Lz K0 Mx Ns ClX
abbrev sMixed : Stmt := top 41
/-! ### a draw, at the spring -/
theorem draw_at {p l : Addr} {T : List (Addr × Str)} {n : Nat} {H1 : Hp} {m : Int} {Q : VK} {E : XK} (j : (mdS p l T).J n H1) (hn : n + 1 ≤ 100000) (h0 : 0 < m) (h1 : m ≤ 1000) (q : ∀ (d : Nat) H2, (d : Int) < m → ExM (mdS p l T) H1 H2 → (mdS p l T).J (n + 1) H2 → Q (.int (d : Int)) H2) : spDraw [.ref p, .int m] H1 Q E := by
  have z := em_draw (E := E) (T := T) (l := l) (σ := [some (.ref p)]) (B := fun _ => none) (te := tC (.int m)) (i := 0) (fun _ _ => rfl) rfl ed_int h0 h1 n H1 (fun _ _ h => nomatch h) j hn Q fun v H2 d ⟨i, e1, e2, e3⟩ m2 j2 t => by
    subst e1
    cases t
    have e : i = (i.toNat : Int) := by omega
    rw [e]
    exact q i.toNat H2 (by omega) m2 j2
  obtain ⟨v, hv, h⟩ := z
  cases hv
  exact h
/-! ### _law_mixed -/
def spMx : Sp := fun vs H1 Q _ => ∃ (p l : Addr) (T : List (Addr × Str)) (v : V) (B : Hp) (xs : List PyData) (s : Nat), vs = [.ref p, v] ∧ Ex B H1 ∧ Cl (mdS p l T) B ∧ (mdS p l T).J s H1 ∧ s + xs.length ≤ 100000 ∧ xs.length ≤ 1000 ∧ Tp B v (.list xs) ∧
  ∀ a H2 ys, ExM (mdS p l T) H1 H2 → (mdS p l T).J (s + xs.length) H2 → H1 a = none → H2 a = some (.lst ys) → ys.length = xs.length → (∀ y ∈ ys, ∃ x ∈ xs, Tp B y x) → Q (.ref a) H2
abbrev nMx : List Str := ["stream", "some", "left", "k"]
theorem scMx : FnScope nMx ["stream", "some"] (defScope sMixed) := ⟨rfl, rfl, rfl, by decide +kernel, rfl, by decide +kernel, by decide +kernel⟩
theorem mem_dp {B : Hp} : ∀ {ys : List V} {xs : List PyData}, TpAll B ys xs → ∀ y ∈ ys, ∃ x ∈ xs, Tp B y x
  | _, _, .cons h t, y, hy => by
    rcases List.mem_cons.mp hy with e | hy
    · subst e
      exact ⟨_, List.mem_cons_self, h⟩
    · obtain ⟨x, h1, h2⟩ := mem_dp t y hy
      exact ⟨x, List.mem_cons_of_mem _ h1, h2⟩
/-- left.pop(_law_draw(stream, len(left))) -/
theorem pop_drawn {K : PySem.W.Frag} {p l : Addr} {T : List (Addr × Str)} {n i k : Nat} {σ : L2.St} {H1 : Hp} {b : Addr} {ws : List V} {Q : VK} (hi : σ[i]? = some (some (.ref p))) (hk : σ[k]? = some (some (.ref b))) (j : (mdS p l T).J n H1) (hn : n + 1 ≤ 100000) (hb : H1 b = some (.lst ws)) (bM : b ∉ (mdS p l T).M) (h0 : 0 < ws.length) (h1 : ws.length ≤ 1000)
    (q : ∀ (d : Nat) (hd : d < ws.length) H2, ExM (mdS p l T) H1 H2 → (mdS p l T).J (n + 1) H2 → Q ws[d] (upd H2 b (.lst (ws.eraseIdx d)))) :
    tBM K "list" rPopAt (tVar k) (tCons (tCall spDraw [] E0 (tCons (tVar i) (tCons (tCB (Dl.rLen K) (tCons (tVar k) tNil)) tNil))) tNil) σ H1 Q := by
  refine ⟨.ref b, hk, .inl ⟨rfl, _, sq_of hb⟩, .ref p, hi, .ref b, hk, b, ws, rfl, .inl (sq_of hb), ?_⟩
  show spDraw [V.ref p, V.int (ws.length : Int)] H1 (fun x H1 => rPopAt (V.ref b) [x] H1 Q) E0
  refine draw_at j hn (by omega) (by omega) fun d H2 hd m2 j2 => ?_
  have hdw : d < ws.length := by omega
  refine ⟨b, ws, (d : Int), d, ws[d], rfl, rfl, m2 b _ bM hb, by omega, by omega, (ixN_seq (ixN_at hdw)).1, List.getElem?_eq_getElem hdw, q d hdw H2 m2 j2⟩
section
variable {P : Program} {w : World} {K : PySem.W.Frag} {mg : Str → Option Value} {base : Heap} {C : Addr}
theorem ok_mixed {f : Addr} {fd : FuncData} (F : Fun K "_law_mixed" "_law_mixed" sMixed f fd) (B : Bl mg) (T : CallF P w K mg base 1 "_law_draw" ["stream", "many"] spDraw) : FnOk P w K mg base CX0 2 f fd ["stream", "some"] spMx := by
  refine F.ok scMx (fun vs H Q E h => ?_) (fun cdv A outer s H vs Q E hr h => ?_)
  · obtain ⟨_, _, _, _, _, _, _, rfl, _⟩ := h
    rfl
  obtain ⟨fT, dT, oT, gT, kT, bT⟩ := T
  refine ⟨_, pss_cons (ps_set (i := 2) scMx.nd rfl (Or.inr rfl) (pe_callTy call_list_of (by rfl) B.list (by decide +kernel) (pa_cons (pv 1) pa_nil)))
    (pss_one (ps_ret (pe_lc (own := [("k", 3)]) (g := gName 3) (tt := tYes) (te := tBM K "list" rPopAt (tVar 2) (tCons (tCall spDraw [] E0 (tCons (tVar 0) (tCons (tCB (Dl.rLen K) (tCons (tVar 2) tNil)) tNil))) tNil)) rfl scMx.nd (pi_range1 (by rfl) B.range (pa_cons (pe_callB call_len_seq (by rfl) B.len PySem.boot_len (pa_cons (pv 2) pa_nil)) pa_nil))
        (blkOk_by (own := [("k", 3)]) (N := nMx) (sc := defScope sMixed) (by decide +kernel)) (fun _ _ _ _ _ => pg_name (i := 3) scMx.nd rfl (Or.inl rfl)) (fun _ _ _ _ _ => pts_nil)
        (fun _ _ _ _ _ => pe_bm PySem.F.plainAttrs_list PySem.F.slot_list_pop PySem.F.type_list_pop mt_popAt (pv 2) (pa_cons (pe_call oT hr (by rfl) gT kT bT .nil pass0 (pa_cons (pv 0) (pa_cons (pe_callB call_len_seq (by rfl) B.len PySem.boot_len (pa_cons (pv 2) pa_nil)) pa_nil))) pa_nil))))), ?_⟩
  obtain ⟨p, l, T, v, Bb, xs, s0, rfl, e, cl, j, hk, hl, hv, q⟩ := h
  cases hv with
  | @lst a us _ ha hs =>
    refine ⟨.ref a, rfl, a, us, rfl, .inl (sq_of (e _ _ ha)), fun b hb => ?_⟩
    have lu := dp_len hs
    have j0 := (mdS p l T).keep _ _ _ (Ex.new (o := .lst us) hb) j
    have bM : b ∉ (mdS p l T).M := off_M j hb
    have m0 : ExM (mdS p l T) H (upd H b (.lst us)) := ExM.of (Ex.new hb)
    have hb0 : upd H b (.lst us) b = some (.lst us) := upd_same
    refine ⟨.ref b, rfl, b, us, rfl, .inl (sq_of hb0), (us.length : Int), rfl, by omega, by omega, fun D hD => ?_⟩
    rw [Int.toNat_natCast]
    have Db : D ≠ b := fun q => by rw [q, hb0] at hD; cases hD
    have HD : H D = none := back_M j0 m0 hD
    have DM : D ∉ (mdS p l T).M := off_M j HD
    refine ⟨fun i m H' => m = us.length - i ∧ i ≤ us.length ∧ ExM (mdS p l T) H H' ∧ (mdS p l T).J (s0 + i) H' ∧ ∃ ws ys, H' b = some (.lst ws) ∧ ws.length = us.length - i ∧ (∀ y ∈ ws, ∃ x ∈ xs, Tp Bb y x) ∧ H' D = some (.lst ys) ∧ ys.length = i ∧ (∀ y ∈ ys, ∃ x ∈ xs, Tp Bb y x),
      ⟨us.length, rfl, Nat.zero_le _, m0.trans (ExM.of (Ex.new hD)), (mdS p l T).keep _ _ _ (Ex.new hD) j0, us, [], Ex.new hD _ _ hb0, rfl, mem_dp hs, upd_same, rfl, (fun y hy => nomatch hy)⟩, ?_⟩
    rintro i m H' ⟨rfl, hil, m1, j1, ws, ys, h1, h2, h3, h4, h5, h6⟩
    by_cases hlt : i < us.length
    · refine .inr ⟨hlt, fun H' => i + 1 ≤ us.length ∧ ExM (mdS p l T) H H' ∧ (mdS p l T).J (s0 + (i + 1)) H' ∧ ∃ ws ys, H' b = some (.lst ws) ∧ ws.length = us.length - (i + 1) ∧ (∀ y ∈ ws, ∃ x ∈ xs, Tp Bb y x) ∧ H' D = some (.lst ys) ∧ ys.length = i + 1 ∧ (∀ y ∈ ys, ∃ x ∈ xs, Tp Bb y x), fun H' hh => ⟨us.length - (i + 1), by omega, rfl, hh⟩, fun x H'' y => ?_⟩
      obtain ⟨e1, e2⟩ := y
      subst e1 e2
      refine ⟨rfl, ?_⟩
      refine pop_drawn (i := 0) (k := 2) (b := b) (ws := ws) rfl rfl j1 (by omega) h1 bM (by omega) (by omega) fun d hdw H2 m2 j2 => ?_
      have b2 : H2 b = some (.lst ws) := m2 b _ bM h1
      · have D2 : H2 D = some (.lst ys) := m2 D _ DM h4
        refine ⟨ys, by rw [upd_ne Db]; exact D2, sz_lt (by omega), hlt, ?_, ?_, ws.eraseIdx d, ys ++ [ws[d]], by rw [upd_ne Db.symm, upd_same], by rw [List.length_eraseIdx_of_lt hdw]; omega, fun y hy => h3 y (List.mem_of_mem_eraseIdx hy), upd_same, by rw [List.length_append, h5]; rfl, fun y hy => ?_⟩
        · intro c o nc hc
          have c1 : c ≠ D := fun q => by rw [q, HD] at hc; cases hc
          have c2 : c ≠ b := fun q => by rw [q, hb] at hc; cases hc
          rw [upd_ne c1, upd_ne c2]
          exact m2 c o nc (m1 c o nc hc)
        · refine (mdS p l T).set _ _ _ _ DM (.inr ⟨ys, by rw [upd_ne Db]; exact D2⟩) ((mdS p l T).set _ _ _ _ bM (.inr ⟨ws, b2⟩) ?_)
          rw [← Nat.add_assoc]
          exact j2
        · rcases List.mem_append.mp hy with hy | hy
          · exact h6 y hy
          · rw [List.mem_singleton.mp hy]
            exact h3 _ (List.getElem_mem hdw)
    · have ei : i = us.length := by omega
      subst ei
      refine .inl ⟨Nat.le_refl _, q D H' ys m1 (by rw [← lu]; exact j1) HD h4 (by omega) h6⟩
end
/-- told as data -/
theorem em_mixed {p l : Addr} {T : List (Addr × Str)} {σ : L2.St} {B : Hp} {te : TE} {i k m : Nat} {R : PyData → Prop} {E : XK} (c : Cl (mdS p l T) B) (hi : σ[i]? = some (some (.ref p))) (h : EvM (mdS p l T) te σ B R k) (hf : ∀ d, R d → ∃ xs, d = .list xs ∧ xs.length ≤ m) (hm : m ≤ 1000) :
    EvM (mdS p l T) (tCall spMx [] E (tCons (tVar i) (tCons te tNil))) σ B (fun d => ∃ xs zs, R (.list xs) ∧ d = .list zs ∧ zs.length = xs.length ∧ ∀ z ∈ zs, z ∈ xs) (k + m) := fun s H1 e j hk Q q => by
  refine ⟨.ref p, hi, h s H1 e j (by omega) _ fun v H2 d rd m2 j2 t => ?_⟩
  obtain ⟨xs, rfl, hx⟩ := hf d rd
  refine ⟨p, l, T, v, gr B H1 H2, xs, s + k, rfl, gr_subM c e m2, cl_gr c j, j2, by omega, by omega, t, fun a H3 ys m3 j3 ha ha3 hl hy => ?_⟩
  have : ∀ (ys : List V), (∀ y ∈ ys, ∃ x ∈ xs, Tp (gr B H1 H2) y x) → ∃ zs, TpAll (gr B H1 H2) ys zs ∧ (∀ z ∈ zs, z ∈ xs) := fun ys => by
    induction ys with
    | nil => exact fun _ => ⟨[], .nil, fun z hz => nomatch hz⟩
    | cons y ys ih =>
      intro h
      obtain ⟨x, hx, tx⟩ := h y List.mem_cons_self
      obtain ⟨zs, h1, h2⟩ := ih fun y hy => h y (List.mem_cons_of_mem _ hy)
      exact ⟨x :: zs, .cons tx h1, fun z hz => by
        rcases List.mem_cons.mp hz with e | hz
        · rw [e]; exact hx
        · exact h2 z hz⟩
  obtain ⟨zs, hz1, hz2⟩ := this ys hy
  have ha1 : H1 a = none := back_M j2 m2 ha
  refine q (.ref a) H3 (.list zs) ⟨xs, zs, rd, rfl, by rw [← dp_len hz1]; exact hl, hz2⟩ (m2.trans m3) ((mdS p l T).up _ _ _ (by omega) j3) (.lst (gr_new ha1 ha3) (TpAll.ex (gr_lM j m3) _ _ hz1))
end K50
set_option maxHeartbeats 1000000
namespace Dm
open PySem PySem.Spec PyProof.Rows L2 Evl RZ Dl
section
variable {D : Md} {K : PySem.W.Frag} {σ : L2.St} {H H1 B Hc : Hp} {te ta tb tx : TE} {t u : TT} {R R1 R2 : PyData → Prop} {k k1 k2 s : Nat} {E : Ends} {tz : TS} {b : Bool} {ds : List PyData}
/-- a test with draws: what it told has a property -/
def EtP (D : Md) (t : TT) (σ : L2.St) (B : Hp) (P : Bool → Prop) (k : Nat) : Prop := ∀ n H1, Ex B H1 → D.J n H1 → n + k ≤ 100000 → ∀ Q : Bool → Hp → Prop, (∀ b H2, P b → ExM D H1 H2 → D.J (n + k) H2 → Q b H2) → t σ H1 Q
theorem tp_of (h : EvT t σ B b) : EtP D t σ B (· = b) 0 := fun n H1 e j _ Q q => h H1 e Q fun H2 e2 => q b H2 rfl (ExM.of e2) (D.keep _ _ _ e2 j)
theorem tp_is {P P' : Bool → Prop} (h : EtP D t σ B P k) (f : ∀ b, P b → P' b) : EtP D t σ B P' k := fun n H1 e j hk Q q => h n H1 e j hk Q fun b H2 p m j2 => q b H2 (f b p) m j2
theorem tp_D (h : EvM D te σ B (fun d => ∃ b, d = .bool b) k) : EtP D (tTest te) σ B (fun _ => True) k := fun n H1 e j hk Q q => h n H1 e j hk _ fun v H2 d hd m j2 t => by
  obtain ⟨b, rfl⟩ := hd
  cases t
  exact ⟨b, rfl, q b H2 trivial m j2⟩
theorem tp_and {P1 P2 : Bool → Prop} (c : Cl D B) (h1 : EtP D t σ B P1 k1) (h2 : EtP D u σ B P2 k2) : EtP D (tAnd t u) σ B (fun b => b = true → P1 true ∧ P2 true) (k1 + k2) := fun n H1 e j hk Q q => h1 n H1 e j (by omega) _ fun b H2 p m j2 => by
  cases b with
  | false => exact q false H2 (fun z => nomatch z) m (D.up _ _ _ (by omega) j2)
  | true =>
    exact h2 (n + k1) H2 (ex_M c e m) j2 (by omega) Q fun b H3 p2 m3 j3 => q b H3 (fun z => by subst z; exact ⟨p, p2⟩) (m.trans m3) (by rw [← Nat.add_assoc]; exact j3)
theorem em_ifP {P : Bool → Prop} (c : Cl D B) (h : EtP D t σ B P k1) (h1 : P true → EvM D ta σ B R k2) (h2 : P false → EvM D tb σ B R k2) : EvM D (tIf t ta tb) σ B R (k1 + k2) := fun n H1 e j hk Q q =>
  h n H1 e j (by omega) _ fun b H2 p m2 j2 => by
    have go : ∀ {tx : TE}, EvM D tx σ B R k2 → tx σ H2 Q := fun hx => hx (n + k1) H2 (ex_M c e m2) j2 (by omega) Q fun w H3 d2 rd m3 j3 dw => q w H3 d2 rd (m2.trans m3) (by rw [← Nat.add_assoc]; exact j3) (Tp.ex (gr_rM j2 e m2) d2 w dw)
    cases b with
    | true => exact go (h1 p)
    | false => exact go (h2 p)
theorem em_andB (c : Cl D B) (h1 : EvM D ta σ B (fun d => ∃ b, d = .bool b) k1) (h2 : EvM D tb σ B (fun d => ∃ b, d = .bool b) k2) : EvM D (tAndV ta tb) σ B (fun d => ∃ b, d = .bool b) (k1 + k2) := fun n H1 e j hk Q q =>
  h1 n H1 e j (by omega) _ fun v H2 d hd m2 j2 t => by
    obtain ⟨b, rfl⟩ := hd
    cases t
    refine ⟨b, rfl, ?_⟩
    cases b with
    | false => exact q (.bl false) H2 (.bool false) ⟨false, rfl⟩ m2 (D.up _ _ _ (by omega) j2) (.bl false)
    | true => exact h2 (n + k1) H2 (ex_M c e m2) j2 (by omega) Q fun w H3 d2 rd m3 j3 dw => q w H3 d2 rd (m2.trans m3) (by rw [← Nat.add_assoc]; exact j3) (Tp.ex (gr_rM j2 e m2) d2 w dw)
/-- range(e), e with draws -/
theorem it_rngM {N n : Nat} {Rr : It → Hp → Prop} (h : EvM D te σ B (fun d => ∃ j : Nat, d = .int (j : Int) ∧ j ≤ N) k) (hN : N ≤ 1000000) (e : Ex B H1) (j : D.J n H1) (hk : n + k ≤ 100000) (q : ∀ (m : Nat) H2, m ≤ N → ExM D H1 H2 → D.J (n + k) H2 → Rr (Itr 0 m) H2) : iRng1 (tCons te tNil) σ H1 Rr := by
  refine h n H1 e j hk _ fun v H2 d hd m j2 t => ?_
  obtain ⟨i, rfl, hi⟩ := hd
  cases t
  refine ⟨(i : Int), rfl, by omega, by omega, ?_⟩
  rw [Int.toNat_natCast]
  exact q i H2 hi m j2
/-- l.append(e), l one's own, e with draws -/
theorem s_appM {j : Nat} {p : Addr} (bs : BsM D H H1 B Hc s) (hj : σ[j]? = some (some (.ref p))) (ho : Own H1 B Hc p ds) (h : EvM D te σ B R k) (l : s + k ≤ 100000) (hz : ds.length < 100000)
    (kk : ∀ Hn Hn' d, R d → ExM D Hc Hn → (∀ b o, b ≠ p → Hn b = some o → Hn' b = some o) → Own H1 (gr B Hc Hn) Hn' p (ds ++ [d]) → BsM D H H1 (gr B Hc Hn) Hn' (s + k) → E.nx σ Hn') : tDrop (tBM K "list" rAppend (tVar j) (tCons te tNil)) E σ Hc := by
  have hoo := ho
  obtain ⟨h1, h2, vs, h3, h4⟩ := ho
  obtain ⟨s1, j1⟩ := bs.j1
  have pM : p ∉ D.M := off_M j1 h1
  refine ⟨.ref p, hj, Or.inl ⟨rfl, vs, sq_of h3⟩, h s Hc bs.c bs.j l _ fun v Hn d rd m jj hv => ⟨p, vs, v, rfl, rfl, m p _ pM h3, sz_lt (by rw [dp_len h4]; exact hz), ?_⟩⟩
  have hb : gr B Hc Hn p = none := gr_off h2 (by rw [h3]; exact Option.some_ne_none _)
  exact kk Hn _ d rd m (fun b o n z => by rw [upd_ne n]; exact z) ⟨h1, hb, _, upd_same, dp_append (TpAll.ex (gr_ex bs.c) _ _ h4) (.cons hv .nil)⟩ ((bs.step m jj).mut h1 hb (.inr ⟨vs, m p _ pM h3⟩))
/-- l.extend(e), l one's own, e with draws -/
theorem s_extM {j N : Nat} {p : Addr} (bs : BsM D H H1 B Hc s) (hj : σ[j]? = some (some (.ref p))) (ho : Own H1 B Hc p ds) (h : EvM D te σ B (fun d => ∃ es, d = .list es ∧ R (.list es) ∧ es.length ≤ N) k) (l : s + k ≤ 100000) (hz : ds.length + N ≤ 100000)
    (kk : ∀ Hn Hn' es, R (.list es) → ExM D Hc Hn → (∀ b o, b ≠ p → Hn b = some o → Hn' b = some o) → Own H1 (gr B Hc Hn) Hn' p (ds ++ es) → BsM D H H1 (gr B Hc Hn) Hn' (s + k) → E.nx σ Hn') : tDrop (tBM K "list" rExtend (tVar j) (tCons te tNil)) E σ Hc := by
  have hoo := ho
  obtain ⟨h1, h2, vs, h3, h4⟩ := ho
  obtain ⟨s1, j1⟩ := bs.j1
  have pM : p ∉ D.M := off_M j1 h1
  refine ⟨.ref p, hj, Or.inl ⟨rfl, vs, sq_of h3⟩, h s Hc bs.c bs.j l _ fun v Hn d rd m jj hv => ?_⟩
  obtain ⟨es, rfl, hR, hN⟩ := rd
  have hb : gr B Hc Hn p = none := gr_off h2 (by rw [h3]; exact Option.some_ne_none _)
  cases hv with
  | lst ha hs =>
    refine ⟨p, _, vs, _, rfl, rfl, m p _ pM h3, (bs.step m jj).c _ _ ha, sz_of (by rw [dp_len h4, dp_len hs]; omega), ?_⟩
    exact kk Hn _ es hR m (fun b o n z => by rw [upd_ne n]; exact z) ⟨h1, hb, _, upd_same, dp_append (TpAll.ex (gr_ex bs.c) _ _ h4) hs⟩ ((bs.step m jj).mut h1 hb (.inr ⟨vs, m p _ pM h3⟩))
/-- a list of one's own is read as data from now on -/
theorem own_fzM {p : Addr} (h : Own H1 B Hc p ds) (bs : BsM D H H1 B Hc s) : ∃ B', BsM D H H1 B' Hc s ∧ Ex B B' ∧ Tp B' (.ref p) (.list ds) := by
  obtain ⟨h1, h2, vs, h3, h4⟩ := h
  obtain ⟨s1, j1⟩ := bs.j1
  have pM : p ∉ D.M := off_M j1 h1
  have eB : Ex B (Dl.fz B Hc p) := fun x o hx => by
    unfold Dl.fz
    rw [if_neg fun z => by rw [z, h2] at hx; cases hx]
    exact hx
  have hp : Dl.fz B Hc p p = Hc p := by unfold Dl.fz; rw [if_pos rfl]
  refine ⟨Dl.fz B Hc p, ⟨bs.a, bs.b.trans eB, fun x o hx => ?_, fun x o hx => ?_, fun x hx => ?_, bs.j, bs.j1⟩, eB, .lst (by rw [hp]; exact h3) (TpAll.ex eB _ _ h4)⟩
  · unfold Dl.fz at hx
    split at hx
    · rename_i z
      rw [z]; exact hx
    · exact bs.c x o hx
  · unfold Dl.fz at hx
    split at hx
    · rename_i z
      rw [z]
      unfold gr
      rw [h1]
      exact hx
    · exact bs.d x o hx
  · unfold Dl.fz
    have ne : ¬ x = p := fun z => pM (by rw [← z]; exact hx)
    rw [if_neg ne]
    exact bs.cl x hx
/-- x, l = e, [] -/
theorem q_parOwn {i j : Nat} (bs : BsM D H H1 B Hc s) (h : EvM D te σ B R k) (l : s + k ≤ 100000) (kk : ∀ v Hn p d, R d → ExM D Hc Hn → Hn p = none → Tp (gr B Hc Hn) v d → Own H1 (gr B Hc Hn) (upd Hn p (.lst [])) p [] → BsM D H H1 (gr B Hc Hn) (upd Hn p (.lst [])) (s + k) → tz E ((σ.set i (some v)).set j (some (.ref p))) (upd Hn p (.lst []))) :
    tSeq (tPar i j (tCons te (tCons (tLst tNil) tNil))) tz E σ Hc :=
  h s Hc bs.c bs.j l _ fun v Hn d rd m jj t => ⟨Nat.zero_le _, fun p hp => ⟨v, .ref p, rfl, by
    have b1 := bs.step m jj
    exact kk v Hn p d rd m hp t ⟨back_M b1.j b1.a hp, fresh_back b1.c hp, [], upd_same, .nil⟩ (b1.new hp)⟩⟩
end
end Dm
namespace K50
open PySem PySem.W PySem.Spec PyProof.Rows L2 LamX NdefX Evl RZ Dl Dn Dm Lz K0 Mx Ns ClX
section
variable {p l : Addr} {T : List (Addr × Str)} {K : PySem.W.Frag} {σ : L2.St} {B : Hp} {te : TE} {R : PyData → Prop} {k : Nat} {i : Nat} {E : XK}
theorem em_pick (c : Cl (mdS p l T) B) (hi : σ[i]? = some (some (.ref p))) (h : EvM (mdS p l T) te σ B R k) (hf : ∀ d, R d → ∃ xs, d = .list xs ∧ 0 < xs.length ∧ xs.length ≤ 1000) : EvM (mdS p l T) (tCall (spS 1 pickPre pickPost 1) [] E (tCons (tVar i) (tCons te tNil))) σ B (fun d => ∃ xs, R (.list xs) ∧ d ∈ xs) (k + 1) :=
  em_is (em_callS c hi (esm_cons c h esm_nil) fun ds hd => by
    obtain ⟨d, ds1, rfl, rd, rfl⟩ := hd
    obtain ⟨xs, rfl, h1, h2⟩ := hf d rd
    exact ⟨rfl, xs, rfl, h1, h2⟩) fun d hd => by
  obtain ⟨ds, ⟨d1, ds1, rfl, rd, rfl⟩, xs, hxs, hm⟩ := hd
  injection hxs with hxs
  subst hxs
  exact ⟨xs, rd, hm⟩
/-- a draw, the end with a natural number -/
theorem em_drawN {m : Nat} (c : Cl (mdS p l T) B) (hi : σ[i]? = some (some (.ref p))) (h : EvD te σ B (.int (m : Int))) (h0 : 0 < m) (h1 : m ≤ 1000) : EvM (mdS p l T) (tCall spDraw [] E (tCons (tVar i) (tCons te tNil))) σ B (fun d => ∃ j : Nat, d = .int (j : Int) ∧ j < m) 1 :=
  em_is (em_draw c hi h (by omega) (by omega)) fun d ⟨j, e, j0, j1⟩ => ⟨j.toNat, by rw [e, Int.toNat_of_nonneg j0], by omega⟩
end
/-! ### signs, roads as data -/
def SgP (n : Nat) (d : PyData) : Prop := ∃ ss, d = .list ss ∧ ss.length = n ∧ ∀ w ∈ ss, Wd w
def Ww (w : PyData) : Prop := Wd w ∧ w.canLay0 = true
def okT (n : Nat) (r : Rd) : Prop := okR n r ∧ r.2.2.1.canLay0 = true ∧ r.2.2.2.canLay0 = true
def RdP (n m : Nat) (d : PyData) : Prop := ∃ rs : List Rd, d = .list (rs.map rdD) ∧ (∀ r ∈ rs, okT n r) ∧ rs.length ≤ m
theorem sh_list {ds : List PyData} (h : ∀ d ∈ ds, d.canLay0 = true ∧ d.depth ≤ 60) : SeqAt.shaped (.list ds) = true := by
  have key : ∀ ds : List PyData, (∀ d ∈ ds, d.canLay0 = true ∧ d.depth ≤ 60) → PyData.canLayAll0 ds = true ∧ PyData.depthAll ds ≤ 60 := by
    intro ds
    induction ds with
    | nil => intro _; exact ⟨rfl, Nat.zero_le _⟩
    | cons d ds ih =>
      intro h
      obtain ⟨a, b⟩ := ih fun x hx => h x (List.mem_cons_of_mem _ hx)
      obtain ⟨c, e⟩ := h d List.mem_cons_self
      refine ⟨?_, Nat.max_le.mpr ⟨e, b⟩⟩
      show (PyData.canLay0 d && PyData.canLayAll0 ds) = true
      rw [c, a]
      rfl
  obtain ⟨a, b⟩ := key ds h
  unfold SeqAt.shaped
  have h1 : PyData.canLay0 (.list ds) = true := a
  have h2 : PyData.depth (.list ds) ≤ 64 := by show PyData.depthAll ds + 1 ≤ 64; omega
  rw [h1, decide_eq_true h2]
  rfl
theorem wd_depth {x : PyData} (h : Wd x) : x.depth ≤ 1 := by
  rcases wd_cases h with ⟨s, rfl, _⟩ | ⟨i, rfl, _⟩ | ⟨rfl, _⟩ | ⟨s, rfl, _⟩
  · exact Nat.zero_le _
  · exact Nat.zero_le _
  · exact Nat.le_refl _
  · exact Nat.le_refl _
theorem wd_pln {x : PyData} (h : Wd x) : pln x = true := by
  rcases wd_cases h with ⟨s, rfl, _⟩ | ⟨i, rfl, _⟩ | ⟨rfl, _⟩ | ⟨s, rfl, _⟩ <;> rfl
theorem rd_lay {n : Nat} {r : Rd} (h : okT n r) : (rdD r).canLay0 = true ∧ (rdD r).depth ≤ 60 := by
  obtain ⟨h1, h2, h3⟩ := h
  have d1 := wd_depth h1.o
  have d2 := wd_depth h1.i
  refine ⟨?_, ?_⟩
  · show (true && (true && (r.2.2.1.canLay0 && (r.2.2.2.canLay0 && true)))) = true
    rw [h2, h3]
    rfl
  · show max 0 (max 0 (max r.2.2.1.depth (max r.2.2.2.depth 0))) + 1 ≤ 60
    omega
theorem rds_sh {n : Nat} {rs : List Rd} (h : ∀ r ∈ rs, okT n r) : SeqAt.shaped (.list (rs.map rdD)) = true := sh_list fun d hd => by
  obtain ⟨r, hr, rfl⟩ := List.mem_map.mp hd
  exact rd_lay (h r hr)
theorem rd_pln {n : Nat} {r : Rd} (h : okR n r) : pln (rdD r) = true := by
  show (true && (true && (pln r.2.2.1 && (pln r.2.2.2 && true)))) = true
  rw [wd_pln h.o, wd_pln h.i]
  rfl
def fives : List PyData := [.list [.str "a"], .list [.str "a", .str "b"], .list [.str "b", .str "aa", .int 0], .list [.str "a", .tuple [.str "a"], .tuple []], .list [.int 0, .int 7]]
def marks4 : List PyData := [.list [.str ""], .list [.str "x", .str "y"], .list [.str "", .int 1, .tuple [.str "x"]], .list [.int 0]]
def WL (d : PyData) : Prop := ∃ ws, d = .list ws ∧ 0 < ws.length ∧ ws.length ≤ 10 ∧ ∀ w ∈ ws, Ww w
theorem fives_wd : ∀ d ∈ fives, WL d := by
  intro d hd
  unfold fives at hd
  simp only [List.mem_cons, List.not_mem_nil, or_false] at hd
  rcases hd with rfl | rfl | rfl | rfl | rfl <;> refine ⟨_, rfl, by decide, by decide, ?_⟩ <;> intro w hw <;> simp only [List.mem_cons, List.not_mem_nil, or_false] at hw
  · rw [hw]; exact ⟨rfl, by decide +kernel⟩
  · rcases hw with rfl | rfl <;> exact ⟨rfl, by decide +kernel⟩
  · rcases hw with rfl | rfl | rfl <;> exact ⟨rfl, by decide +kernel⟩
  · rcases hw with rfl | rfl | rfl <;> exact ⟨rfl, by decide +kernel⟩
  · rcases hw with rfl | rfl <;> exact ⟨rfl, by decide +kernel⟩
theorem marks4_wd : ∀ d ∈ marks4, WL d := by
  intro d hd
  unfold marks4 at hd
  simp only [List.mem_cons, List.not_mem_nil, or_false] at hd
  rcases hd with rfl | rfl | rfl | rfl <;> refine ⟨_, rfl, by decide, by decide, ?_⟩ <;> intro w hw <;> simp only [List.mem_cons, List.not_mem_nil, or_false] at hw
  · rw [hw]; exact ⟨rfl, by decide +kernel⟩
  · rcases hw with rfl | rfl <;> exact ⟨rfl, by decide +kernel⟩
  · rcases hw with rfl | rfl | rfl <;> exact ⟨rfl, by decide +kernel⟩
  · rw [hw]; exact ⟨rfl, by decide +kernel⟩
abbrev sNSg : Stmt := top 44
abbrev nSg : List Str := ["stream", "many", "some", "k"]
theorem scSg : FnScope nSg ["stream", "many"] (defScope sNSg) := ⟨rfl, rfl, rfl, by decide +kernel, rfl, by decide +kernel, by decide +kernel⟩
def sgPre : List PyData → Prop := fun ds => ∃ n : Nat, ds = [.int (n : Int)] ∧ n ≤ 7
def sgPost : List PyData → PyData → Prop := fun ds d => ∃ n : Nat, ds = [.int (n : Int)] ∧ SgP n d
section
variable {P : Program} {w : World} {K : PySem.W.Frag} {mg : Str → Option Value} {base : Heap} {C : Addr}
theorem ok_nsigns2 {f : Addr} {fd : FuncData} (F : Fun K "_law_n_signs" "_law_n_signs" sNSg f fd) (B : Bl mg) (U : CallF P w K mg base 2 "_law_pick" ["stream", "some"] (spS 1 pickPre pickPost 1)) : FnOk P w K mg base CX0 3 f fd ["stream", "many"] (spS 1 sgPre sgPost 8) := by
  refine F.ok scSg (fun vs H Q E h => spS_len h) (fun cdv A outer s H vs Q E hr h => ?_)
  obtain ⟨fU, dU, oU, gU, kU, bU⟩ := U
  refine ⟨_, pss_cons (ps_set (i := 2) scSg.nd rfl (Or.inr rfl) (pe_call oU hr (by rfl) gU kU bU .nil pass0 (pa_cons (pv 0) (pa_cons (pe_lst (pa_cons (pe_lst (pa_cons pe_str pa_nil)) (pa_cons (pe_lst (pa_cons pe_str (pa_cons pe_str pa_nil))) (pa_cons (pe_lst (pa_cons pe_str (pa_cons pe_str (pa_cons pe_int pa_nil)))) (pa_cons (pe_lst (pa_cons pe_str (pa_cons (pe_tup (pa_cons pe_str pa_nil)) (pa_cons (pe_tup pa_nil) pa_nil)))) (pa_cons (pe_lst (pa_cons pe_int (pa_cons pe_int pa_nil))) pa_nil)))))) pa_nil))))
    (pss_one (ps_ret (pe_lc (own := [("k", 3)]) (g := gName 3) (tt := tYes) (te := tCall (spS 1 pickPre pickPost 1) [] E0 (tCons (tVar 0) (tCons (tVar 2) tNil))) rfl scSg.nd (pi_range1 (by rfl) B.range (pa_cons (pv 1) pa_nil))
          (blkOk_by (own := [("k", 3)]) (N := nSg) (sc := defScope sNSg) (by decide +kernel)) (fun _ _ _ _ _ => pg_name (i := 3) scSg.nd rfl (Or.inl rfl)) (fun _ _ _ _ _ => pts_nil)
          (fun _ _ _ _ _ => pe_call oU hr (by rfl) gU kU bU .nil pass0 (pa_cons (pv 0) (pa_cons (pv 2) pa_nil)))))), ?_⟩
  obtain ⟨p, l, T', vs', rfl, Bb, ds, s0, e, cl, j, hk, hv, hn, ⟨n, rfl, hn7⟩, q⟩ := h
  obtain ⟨v, rfl, hx⟩ := tp1 hv
  cases hx
  have hk2 : s0 + 8 ≤ 100000 := hk
  have b0 := BsM.start e cl j
  refine q_asgM b0 (k := 0 + 1) (R := WL) (em_is (em_pick cl rfl (em_of (d := .list fives) (ed_lst (es_cons (ed_lst (es_cons ed_str es_nil) (show 1 ≤ 100000 by decide)) (es_cons (ed_lst (es_cons ed_str (es_cons ed_str es_nil)) (show 2 ≤ 100000 by decide)) (es_cons (ed_lst (es_cons ed_str (es_cons ed_str (es_cons ed_int es_nil))) (show 3 ≤ 100000 by decide)) (es_cons (ed_lst (es_cons ed_str (es_cons (ed_tup (es_cons ed_str es_nil) (show 1 ≤ 100000 by decide)) (es_cons (ed_tup es_nil (show 0 ≤ 100000 by decide)) es_nil))) (show 3 ≤ 100000 by decide)) (es_cons (ed_lst (es_cons ed_int (es_cons ed_int es_nil)) (show 2 ≤ 100000 by decide)) es_nil))))) (show 5 ≤ 100000 by decide))) fun d hd => ⟨fives, hd, by decide, by decide⟩) fun d hd => by
      obtain ⟨xs, hxs, hm⟩ := hd
      injection hxs with hxs
      subst hxs
      exact fives_wd d hm) (by omega) fun v2 H2 d2 hd2 m2 j2 t2 => ?_
  obtain ⟨ws, rfl, w0, w1, hw⟩ := hd2
  have b2 := b0.step m2 j2
  have lr : (rngD 0 (n : Int).toNat).length = n := by simp [rngD]
  refine s_retM b2 (k := 7) (R := SgP n) (em_up (em_is (em_lc (k := 1) (fun _ => true) (fun _ d => Wd d) b2.cl (ei_rng1 (n := (n : Int)) (es_cons (ed_var (i := 1) rfl (.int _)) es_nil) (by omega)) (by rw [lr]; omega) fun d x H' hd e' cl' hxx => ?_) fun d hd => ?_) (by rw [lr]; omega)) (by omega) fun v3 H3 d3 hd3 m3 j3 t3 => ret_M q ⟨n, rfl, hd3⟩ b2 m3 j3 (by show s0 + (0 + 1) + 7 ≤ s0 + 8; omega) t3
  · refine ⟨_, fun Hx k _ hk => hk, rfl, et_yes, fun _ => em_is (em_pick (k := 0) cl' rfl (em_of (ed_var (i := 2) rfl (Tp.ex e' _ _ t2))) fun d hd => ⟨ws, hd, w0, by omega⟩) fun d hd => ?_⟩
    obtain ⟨xs, hxs, hm⟩ := hd
    injection hxs with hxs
    subst hxs
    exact (hw d hm).1
  · obtain ⟨zs, rfl, hz⟩ := hd
    have := paired_all hz
    exact ⟨zs, rfl, by rw [this.1, Dl.filter_tt, lr], this.2⟩
end
end K50
set_option maxHeartbeats 1000000
namespace Dl
open PySem PySem.Spec PyProof.Rows L2 Evl RZ
theorem rd_catT {K : PySem.W.Frag} {ds es : List PyData} (hl : ds.length + es.length ≤ 100000) : RD (rCatA K) (.tuple ds) (.tuple es) (.tuple (ds ++ es)) := fun H H1 v w e hv hw Q q => by
  cases hv with
  | tup ha hs =>
    cases hw with
    | tup hb ht =>
      refine ⟨_, _, _, _, rfl, rfl, st_of (e _ _ ha), st_of (e _ _ hb), sz_of (by rw [dp_len hs, dp_len ht]; exact hl), fun z => ?_, fun z1 z2 => ?_, fun z1 z2 p hp => q _ _ (Ex.new hp) (.tup (gr_new hp upd_same) (dp_append (TpAll.ex (gr_ex e) _ _ hs) (TpAll.ex (gr_ex e) _ _ ht)))⟩
      · subst z
        cases hs
        exact q _ H1 (Ex.refl H1) (.tup (gr_ex e _ _ hb) (TpAll.ex (gr_ex e) _ _ ht))
      · subst z2
        cases ht
        rw [List.append_nil] at q
        exact q _ H1 (Ex.refl H1) (.tup (gr_ex e _ _ ha) (TpAll.ex (gr_ex e) _ _ hs))
end Dl
namespace Dm
open PySem PySem.Spec PyProof.Rows L2 Evl RZ Dl
/-- for _ in range(e), e with draws -/
theorem q_forRM {D : Md} {σ : L2.St} {H H1 B Hc : Hp} {te : TE} {tb tz : TS} {g : TG} {E : Ends} {k s N : Nat} (bs : BsM D H H1 B Hc s) (h : EvM D te σ B (fun d => ∃ j : Nat, d = .int (j : Int) ∧ j ≤ N) k) (hN : N ≤ 1000000) (l : s + k ≤ 100000) (Pv : Nat → L2.St → Hp → Prop)
    (h0 : ∀ Hn, ExM D Hc Hn → D.J (s + k) Hn → Pv 0 σ Hn)
    (hs : ∀ (i : Nat) σ' H', i < N → Pv i σ' H' → g (.int (i : Int)) σ' H' fun σ2 H2 => tb { E with nx := Pv (i + 1), ct := Pv (i + 1), bk := tz E } σ2 H2)
    (hd : ∀ (m : Nat) σ' H', m ≤ N → Pv m σ' H' → tz E σ' H') : tSeq (tFor (iRng1 (tCons te tNil)) g tb) tz E σ Hc :=
  by
  unfold tSeq tFor
  refine it_rngM h hN bs.c bs.j l fun m H2 hm m2 j2 => ?_
  exact for_range (D := { E with nx := tz E }) Pv (h0 H2 m2 j2) (fun i σ' H' hi p => by
    rw [Int.zero_add]
    exact hs i σ' H' (by omega) p) fun σ' H' p => hd m σ' H' hm p
end Dm
namespace K50
open PySem PySem.W PySem.Spec PyProof.Rows L2 LamX NdefX Evl RZ Dl Dn Dm Lz K0 Mx Ns ClX
theorem eqv_nilD (ds : List PyData) : PyData.eqv (.list ds) (.list []) = ds.isEmpty := by
  cases ds <;> rfl
/-! ### _law_n_crowd -/
abbrev sCrowd : Stmt := top 45
abbrev nCr : List Str := ["stream", "many", "some", "found", "k", "ends", "more"]
theorem scCr : FnScope nCr ["stream", "many"] (defScope sCrowd) := ⟨rfl, rfl, rfl, by decide +kernel, rfl, by decide +kernel, by decide +kernel⟩
def nnPre : List PyData → Prop := fun ds => ∃ n : Nat, ds = [.int (n : Int)] ∧ 0 < n ∧ n ≤ 7
def rdPost (m : Nat) : List PyData → PyData → Prop := fun ds d => ∃ n : Nat, ds.head? = some (.int (n : Int)) ∧ RdP n m d
section
variable {P : Program} {w : World} {K : PySem.W.Frag} {mg : Str → Option Value} {base : Heap} {C : Addr}
theorem ok_crowd {f : Addr} {fd : FuncData} (F : Fun K "_law_n_crowd" "_law_n_crowd" sCrowd f fd) (B : Bl mg) (T : CallF P w K mg base 1 "_law_draw" ["stream", "many"] spDraw) (U : CallF P w K mg base 2 "_law_pick" ["stream", "some"] (spS 1 pickPre pickPost 1)) : FnOk P w K mg base CX0 3 f fd ["stream", "many"] (spS 1 nnPre (rdPost 20) 80) := by
  refine F.ok scCr (fun vs H Q E h => spS_len h) (fun cdv A outer s H vs Q E hr h => ?_)
  obtain ⟨fT, dT, oT, gT, kT, bT⟩ := T
  obtain ⟨fU, dU, oU, gU, kU, bU⟩ := U
  have r1 := hr.mono (show 1 ≤ 2 by decide)
  refine ⟨_, pss_cons (ps_par (i := 2) (j := 3) rfl scCr.nd rfl rfl (by decide) rfl rfl (pa_cons (pe_call oU hr (by rfl) gU kU bU .nil pass0 (pa_cons (pv 0) (pa_cons (pe_lst (pa_cons (pe_lst (pa_cons pe_str pa_nil)) (pa_cons (pe_lst (pa_cons pe_str (pa_cons pe_str pa_nil))) (pa_cons (pe_lst (pa_cons pe_str (pa_cons pe_int (pa_cons (pe_tup (pa_cons pe_str pa_nil)) pa_nil)))) (pa_cons (pe_lst (pa_cons pe_int pa_nil)) pa_nil))))) pa_nil))) (pa_cons (pe_lst pa_nil) pa_nil)) rfl)
    (pss_cons (ps_for PassesOwn.never rfl (pi_range1 (by rfl) B.range (pa_cons (pe_call oT r1 (by rfl) gT kT bT .nil pass0 (pa_cons (pv 0) (pa_cons (pe_op op_add (pe_op op_mul pe_int (pv 1)) pe_int) pa_nil))) pa_nil)) (pg_name (i := 4) scCr.nd rfl (Or.inl rfl))
      (pss_cons (ps_set (i := 5) scCr.nd rfl (Or.inl rfl) (pe_tup (pa_cons (pe_call oT r1 (by rfl) gT kT bT .nil pass0 (pa_cons (pv 0) (pa_cons (pv 1) pa_nil))) (pa_cons (pe_call oT r1 (by rfl) gT kT bT .nil pass0 (pa_cons (pv 0) (pa_cons (pv 1) pa_nil))) pa_nil))))
      (pss_one (ps_expr (pe_bm PySem.F.plainAttrs_list PySem.F.slot_list_append PySem.F.type_list_append mt_append (pv 3) (pa_cons (pe_op op_catA (pv 5) (pe_tup (pa_cons (pe_call oU hr (by rfl) gU kU bU .nil pass0 (pa_cons (pv 0) (pa_cons (pv 2) pa_nil))) (pa_cons (pe_call oU hr (by rfl) gU kU bU .nil pass0 (pa_cons (pv 0) (pa_cons (pv 2) pa_nil))) pa_nil)))) pa_nil))))))
    (pss_cons (ps_set (i := 6) scCr.nd rfl (Or.inl rfl) (pe_ifExp (PW.pt (pw_and (pt_cmpR (op_neD hr.units) (pv 3) (pe_lst pa_nil) (nomark _)) (pw_and1 (pt_cmpR op_eq (pe_call oT r1 (by rfl) gT kT bT .nil pass0 (pa_cons (pv 0) (pa_cons pe_int pa_nil))) pe_int (nomark _)))))
        (pe_lst (pa_cons (pe_call oU hr (by rfl) gU kU bU .nil pass0 (pa_cons (pv 0) (pa_cons (pv 3) pa_nil))) pa_nil)) (pe_lst pa_nil)))
    (pss_one (ps_ret (pe_op op_cat (pv 3) (pv 6)))))), ?_⟩
  obtain ⟨p, l, T', vs', rfl, Bb, ds, s0, e, cl, j, hk, hv, hn, ⟨n, rfl, hn0, hn7⟩, q⟩ := h
  obtain ⟨v, rfl, hx⟩ := tp1 hv
  cases hx
  have hk2 : s0 + 80 ≤ 100000 := hk
  have b0 := BsM.start e cl j
  refine q_parOwn b0 (k := 0 + 1) (R := WL) (em_is (em_pick cl rfl (em_of (d := .list marks4) (ed_lst (es_cons (ed_lst (es_cons ed_str es_nil) (show 1 ≤ 100000 by decide)) (es_cons (ed_lst (es_cons ed_str (es_cons ed_str es_nil)) (show 2 ≤ 100000 by decide)) (es_cons (ed_lst (es_cons ed_str (es_cons ed_int (es_cons (ed_tup (es_cons ed_str es_nil) (show 1 ≤ 100000 by decide)) es_nil))) (show 3 ≤ 100000 by decide)) (es_cons (ed_lst (es_cons ed_int es_nil) (show 1 ≤ 100000 by decide)) es_nil)))) (show 4 ≤ 100000 by decide))) fun d hd => ⟨marks4, hd, by decide, by decide⟩) fun d hd => by
      obtain ⟨xs, hxs, hm⟩ := hd
      injection hxs with hxs
      subst hxs
      exact marks4_wd d hm) (by omega) fun v2 H2 pf d2 hd2 m2 hpf t2 o2 b2 => ?_
  obtain ⟨ws, rfl, w0, w1, hw⟩ := hd2
  refine q_forRM b2 (N := 15) (k := 1) (em_is (em_drawN (m := 2 * n + 2) b2.cl rfl (ed_is (ed_op (ed_op ed_int (ed_var (i := 1) rfl (.int _)) (rd_I (.inl ⟨by decide, by decide⟩))) ed_int rd_I0) (show PyData.int ((2 : Int) * (n : Int) + 2) = .int ((2 * n + 2 : Nat) : Int) from congrArg PyData.int (by omega))) (by omega) (by omega)) fun d hd => by
      obtain ⟨j, e1, e2⟩ := hd
      exact ⟨j, e1, by omega⟩) (by decide) (by omega)
    (fun i σ' H' => ∃ B' x4 x5 rs, BsM (mdS p l T') Bb H B' H' (s0 + (0 + 1) + 1 + 4 * i) ∧ Own H B' H' pf (rs.map rdD) ∧ rs.length = i ∧ (∀ r ∈ rs, okT n r) ∧ Tp B' v2 (.list ws) ∧ σ' = [some (.ref p), some (.int (n : Int)), some v2, some (.ref pf), x4, x5, none])
    (fun H3 m3 j3 => ⟨_, none, none, [], b2.step m3 j3, own_stepM b2 o2 m3, rfl, (fun r hr => nomatch hr), Tp.ex (gr_ex b2.c) _ _ t2, rfl⟩) ?_ ?_
  · rintro i σ' H' hi ⟨B', y4, y5, rs, b4, o4, hl, hrs, t4, rfl⟩
    refine q_asgM b4 (k := 1 + (1 + 0)) (R := fun d => ∃ a b : Nat, d = .tuple [.int (a : Int), .int (b : Int)] ∧ a < n ∧ b < n) (em_is (em_tup (esm_cons b4.cl (em_drawN (m := n) b4.cl rfl (ed_var (i := 1) rfl (.int _)) hn0 (by omega)) (esm_cons b4.cl (em_drawN (m := n) b4.cl rfl (ed_var (i := 1) rfl (.int _)) hn0 (by omega)) esm_nil)) fun ds hds => by
        obtain ⟨d1, ds1, rfl, _, d2, ds2, rfl, _, rfl⟩ := hds
        show 2 ≤ 100000
        decide) fun d hd => by
      obtain ⟨ds, rfl, d1, ds1, rfl, ⟨a, rfl, a1⟩, d2, ds2, rfl, ⟨b, rfl, b1⟩, rfl⟩ := hd
      exact ⟨a, b, rfl, a1, b1⟩) (by omega) fun v5 H5 d5 hd5 m5 j5 t5 => ?_
    obtain ⟨a, b, rfl, ha, hb⟩ := hd5
    have b5 := b4.step m5 j5
    have o5 := own_stepM b4 o4 m5
    have t45 := Tp.ex (gr_ex (H2 := H5) b4.c) _ _ t4
    have pk : EvM (mdS p l T') (tCall (spS 1 pickPre pickPost 1) [] E0 (tCons (tVar 0) (tCons (tVar 2) tNil))) [some (.ref p), some (.int (n : Int)), some v2, some (.ref pf), some (.int (i : Int)), some v5, none] (gr B' H' H5) Ww (0 + 1) := em_is (em_pick b5.cl rfl (em_of (ed_var (i := 2) rfl t45)) fun d hd => ⟨ws, hd, w0, by omega⟩) fun d hd => by
      obtain ⟨xs, hxs, hm⟩ := hd
      injection hxs with hxs
      subst hxs
      exact hw d hm
    refine s_appM (k := 0 + ((0 + 1) + ((0 + 1) + 0))) (R := fun d => ∃ r, d = rdD r ∧ okT n r) b5 rfl o5 (em_op b5.cl (em_of (ed_var (i := 5) rfl t5)) (em_tup (esm_cons b5.cl pk (esm_cons b5.cl pk esm_nil)) fun ds hds => by
        obtain ⟨d1, ds1, rfl, _, d2, ds2, rfl, _, rfl⟩ := hds
        show 2 ≤ 100000
        decide) fun x y hx hy => ?_) (by omega) (by rw [List.length_map]; omega) fun Hn Hn' d hd mn kn on bn => ?_
    · obtain ⟨ds, rfl, d1, ds1, rfl, w1, d2, ds2, rfl, w2, rfl⟩ := hy
      subst hx
      exact ⟨rdD ((a : Int), (b : Int), d1, d2), rd_catT (show 2 + 2 ≤ 100000 by decide), _, rfl, ⟨by show (0 : Int) ≤ a; omega, by show (a : Int) < n; omega, by show (0 : Int) ≤ b; omega, by show (b : Int) < n; omega, w1.1, w2.1⟩, w1.2, w2.2⟩
    · obtain ⟨r, rfl, hr⟩ := hd
      refine ⟨_, _, _, rs ++ [r], ?_, by rw [List.map_append]; exact on, by rw [List.length_append, hl]; rfl, fun x hx => ?_, Tp.ex (gr_ex b5.c) _ _ t45, rfl⟩
      · have e : s0 + (0 + 1) + 1 + 4 * i + (1 + (1 + 0)) + (0 + ((0 + 1) + ((0 + 1) + 0))) = s0 + (0 + 1) + 1 + 4 * (i + 1) := by omega
        rw [← e]
        exact bn
      · rcases List.mem_append.mp hx with hx | hx
        · exact hrs x hx
        · rw [List.mem_singleton.mp hx]; exact hr
  · rintro m σ' H' hm ⟨B', y4, y5, rs, b4, o4, hl, hrs, t4, rfl⟩
    obtain ⟨B2, b5, eB, t5⟩ := own_fzM o4 b4
    have sh := rds_sh hrs
    refine q_asgM b5 (k := (0 + 1) + (0 + 1)) (R := RdP n 1) (em_ifP (k1 := 0 + 1) (k2 := 0 + 1) b5.cl (tp_and b5.cl (tp_of (et_D (ed_op (ed_var (i := 3) rfl t5) (ed_lst es_nil (show 0 ≤ 100000 by decide)) (rd_neD sh rfl)))) (tp_D (em_op b5.cl (k1 := 1) (k2 := 0) (em_drawN (m := 4) b5.cl rfl ed_int (by decide) (by decide)) (em_of ed_int) fun x y hx hy => by
        obtain ⟨j, rfl, _⟩ := hx
        subst hy
        exact ⟨_, rd_eqI, _, rfl⟩))) (fun pp => ?_) fun _ => em_up (em_is (em_of (ed_lst es_nil (show 0 ≤ 100000 by decide))) fun d hd => ⟨[], hd, (fun r hr => nomatch hr), Nat.zero_le _⟩) (by decide)) (by omega) fun v6 H6 d6 hd6 m6 j6 t6 => ?_
    · have pp1 := (pp rfl).1
      have ne : 0 < (rs.map rdD).length := by
        cases rs with
        | nil => rw [eqv_nilD] at pp1; cases pp1
        | cons r rs => exact Nat.succ_pos _
      have pk2 : EvM (mdS p l T') (tCall (spS 1 pickPre pickPost 1) [] E0 (tCons (tVar 0) (tCons (tVar 3) tNil))) [some (.ref p), some (.int (n : Int)), some v2, some (.ref pf), y4, y5, none] B2 (fun d => ∃ r ∈ rs, d = rdD r) (0 + 1) := em_is (em_pick b5.cl rfl (em_of (ed_var (i := 3) rfl t5)) fun d hd => ⟨_, hd, ne, by rw [List.length_map]; omega⟩) fun d hd => by
        obtain ⟨xs, hxs, hm⟩ := hd
        injection hxs with hxs
        subst hxs
        obtain ⟨r, hr, e⟩ := List.mem_map.mp hm
        exact ⟨r, hr, e.symm⟩
      refine em_up (k := (0 + 1) + 0) (em_is (em_lst (esm_cons b5.cl pk2 esm_nil) fun ds hds => by
        obtain ⟨d1, ds1, rfl, _, rfl⟩ := hds
        show 1 ≤ 100000
        decide) fun d hd => ?_) (Nat.le_refl _)
      obtain ⟨ds, rfl, d1, ds1, rfl, ⟨r, hr, rfl⟩, rfl⟩ := hd
      exact ⟨[r], rfl, fun x hx => by rw [List.mem_singleton.mp hx]; exact hrs r hr, Nat.le_refl _⟩
    · obtain ⟨rs2, rfl, h2, h3⟩ := hd6
      have b6 := b5.step m6 j6
      refine s_retM b6 (k := 0) (R := RdP n 20) (em_is (em_of (ed_op (ed_var (i := 3) rfl (Tp.ex (gr_ex b5.c) _ _ t5)) (ed_var (i := 6) rfl t6) (rd_cat (by rw [List.length_map, List.length_map]; omega)))) fun d hd => ⟨rs ++ rs2, by rw [hd, List.map_append], fun r hr => ?_, by rw [List.length_append]; omega⟩) (by omega) fun v7 H7 d7 hd7 m7 j7 t7 => ret_M q ⟨n, rfl, hd7⟩ b6 m7 j7 (by show _ ≤ s0 + 80; omega) t7
      rcases List.mem_append.mp hr with hr | hr
      · exact hrs r hr
      · exact h2 r hr
end
end K50
set_option maxHeartbeats 1000000
namespace Dl
open PySem PySem.Spec PyProof.Rows L2 Evl RZ
theorem tp_map {B : Hp} {α : Type} {f : α → V} {g : α → PyData} (h : ∀ a, Tp B (f a) (g a)) : ∀ l : List α, TpAll B (l.map f) (l.map g)
  | [] => .nil
  | a :: l => .cons (h a) (tp_map h l)
theorem ed_lrg {σ : L2.St} {B : Hp} {te : TE} {n : Nat} (h : EvD te σ B (.int (n : Int))) (hn : n ≤ 1000) : EvD (tLstRg (tRg1 te)) σ B (.list (rngD 0 n)) := fun H1 e Q q => h H1 e _ fun v H2 e2 hv => by
  cases hv
  refine ⟨(n : Int), rfl, RgOk.of_le (by omega) (by omega) (by omega) (by omega), fun p hp => q _ _ (e2.trans (Ex.new hp)) (.lst (gr_new (fresh_back e2 hp) upd_same) ?_)⟩
  unfold rgV rngD
  rw [show ((n : Int) - 0).toNat = n by omega]
  exact tp_map (fun i => .int _) _
end Dl
namespace K50
open PySem PySem.W PySem.Spec PyProof.Rows L2 LamX NdefX Evl RZ Dl Dn Dm Lz K0 Mx Ns ClX
/-! ### _law_n_row -/
abbrev sNRow : Stmt := top 47
abbrev nRow : List Str := ["stream", "many", "far", "order", "k"]
theorem scRow2 : FnScope nRow ["stream", "many"] (defScope sNRow) := ⟨rfl, rfl, rfl, by decide +kernel, rfl, by decide +kernel, by decide +kernel⟩
def iD : PyData → Int
  | .int i => i
  | _ => 0
theorem empty_wd : Wd (.str "") ∧ (PyData.str "").canLay0 = true := ⟨rfl, by decide +kernel⟩
section
variable {P : Program} {w : World} {K : PySem.W.Frag} {mg : Str → Option Value} {base : Heap} {C : Addr}
theorem ok_nrow {f : Addr} {fd : FuncData} (F : Fun K "_law_n_row" "_law_n_row" sNRow f fd) (B : Bl mg) (T : CallF P w K mg base 1 "_law_draw" ["stream", "many"] spDraw) (M : CallF P w K mg base 2 "_law_mixed" ["stream", "some"] spMx) : FnOk P w K mg base CX0 3 f fd ["stream", "many"] (spS 1 nnPre (rdPost 20) 8) := by
  refine F.ok scRow2 (fun vs H Q E h => spS_len h) (fun cdv A outer s H vs Q E hr h => ?_)
  obtain ⟨fT, dT, oT, gT, kT, bT⟩ := T
  obtain ⟨fU, dU, oU, gU, kU, bU⟩ := M
  have r1 := hr.mono (show 1 ≤ 2 by decide)
  refine ⟨_, pss_cons (ps_set (i := 2) scRow2.nd rfl (Or.inl rfl) (pe_ifExp (pt_cmpR op_eq (pe_call oT r1 (by rfl) gT kT bT .nil pass0 (pa_cons (pv 0) (pa_cons pe_int pa_nil))) pe_int (nomark _)) (pv 1) (pe_op op_sub (pv 1) pe_int)))
    (pss_cons (ps_set (i := 3) scRow2.nd rfl (Or.inr rfl) (pe_call oU hr (by rfl) gU kU bU .nil pass0 (pa_cons (pv 0) (pa_cons (pe_listRg rfl (by rfl) B.list (prg_1 (by rfl) B.range (pv 1))) pa_nil))))
    (pss_one (ps_ret (pe_lc (own := [("k", 4)]) (g := gName 4) (tt := tYes) (te := tTup (tCons (tOp (rIxL K) (tVar 3) (tVar 4)) (tCons (tOp (rIxL K) (tVar 3) (tOp (rI (fun _ j => j ≠ 0) fun i j => .int (i.fmod j)) (tCB rInt1 (tCons (tOp (rI0 fun i j => .int (i + j)) (tVar 4) (tC (.int 1))) tNil)) (tVar 1))) (tCons (tC (.str "")) (tCons (tC (.str "")) tNil))))) rfl scRow2.nd (pi_range1 (by rfl) B.range (pa_cons (pv 2) pa_nil))
          (blkOk_by (own := [("k", 4)]) (N := nRow) (sc := defScope sNRow) (by decide +kernel)) (fun _ _ _ _ _ => pg_name (i := 4) scRow2.nd rfl (Or.inl rfl)) (fun _ _ _ _ _ => pts_nil)
          (fun _ _ _ _ _ => pe_tup (pa_cons (pe_ix ix_list (pv 3) (pv 4) (fun _ _ => rfl)) (pa_cons (pe_ix ix_list (pv 3) (pe_op op_modN (pe_callTy call_int1 (by rfl) B.int (by decide +kernel) (pa_cons (pe_op op_add (pv 4) pe_int) pa_nil)) (pv 1)) (fun _ _ => rfl)) (pa_cons pe_str (pa_cons pe_str pa_nil))))))))), ?_⟩
  obtain ⟨p, l, T', vs', rfl, Bb, ds, s0, e, cl, j, hk, hv, hn, ⟨n, rfl, hn0, hn7⟩, q⟩ := h
  obtain ⟨v, rfl, hx⟩ := tp1 hv
  cases hx
  have hk2 : s0 + 8 ≤ 100000 := hk
  have b0 := BsM.start e cl j
  refine q_asgM b0 (k := (1 + 0) + 0) (R := fun d => ∃ f : Nat, d = .int (f : Int) ∧ f ≤ n) (em_ifT cl (em_op cl (em_drawN (m := 2) cl rfl ed_int (by decide) (by decide)) (em_of ed_int) fun x y hx hy => by
      obtain ⟨j, rfl, _⟩ := hx
      subst hy
      exact ⟨_, rd_eqI, _, rfl⟩) (em_is (em_of (ed_var (i := 1) rfl (.int _))) fun d hd => ⟨n, hd, Nat.le_refl _⟩) (em_is (em_of (ed_op (ed_var (i := 1) rfl (.int _)) ed_int rd_I0)) fun d hd => ⟨n - 1, by rw [hd]; exact congrArg PyData.int (by omega), by omega⟩)) (by omega) fun v2 H2 d2 hd2 m2 j2 t2 => ?_
  obtain ⟨far, rfl, hfar⟩ := hd2
  cases t2
  have b2 := b0.step m2 j2
  have lr : (rngD 0 n).length = n := by simp [rngD]
  refine q_asgM b2 (k := 0 + 7) (R := fun d => ∃ zs, d = .list zs ∧ zs.length = n ∧ ∀ z ∈ zs, ∃ a : Nat, z = .int (a : Int) ∧ a < n) (em_is (em_mixed b2.cl rfl (em_of (ed_lrg (ed_var (i := 1) rfl (.int _)) (by omega))) (fun d hd => ⟨_, hd, by rw [lr]; omega⟩) (by decide)) fun d hd => ?_) (by omega) fun v3 H3 d3 hd3 m3 j3 t3 => ?_
  · obtain ⟨xs, zs, hxs, rfl, h1, h2⟩ := hd
    injection hxs with hxs
    subst hxs
    refine ⟨zs, rfl, by rw [h1, lr], fun z hz => ?_⟩
    obtain ⟨a, ha, rfl⟩ := List.mem_map.mp (h2 z hz)
    exact ⟨a, congrArg PyData.int (by omega), List.mem_range.mp ha⟩
  · obtain ⟨zs, rfl, hl, hz⟩ := hd3
    have b3 := b2.step m3 j3
    have lf : (rngD 0 (far : Int).toNat).length = far := by simp [rngD]
    refine s_retM b3 (k := 0) (R := RdP n 20) (em_is (em_of (ed_lc (fun _ => true) (fun d => rdD (iD ((zs[(iD d).toNat]?).getD .none), iD ((zs[((iD d + 1).fmod (n : Int)).toNat]?).getD .none), .str "", .str "")) (ei_rng1 (n := (far : Int)) (es_cons (ed_var (i := 2) rfl (.int _)) es_nil) (by omega)) (by rw [lf]; omega) fun d x H' hd e' hxx => ?_)) fun d hd => ?_) (by omega) fun v4 H4 d4 hd4 m4 j4 t4 => ret_M q ⟨n, rfl, hd4⟩ b3 m4 j4 (by show _ ≤ s0 + 8; omega) t4
    · obtain ⟨i, hi, rfl⟩ := List.mem_map.mp hd
      have hi2 := List.mem_range.mp hi
      cases hxx
      have hi3 : i < zs.length := by omega
      obtain ⟨a, ea, ha⟩ := hz zs[i] (List.getElem_mem hi3)
      have fm := fmod_range ((0 + (i : Int)) + 1) (m := (n : Int)) (by omega)
      have hk3 : (((0 + (i : Int)) + 1).fmod (n : Int)).toNat < zs.length := by omega
      obtain ⟨b, eb, hb⟩ := hz zs[(((0 + (i : Int)) + 1).fmod (n : Int)).toNat] (List.getElem_mem hk3)
      refine ⟨_, fun Hx k _ hk => hk, rfl, et_yes, fun _ => ?_⟩
      have g1 : zs[(iD (.int (0 + (i : Int)))).toNat]? = some (.int (a : Int)) := by
        rw [show (iD (.int (0 + (i : Int)))).toNat = i by show (0 + (i : Int)).toNat = i; omega, List.getElem?_eq_getElem hi3, ea]
      have g2 : zs[((iD (.int (0 + (i : Int))) + 1).fmod (n : Int)).toNat]? = some (.int (b : Int)) := by
        show zs[(((0 + (i : Int)) + 1).fmod (n : Int)).toNat]? = _
        rw [List.getElem?_eq_getElem hk3, eb]
      rw [g1, g2]
      have tz := Tp.ex e' _ _ t3
      exact ed_tup (es_cons (ed_op (ed_var (i := 3) rfl tz) (ed_var (i := 4) rfl (.int _)) (rd_ixL (atI_int (by omega) g1))) (es_cons (ed_op (ed_var (i := 3) rfl tz) (ed_op (ed_cb (es_cons (ed_op (ed_var (i := 4) rfl (.int _)) ed_int rd_I0) es_nil) rc_int) (ed_var (i := 1) rfl (.int _)) (rd_I (by omega))) (rd_ixL (atI_int fm.1 g2))) (es_cons ed_str (es_cons ed_str es_nil)))) (show 4 ≤ 100000 by decide)
    · rw [hd, Dl.filter_tt]
      refine ⟨(rngD 0 (far : Int).toNat).map fun d => (iD ((zs[(iD d).toNat]?).getD .none), iD ((zs[((iD d + 1).fmod (n : Int)).toNat]?).getD .none), .str "", .str ""), by rw [List.map_map]; rfl, fun r hr => ?_, by rw [List.length_map, lf]; omega⟩
      obtain ⟨d, hd, rfl⟩ := List.mem_map.mp hr
      obtain ⟨i, hi, rfl⟩ := List.mem_map.mp hd
      have hi2 := List.mem_range.mp hi
      have hi3 : i < zs.length := by omega
      obtain ⟨a, ea, ha⟩ := hz zs[i] (List.getElem_mem hi3)
      have fm := fmod_range ((0 + (i : Int)) + 1) (m := (n : Int)) (by omega)
      have hk3 : (((0 + (i : Int)) + 1).fmod (n : Int)).toNat < zs.length := by omega
      obtain ⟨b, eb, hb⟩ := hz zs[(((0 + (i : Int)) + 1).fmod (n : Int)).toNat] (List.getElem_mem hk3)
      have g1 : zs[(iD (.int (0 + (i : Int)))).toNat]? = some (.int (a : Int)) := by
        rw [show (iD (.int (0 + (i : Int)))).toNat = i by show (0 + (i : Int)).toNat = i; omega, List.getElem?_eq_getElem hi3, ea]
      have g2 : zs[((iD (.int (0 + (i : Int))) + 1).fmod (n : Int)).toNat]? = some (.int (b : Int)) := by
        show zs[(((0 + (i : Int)) + 1).fmod (n : Int)).toNat]? = _
        rw [List.getElem?_eq_getElem hk3, eb]
      rw [g1, g2]
      exact ⟨⟨by show (0 : Int) ≤ a; omega, by show (a : Int) < n; omega, by show (0 : Int) ≤ b; omega, by show (b : Int) < n; omega, empty_wd.1, empty_wd.1⟩, empty_wd.2, empty_wd.2⟩
end
end K50
set_option maxHeartbeats 1000000
namespace Ns
open PySem PySem.Spec PyProof.Rows L2 Evl RZ Dl Dm
/-! ### a list of lists of one's own, whatever they hold -/
structure LV (H : Hp) (p : Addr) (qs : List Addr) (A : List (List V)) : Prop where
  top : H p = some (.lst (qs.map V.ref))
  len : qs.length = A.length
  row : ∀ (i : Nat) q ns, qs[i]? = some q → A[i]? = some ns → H q = some (.lst ns)
  nd : qs.Nodup
  np : p ∉ qs
theorem LV.off {H H' : Hp} {p : Addr} {qs : List Addr} {A : List (List V)} (h : LV H p qs A) (s : ∀ x, x = p ∨ x ∈ qs → H x ≠ none → H' x = H x) : LV H' p qs A :=
  ⟨(s _ (.inl rfl) (by rw [h.top]; exact Option.some_ne_none _)).trans h.top, h.len, fun i q ns h1 h2 => (s _ (.inr (List.mem_of_getElem? h1)) (by rw [h.row i q ns h1 h2]; exact Option.some_ne_none _)).trans (h.row i q ns h1 h2), h.nd, h.np⟩
theorem LV.get {H : Hp} {p : Addr} {qs : List Addr} {A : List (List V)} (h : LV H p qs A) {i : Nat} (hi : i < A.length) : ∃ q, qs[i]? = some q ∧ H q = some (.lst A[i]) := by
  have h1 : i < qs.length := by rw [h.len]; exact hi
  exact ⟨qs[i], List.getElem?_eq_getElem h1, h.row i _ _ (List.getElem?_eq_getElem h1) (List.getElem?_eq_getElem hi)⟩
theorem LV.there {H : Hp} {p : Addr} {qs : List Addr} {A : List (List V)} (h : LV H p qs A) {q : Addr} (hq : q ∈ qs) : H q ≠ none := by
  obtain ⟨i, hi, e⟩ := List.getElem_of_mem hq
  have h2 : i < A.length := by rw [← h.len]; exact hi
  rw [h.row i q A[i] (by rw [List.getElem?_eq_getElem hi, e]) (List.getElem?_eq_getElem h2)]
  exact Option.some_ne_none _
theorem LV.set {H : Hp} {p : Addr} {qs : List Addr} {A : List (List V)} (h : LV H p qs A) {i : Nat} {ws : List V} {q : Addr} (hq : qs[i]? = some q) (hi : i < A.length) : LV (upd H q (.lst ws)) p qs (A.set i ws) := by
  have hm := List.mem_of_getElem? hq
  refine ⟨by rw [upd_ne fun z => h.np (by rw [z]; exact hm)]; exact h.top, by rw [List.length_set]; exact h.len, fun j r ns h1 h2 => ?_, h.nd, h.np⟩
  rw [List.getElem?_set] at h2
  by_cases e : i = j
  · subst e
    rw [if_pos rfl, if_pos hi] at h2
    rw [hq] at h1
    cases h1
    cases h2
    rw [upd_same]
  · rw [if_neg e] at h2
    have ne : r ≠ q := fun z => by
      subst z
      obtain ⟨a1, b1⟩ := (List.getElem?_eq_some_iff.mp hq)
      obtain ⟨a2, b2⟩ := (List.getElem?_eq_some_iff.mp h1)
      have pw := List.pairwise_iff_getElem.mp h.nd
      rcases Nat.lt_or_gt_of_ne e with g | g
      · exact pw i j a1 a2 g (b1.trans b2.symm)
      · exact pw j i a2 a1 g (b2.trans b1.symm)
    rw [upd_ne ne]
    exact h.row j r ns h1 h2
section
variable {K : PySem.W.Frag} {σ : L2.St} {Hc : Hp} {E : Ends} {p : Addr} {qs : List Addr} {A : List (List V)} {tz t u : TS}
/-- if len(f[a]) > 1 and len(f[b]) > 1 -/
theorem s_ifLen {j a b i m : Nat} (hj : σ[j]? = some (some (.ref p))) (ha : σ[a]? = some (some (nV i))) (hb : σ[b]? = some (some (nV m))) (L : LV Hc p qs A) (hi : i < A.length) (hm : m < A.length)
    (h1 : 1 < A[i].length → 1 < A[m].length → t E σ Hc) (h2 : u E σ Hc) :
    tIfS (tAnd (tTest (tOp (rI0 fun i j => .bl (decide (j < i))) (tCB (Dl.rLen K) (tCons (tOp (rIxL K) (tVar j) (tVar a)) tNil)) (tC (.int 1)))) (tTest (tOp (rI0 fun i j => .bl (decide (j < i))) (tCB (Dl.rLen K) (tCons (tOp (rIxL K) (tVar j) (tVar b)) tNil)) (tC (.int 1))))) t u E σ Hc := by
  obtain ⟨q, g1, g2⟩ := L.get hi
  obtain ⟨r, g3, g4⟩ := L.get hm
  refine ⟨.ref p, hj, nV i, ha, p, qs.map V.ref, (i : Int), .ref q, rfl, rfl, sq_of L.top, atI_at (by rw [List.getElem?_map, g1]; rfl), q, A[i], rfl, .inl (sq_of g2), (A[i].length : Int), 1, rfl, rfl, decide (1 < (A[i].length : Int)), rfl, ?_⟩
  by_cases c : 1 < (A[i].length : Int)
  · rw [decide_eq_true c]
    refine ⟨.ref p, hj, nV m, hb, p, qs.map V.ref, (m : Int), .ref r, rfl, rfl, sq_of L.top, atI_at (by rw [List.getElem?_map, g3]; rfl), r, A[m], rfl, .inl (sq_of g4), (A[m].length : Int), 1, rfl, rfl, decide (1 < (A[m].length : Int)), rfl, ?_⟩
    by_cases d : 1 < (A[m].length : Int)
    · rw [decide_eq_true d]
      exact h1 (by omega) (by omega)
    · rw [decide_eq_false d]
      exact h2
  · rw [decide_eq_false c]
    exact h2
/-- f[a].pop() -/
theorem e_popRow {j a i : Nat} {Q : VK} (hj : σ[j]? = some (some (.ref p))) (ha : σ[a]? = some (some (nV i))) (L : LV Hc p qs A) (hi : i < A.length) (h0 : 0 < A[i].length)
    (k : ∀ q w, q ∈ qs → w ∈ A[i] → LV (upd Hc q (.lst A[i].dropLast)) p qs (A.set i A[i].dropLast) → (∃ xs, Hc q = some (.lst xs)) → Q w (upd Hc q (.lst A[i].dropLast))) : tBM0 K "list" rPop (tOp (rIxL K) (tVar j) (tVar a)) σ Hc Q := by
  obtain ⟨q, g1, g2⟩ := L.get hi
  have hl : A[i].length - 1 < A[i].length := by omega
  exact ⟨.ref p, hj, nV i, ha, p, qs.map V.ref, (i : Int), .ref q, rfl, rfl, sq_of L.top, atI_at (by rw [List.getElem?_map, g1]; rfl), .inl ⟨rfl, _, sq_of g2⟩, q, A[i], A[i][A[i].length - 1], rfl, rfl, g2, List.getElem?_eq_getElem hl, k q _ (List.mem_of_getElem? g1) (List.getElem_mem hl) (L.set g1 hi) ⟨_, g2⟩⟩
end
end Ns
namespace K50
open PySem PySem.W PySem.Spec PyProof.Rows L2 LamX NdefX Evl RZ Dl Dn Dm Lz K0 Mx Ns ClX
/-! ### _law_n_doors -/
abbrev sDoors : Stmt := top 46
abbrev nDo : List Str := ["stream", "many", "halves", "free", "found", "k", "one", "other", "is_half", "out", "into"]
theorem scDo : FnScope nDo ["stream", "many", "halves"] (defScope sDoors) := ⟨rfl, rfl, rfl, by decide +kernel, rfl, by decide +kernel, by decide +kernel⟩
def six : List PyData := [.int 0, .int 1, .int 2, .str "x", .str "y", .tuple [.str "z"]]
theorem six_wd : ∀ d ∈ six, Ww d := by
  intro w hw
  unfold six at hw
  simp only [List.mem_cons, List.not_mem_nil, or_false] at hw
  rcases hw with rfl | rfl | rfl | rfl | rfl | rfl <;> exact ⟨rfl, by decide +kernel⟩
/-- what is free -/
structure Free (D : Md) (H1 B Hc : Hp) (p : Addr) (qs : List Addr) (A : List (List V)) : Prop where
  lv : LV Hc p qs A
  tp : H1 p = none ∧ B p = none
  tq : ∀ q ∈ qs, H1 q = none ∧ B q = none
  wd : ∀ ws ∈ A, ∀ w ∈ ws, ∃ x, Ww x ∧ Tp B w x
section
variable {D : Md} {H H1 B Hc Hn : Hp} {s k : Nat} {p : Addr} {qs : List Addr} {A : List (List V)}
theorem Free.step (f : Free D H1 B Hc p qs A) (b : BsM D H H1 B Hc s) (m : ExM D Hc Hn) : Free D H1 (gr B Hc Hn) Hn p qs A := by
  obtain ⟨s1, j1⟩ := b.j1
  refine ⟨f.lv.off fun x hx hn => ?_, ⟨f.tp.1, gr_off f.tp.2 (by rw [f.lv.top]; exact Option.some_ne_none _)⟩, fun q hq => ⟨(f.tq q hq).1, gr_off (f.tq q hq).2 (f.lv.there hq)⟩, fun ws hw w hw2 => ?_⟩
  · have nM : x ∉ D.M := by
      rcases hx with rfl | hx
      · exact off_M j1 f.tp.1
      · exact off_M j1 (f.tq x hx).1
    cases q : Hc x with
    | none => exact absurd q hn
    | some o => exact m x o nM q
  · obtain ⟨x, h1, h2⟩ := f.wd ws hw w hw2
    exact ⟨x, h1, Tp.ex (gr_ex b.c) _ _ h2⟩
theorem Free.other (f : Free D H1 B Hc p qs A) {r : Addr} {o : HO} (h1 : r ≠ p) (h2 : r ∉ qs) : Free D H1 B (upd Hc r o) p qs A := ⟨f.lv.off fun x hx _ => upd_ne fun z => by
  subst z
  rcases hx with hx | hx
  · exact h1 hx
  · exact h2 hx, f.tp, f.tq, f.wd⟩
/-- [_law_mixed(stream, [..]) for k in range(many)] -/
theorem lc_free {p l : Addr} {T : List (Addr × Str)} {n s j a : Nat} {σ : L2.St} {H H1 B Hc : Hp} {te : TE} {vs : List Nat} {Q : VK} (b : BsM (mdS p l T) H H1 B Hc s) (ha : σ[a]? = some (some (nV n))) (hn : n ≤ 7) (hw : ∀ v : V, wipe ((wipe σ vs).set j (some v)) vs = wipe σ vs)
    (h0 : ∀ v : V, ((wipe σ vs).set j (some v))[0]? = some (some (.ref p))) (he : ∀ (v : V) (B' : Hp), EvD te ((wipe σ vs).set j (some v)) B' (.list six)) (hk : s + 6 * n ≤ 100000)
    (q : ∀ r qs A B' Hn, BsM (mdS p l T) H H1 B' Hn (s + 6 * n) → Free (mdS p l T) H1 B' Hn r qs A → A.length = n → Q (.ref r) Hn) :
    tLc (iRng1 (tCons (tVar a) tNil)) (gName j) tYes (tCall spMx [] E0 (tCons (tVar 0) (tCons te tNil))) vs σ Hc Q := by
  refine ⟨nV n, ha, (n : Int), rfl, by omega, by omega, fun r hr => ?_⟩
  rw [Int.toNat_natCast]
  have r1 : H1 r = none := back_M b.j b.a hr
  have rB : B r = none := fresh_back b.c hr
  have rM : r ∉ (mdS p l T).M := off_M b.j hr
  refine ⟨fun i m H' => m = n - i ∧ i ≤ n ∧ ∃ B' qs A, BsM (mdS p l T) H H1 B' H' (s + 6 * i) ∧ Free (mdS p l T) H1 B' H' r qs A ∧ A.length = i, ⟨n, rfl, Nat.zero_le _, B, [], [], b.new hr, ⟨⟨upd_same, rfl, fun i q ns h1 _ => by simp at h1, List.nodup_nil, fun z => nomatch z⟩, ⟨r1, rB⟩, (fun q hq => nomatch hq), fun ws hw => nomatch hw⟩, rfl⟩, ?_⟩
  rintro i m H' ⟨rfl, hil, B', qs, A, b1, f1, hl⟩
  by_cases hlt : i < n
  · refine .inr ⟨hlt, fun H' => i + 1 ≤ n ∧ ∃ B' qs A, BsM (mdS p l T) H H1 B' H' (s + 6 * (i + 1)) ∧ Free (mdS p l T) H1 B' H' r qs A ∧ A.length = i + 1, fun H' hh => ⟨n - (i + 1), by omega, rfl, hh⟩, fun x H'' y => ?_⟩
    obtain ⟨e1, e2⟩ := y
    subst e1 e2
    refine ⟨hw _, ?_⟩
    refine ⟨.ref p, h0 _, he _ B' _ b1.c _ fun v H2 e2 tv => ?_⟩
    have b2 := b1.step (ExM.of e2) ((mdS p l T).keep _ _ _ e2 b1.j)
    have f2 := f1.step b1 (ExM.of e2)
    refine ⟨p, l, T, v, gr B' H'' H2, six, s + 6 * i, rfl, b2.c, b2.cl, b2.j, by show s + 6 * i + 6 ≤ 100000; omega, by decide, tv, fun c H3 ys m3 j3 hc hc3 hl3 hy => ?_⟩
    have b3 := b2.keepB m3 j3
    have f3l : LV H3 r qs A := f2.lv.off fun x hx hn => by
      have nM : x ∉ (mdS p l T).M := by
        obtain ⟨s1, j1⟩ := b.j1
        rcases hx with rfl | hx
        · exact off_M j1 f2.tp.1
        · exact off_M j1 (f2.tq x hx).1
      cases z : H2 x with
      | none => exact absurd z hn
      | some o => exact m3 x o nM z
    have c1 : H1 c = none := back_M b2.j b2.a hc
    have cB : gr B' H'' H2 c = none := fresh_back b2.c hc
    have cr : c ≠ r := fun z => by rw [z, f2.lv.top] at hc; cases hc
    have cq : c ∉ qs := fun z => f2.lv.there z hc
    refine ⟨qs.map V.ref, f3l.top, sz_lt (by rw [List.length_map, f3l.len, hl]; omega), hlt, gr B' H'' H2, qs ++ [c], A ++ [ys], ?_, ⟨⟨by rw [upd_same, List.map_append]; rfl, by rw [List.length_append, List.length_append, f3l.len]; rfl, fun k q ns g1 g2 => ?_, ?_, fun z => ?_⟩, f2.tp, fun q hq => ?_, fun ws hw w hw2 => ?_⟩, by rw [List.length_append, hl]; rfl⟩
    · have e : s + 6 * (i + 1) = s + 6 * i + six.length := by show s + 6 * (i + 1) = s + 6 * i + 6; omega
      rw [e]
      exact b3.mut r1 f2.tp.2 (.inr ⟨_, f3l.top⟩)
    · have lq : qs.length = A.length := f3l.len
      rcases Nat.lt_trichotomy k qs.length with g | g | g
      · rw [List.getElem?_append_left g] at g1
        rw [List.getElem?_append_left (by omega)] at g2
        have nr : q ≠ r := fun z => f3l.np (z ▸ List.mem_of_getElem? g1)
        rw [upd_ne nr]
        exact f3l.row k q ns g1 g2
      · subst g
        have e1 : c = q := by simpa using g1
        have e2 : ys = ns := by rw [lq] at g2; simpa using g2
        subst e1 e2
        rw [upd_ne cr]
        exact hc3
      · rw [List.getElem?_eq_none (by rw [List.length_append, List.length_singleton]; omega)] at g1
        cases g1
    · refine List.nodup_append.mpr ⟨f3l.nd, by simp, fun a ha b hb => ?_⟩
      rw [List.mem_singleton.mp hb]
      intro z
      exact cq (z ▸ ha)
    · rcases List.mem_append.mp z with z | z
      · exact f3l.np z
      · exact cr (List.mem_singleton.mp z).symm
    · rcases List.mem_append.mp hq with hq | hq
      · exact f2.tq q hq
      · rw [List.mem_singleton.mp hq]
        exact ⟨c1, cB⟩
    · rcases List.mem_append.mp hw with hw | hw
      · exact f2.wd ws hw w hw2
      · rw [List.mem_singleton.mp hw] at hw2
        obtain ⟨x, x1, x2⟩ := hy w hw2
        exact ⟨x, six_wd x x1, x2⟩
  · have ei : i = n := by omega
    subst ei
    exact .inl ⟨Nat.le_refl _, q r qs A B' H' b1 f1 hl⟩
end
end K50
set_option maxHeartbeats 1000000
namespace K50
open PySem PySem.W PySem.Spec PyProof.Rows L2 LamX NdefX Evl RZ Dl Dn Dm Lz K0 Mx Ns ClX
theorem q_parFree {p l : Addr} {T : List (Addr × Str)} {n s j a i k : Nat} {σ : L2.St} {H H1 B Hc : Hp} {te : TE} {vs : List Nat} {E : Ends} {tz : TS} (b : BsM (mdS p l T) H H1 B Hc s) (ha : σ[a]? = some (some (nV n))) (hn : n ≤ 7) (hw : ∀ v : V, wipe ((wipe σ vs).set j (some v)) vs = wipe σ vs)
    (h0 : ∀ v : V, ((wipe σ vs).set j (some v))[0]? = some (some (.ref p))) (he : ∀ (v : V) (B' : Hp), EvD te ((wipe σ vs).set j (some v)) B' (.list six)) (hk : s + 6 * n ≤ 100000)
    (q : ∀ r qs A B' Hn pd, BsM (mdS p l T) H H1 B' Hn (s + 6 * n) → Free (mdS p l T) H1 B' Hn r qs A → A.length = n → Own H1 B' Hn pd [] → pd ≠ r → pd ∉ qs → tz E ((σ.set i (some (.ref r))).set k (some (.ref pd))) Hn) :
    tSeq (tPar i k (tCons (tLc (iRng1 (tCons (tVar a) tNil)) (gName j) tYes (tCall spMx [] E0 (tCons (tVar 0) (tCons te tNil))) vs) (tCons (tLst tNil) tNil))) tz E σ Hc := by
  refine lc_free (Q := fun v H1 => (tCons (tLst tNil) tNil) σ H1 fun vs H2 => ∃ x y, v :: vs = [x, y] ∧ tz E ((σ.set i (some x)).set k (some y)) H2) b ha hn hw h0 he hk fun r qs A B' Hn b1 f1 hl => ⟨Nat.zero_le _, fun pd hp => ⟨.ref r, .ref pd, rfl, ?_⟩⟩
  have n1 : pd ≠ r := fun z => by rw [z, f1.lv.top] at hp; cases hp
  have n2 : pd ∉ qs := fun z => f1.lv.there z hp
  exact q r qs A B' _ pd (b1.new hp) (f1.other n1 n2) hl ⟨back_M b1.j b1.a hp, fresh_back b1.c hp, [], upd_same, .nil⟩ n1 n2
theorem q_popRow {K : PySem.W.Frag} {σ : L2.St} {Hc : Hp} {E : Ends} {tz : TS} {p : Addr} {qs : List Addr} {A : List (List V)} {j a i k : Nat} (hj : σ[j]? = some (some (.ref p))) (ha : σ[a]? = some (some (nV i))) (L : LV Hc p qs A) (hi : i < A.length) (h0 : 0 < A[i].length)
    (kk : ∀ q w, q ∈ qs → w ∈ A[i] → LV (upd Hc q (.lst A[i].dropLast)) p qs (A.set i A[i].dropLast) → (∃ xs, Hc q = some (.lst xs)) → tz E (σ.set k (some w)) (upd Hc q (.lst A[i].dropLast))) : tSeq (tAsg (tBM0 K "list" rPop (tOp (rIxL K) (tVar j) (tVar a))) (gName k)) tz E σ Hc :=
  e_popRow (Q := fun v H => tz E (σ.set k (some v)) H) hj ha L hi h0 kk
theorem Free.pop {D : Md} {H1 B Hc : Hp} {p : Addr} {qs : List Addr} {A : List (List V)} {i : Nat} {q : Addr} (f : Free D H1 B Hc p qs A) (hi : i < A.length) (L : LV (upd Hc q (.lst A[i].dropLast)) p qs (A.set i A[i].dropLast)) : Free D H1 B (upd Hc q (.lst A[i].dropLast)) p qs (A.set i A[i].dropLast) := ⟨L, f.tp, f.tq, fun ws hw w hw2 => by
  rcases List.mem_or_eq_of_mem_set hw with h | h
  · exact f.wd ws h w hw2
  · subst h
    exact f.wd A[i] (List.getElem_mem hi) w (List.dropLast_subset _ hw2)⟩
def doPre : List PyData → Prop := fun ds => ∃ (n : Nat) (b : Bool), ds = [.int (n : Int), .bool b] ∧ 0 < n ∧ n ≤ 7
/-- the loop's state -/
def DoSt (p l : Addr) (T : List (Addr × Str)) (Bb H : Hp) (n : Nat) (hb : Bool) (r pd : Addr) (qs : List Addr) (s1 : Nat) (i : Nat) (σ' : L2.St) (H' : Hp) : Prop := ∃ B' A x5 x6 x7 x8 x9 x10, ∃ rs : List Rd, BsM (mdS p l T) Bb H B' H' (s1 + 3 * i) ∧ Free (mdS p l T) H B' H' r qs A ∧ A.length = n ∧ Own H B' H' pd (rs.map rdD) ∧ rs.length ≤ 2 * i ∧ (∀ x ∈ rs, okT n x) ∧
  σ' = [some (.ref p), some (nV n), some (.bl hb), some (.ref r), some (.ref pd), x5, x6, x7, x8, x9, x10]
section
variable {P : Program} {w : World} {K : PySem.W.Frag} {mg : Str → Option Value} {base : Heap} {C : Addr}
theorem ok_doors {f : Addr} {fd : FuncData} (F : Fun K "_law_n_doors" "_law_n_doors" sDoors f fd) (B : Bl mg) (T : CallF P w K mg base 1 "_law_draw" ["stream", "many"] spDraw) (M : CallF P w K mg base 2 "_law_mixed" ["stream", "some"] spMx) : FnOk P w K mg base CX0 3 f fd ["stream", "many", "halves"] (spS 2 doPre (rdPost 40) 140) := by
  refine F.ok scDo (fun vs H Q E h => spS_len h) (fun cdv A outer s H vs Q E hr h => ?_)
  obtain ⟨fT, dT, oT, gT, kT, bT⟩ := T
  obtain ⟨fU, dU, oU, gU, kU, bU⟩ := M
  have r1 := hr.mono (show 1 ≤ 2 by decide)
  refine ⟨_, pss_cons (ps_par (i := 3) (j := 4) rfl scDo.nd rfl rfl (by decide) rfl rfl (pa_cons
        (pe_lc (own := [("k", 5)]) (g := gName 5) (tt := tYes) (te := tCall spMx [] E0 (tCons (tVar 0) (tCons (tLst (tCons (tC (.int 0)) (tCons (tC (.int 1)) (tCons (tC (.int 2)) (tCons (tC (.str "x")) (tCons (tC (.str "y")) (tCons (tTup (tCons (tC (.str "z")) tNil)) tNil))))))) tNil))) rfl scDo.nd (pi_range1 (by rfl) B.range (pa_cons (pv 1) pa_nil))
          (blkOk_by (own := [("k", 5)]) (N := nDo) (sc := defScope sDoors) (by decide +kernel)) (fun _ _ _ _ _ => pg_name (i := 5) scDo.nd rfl (Or.inl rfl)) (fun _ _ _ _ _ => pts_nil)
          (fun _ _ _ _ _ => pe_call oU hr (by rfl) gU kU bU .nil pass0 (pa_cons (pv 0) (pa_cons (pe_lst (pa_cons pe_int (pa_cons pe_int (pa_cons pe_int (pa_cons pe_str (pa_cons pe_str (pa_cons (pe_tup (pa_cons pe_str pa_nil)) pa_nil))))))) pa_nil))))
        (pa_cons (pe_lst pa_nil) pa_nil)) rfl)
    (pss_cons (ps_for PassesOwn.never rfl (pi_range1 (by rfl) B.range (pa_cons (pe_op op_sub (pe_op op_add (pe_call oT r1 (by rfl) gT kT bT .nil pass0 (pa_cons (pv 0) (pa_cons (pe_op op_mul pe_int (pv 1)) pa_nil))) (pv 1)) pe_int) pa_nil)) (pg_name (i := 5) scDo.nd rfl (Or.inl rfl))
      (pss_cons (ps_set (i := 6) scDo.nd rfl (Or.inl rfl) (pe_ifExp (pt_cmpR op_lt (pv 5) (pe_op op_sub (pv 1) pe_int) (nomark _)) (pe_op op_add (pv 5) pe_int) (pe_call oT r1 (by rfl) gT kT bT .nil pass0 (pa_cons (pv 0) (pa_cons (pv 1) pa_nil)))))
      (pss_cons (ps_set (i := 7) scDo.nd rfl (Or.inl rfl) (pe_call oT r1 (by rfl) gT kT bT .nil pass0 (pa_cons (pv 0) (pa_cons (pe_ifExp (pt_cmpR op_lt (pv 5) (pe_op op_sub (pv 1) pe_int) (nomark _)) (pe_op op_add (pv 5) pe_int) (pv 1)) pa_nil))))
      (pss_cons (ps_set (i := 8) scDo.nd rfl (Or.inl rfl) (pe_and (pe_cmpR op_eq (pv 6) (pv 7) (nomark _)) (pe_and (pv 2) (pe_one (pe_cmpR op_eq (pe_call oT r1 (by rfl) gT kT bT .nil pass0 (pa_cons (pv 0) (pa_cons pe_int pa_nil))) pe_int (nomark _))))))
      (pss_one (ps_if (PW.pt (pw_and (pt_cmpR op_gt (pe_callB call_len_seq (by rfl) B.len PySem.boot_len (pa_cons (pe_ix ix_list (pv 3) (pv 6) (fun _ _ => rfl)) pa_nil)) pe_int (nomark _)) (pw_and1 (pt_cmpR op_gt (pe_callB call_len_seq (by rfl) B.len PySem.boot_len (pa_cons (pe_ix ix_list (pv 3) (pv 7) (fun _ _ => rfl)) pa_nil)) pe_int (nomark _)))))
        (pss_cons (ps_set (i := 9) scDo.nd rfl (Or.inl rfl) (pe_bm0 PySem.F.plainAttrs_list PySem.F.slot_list_pop PySem.F.type_list_pop mt_pop (pe_ix ix_list (pv 3) (pv 6) (fun _ _ => rfl))))
        (pss_cons (ps_set (i := 10) scDo.nd rfl (Or.inl rfl) (pe_ifExp (pt_val (pv 8)) (pv 9) (pe_bm0 PySem.F.plainAttrs_list PySem.F.slot_list_pop PySem.F.type_list_pop mt_pop (pe_ix ix_list (pv 3) (pv 7) (fun _ _ => rfl)))))
        (pss_one (ps_expr (pe_bm PySem.F.plainAttrs_list PySem.F.slot_list_extend PySem.F.type_list_extend mt_extend (pv 4) (pa_cons
          (pe_op op_cat (pe_lst (pa_cons (pe_tup (pa_cons (pv 6) (pa_cons (pv 7) (pa_cons (pv 9) (pa_cons (pv 10) pa_nil))))) pa_nil)) (pe_op op_rep (pe_lst (pa_cons (pe_tup (pa_cons (pv 7) (pa_cons (pv 6) (pa_cons (pv 10) (pa_cons (pv 9) pa_nil))))) pa_nil)) (pe_callTy call_int1 (by rfl) B.int (by decide +kernel) (pa_cons (pe_not (pv 8)) pa_nil)))) pa_nil))))))
        pss_nil))))))
    (pss_one (ps_ret (pv 4)))), ?_⟩
  obtain ⟨p, l, T', vs', rfl, Bb, ds, s0, e, cl, j, hk, hv, hn, ⟨n, hb, rfl, hn0, hn7⟩, q⟩ := h
  obtain ⟨v, u, rfl, hx, hy⟩ := tp2 hv
  cases hx
  cases hy
  have hk2 : s0 + 140 ≤ 100000 := hk
  have b0 := BsM.start e cl j
  refine q_parFree (n := n) (a := 1) b0 rfl hn7 ?_ ?_ ?_ (by omega) fun r qs A0 B0 H0 pd b1 f1 l1 o1 nr nq => ?_
  · exact fun _ => rfl
  · exact fun _ => rfl
  · exact fun v B' => ed_lst (es_cons ed_int (es_cons ed_int (es_cons ed_int (es_cons ed_str (es_cons ed_str (es_cons (ed_tup (es_cons ed_str es_nil) (show 1 ≤ 100000 by decide)) es_nil)))))) (show 6 ≤ 100000 by decide)
  refine q_forRM b1 (N := 19) (k := (1 + 0) + 0) (em_op b1.cl (em_op b1.cl (em_drawN (m := 2 * n) b1.cl rfl (ed_is (ed_op ed_int (ed_var (i := 1) rfl (.int _)) (rd_I (.inl ⟨by decide, by decide⟩))) (show PyData.int ((2 : Int) * (n : Int)) = .int ((2 * n : Nat) : Int) from congrArg PyData.int (by omega))) (by omega) (by omega)) (em_of (ed_var (i := 1) rfl (.int (n : Int)))) (Rz := fun d => ∃ j : Nat, d = .int (j : Int) ∧ n ≤ j ∧ j < 3 * n) fun x y hx hy => by
      obtain ⟨j, rfl, hj⟩ := hx
      subst hy
      exact ⟨_, rd_I0, j + n, congrArg PyData.int (by omega), by omega, by omega⟩) (em_of ed_int) fun x y hx hy => by
      obtain ⟨j, rfl, hj, hj2⟩ := hx
      subst hy
      exact ⟨_, rd_I0, j - 1, congrArg PyData.int (by omega), by omega⟩) (by decide) (by omega)
    (DoSt p l T' Bb H n hb r pd qs (s0 + 6 * n + ((1 + 0) + 0)))
    (fun Hn m j => ⟨_, A0, none, none, none, none, none, none, [], b1.step m j, f1.step b1 m, l1, own_stepM b1 o1 m, Nat.zero_le _, (fun x hx => nomatch hx), rfl⟩) ?_ ?_
  · rintro i σ' H' hi ⟨B', A, y5, y6, y7, y8, y9, y10, rs, b4, f4, l4, o4, hl, hrs, rfl⟩
    refine q_asgM b4 (k := 0 + 1) (R := fun d => ∃ a : Nat, d = .int (a : Int) ∧ a < n) (em_ifP b4.cl (tp_of (et_D (ed_op (ed_var (i := 5) rfl (.int (i : Int))) (ed_op (ed_var (i := 1) rfl (.int (n : Int))) ed_int rd_I0) rd_I0b))) (fun hp => em_up (em_is (em_of (ed_op (ed_var (i := 5) rfl (.int (i : Int))) ed_int rd_I0)) fun d hd => ⟨i + 1, by rw [hd]; exact congrArg PyData.int (by omega), by have := of_decide_eq_true hp.symm; omega⟩) (by decide)) fun _ => em_drawN (m := n) b4.cl rfl (ed_var (i := 1) rfl (.int _)) hn0 (by omega)) (by omega) fun v6 H5 d5 hd5 m5 j5 t5 => ?_
    obtain ⟨a, rfl, ha⟩ := hd5
    cases t5
    have b5 := b4.step m5 j5
    have f5 := f4.step b4 m5
    have o5 := own_stepM b4 o4 m5
    refine q_asgM b5 (k := 1) (R := fun d => ∃ a : Nat, d = .int (a : Int) ∧ a < n) (em_is (em_drawN (m := if i + 1 < n then i + 1 else n) b5.cl rfl (ed_if (et_D (ed_op (ed_var (i := 5) rfl (.int (i : Int))) (ed_op (ed_var (i := 1) rfl (.int (n : Int))) ed_int rd_I0) rd_I0b)) (fun hp => ed_is (ed_op (ed_var (i := 5) rfl (.int (i : Int))) ed_int rd_I0) (by have := of_decide_eq_true hp; rw [if_pos (by omega)]; exact congrArg PyData.int (by omega))) fun hp => ed_is (ed_var (i := 1) rfl (.int (n : Int))) (by have := of_decide_eq_false hp; rw [if_neg (by omega)])) (by split <;> omega) (by split <;> omega)) fun d hd => by
      obtain ⟨j, rfl, hj⟩ := hd
      refine ⟨j, rfl, ?_⟩
      split at hj <;> omega) (by omega) fun v7 H6 d6 hd6 m6 j6 t6 => ?_
    obtain ⟨b, rfl, hbn⟩ := hd6
    cases t6
    have b6 := b5.step m6 j6
    have f6 := f5.step b5 m6
    have o6 := own_stepM b5 o5 m6
    refine q_asgM b6 (k := 0 + (0 + (1 + 0))) (R := fun d => ∃ b, d = .bool b) (em_andB b6.cl (em_is (em_of (ed_op (ed_var (i := 6) rfl (.int (a : Int))) (ed_var (i := 7) rfl (.int (b : Int))) rd_eqI)) fun d hd => ⟨_, hd⟩) (em_andB b6.cl (em_is (em_of (ed_var (i := 2) rfl (.bl hb))) fun d hd => ⟨_, hd⟩) (em_op b6.cl (em_drawN (m := 2) b6.cl rfl ed_int (by decide) (by decide)) (em_of ed_int) fun x y hx hy => by
      obtain ⟨j, rfl, _⟩ := hx
      subst hy
      exact ⟨_, rd_eqI, _, rfl⟩))) (by omega) fun v8 H7 d7 hd7 m7 j7 t7 => ?_
    obtain ⟨hf, rfl⟩ := hd7
    cases t7
    have b7 := b6.step m7 j7
    have f7 := f6.step b6 m7
    have o7 := own_stepM b6 o6 m7
    have aA : a < A.length := by omega
    have bA : b < A.length := by omega
    have cnt : s0 + 6 * n + (1 + 0 + 0) + 3 * i + (0 + 1) + 1 + (0 + (0 + (1 + 0))) = s0 + 6 * n + (1 + 0 + 0) + 3 * (i + 1) := by omega
    rw [cnt] at b7
    refine s_ifLen (j := 3) (a := 6) (b := 7) (i := a) (m := b) rfl rfl rfl f7.lv aA bA (fun la lb => ?_) ⟨_, A, _, _, _, _, _, _, rs, b7, f7, l4, o7, by omega, hrs, rfl⟩
    refine q_popRow (j := 3) (a := 6) (i := a) rfl rfl f7.lv aA (by omega) fun q1 w1 hq1 hw1 L1 hx1 => ?_
    have f8 := f7.pop aA L1
    have pq1 : pd ≠ q1 := fun z => nq (z ▸ hq1)
    have b8 := b7.mut (o := .lst A[a].dropLast) (f7.tq q1 hq1).1 (f7.tq q1 hq1).2 (.inr hx1)
    have o8 := o7.other (q := q1) (o := .lst A[a].dropLast) pq1
    obtain ⟨x1, ww1, tw1⟩ := f7.wd A[a] (List.getElem_mem aA) w1 hw1
    have fin : ∀ (w2 : V) (x2 : PyData) (H9 : Hp) (A2 : List (List V)), BsM (mdS p l T') Bb H (gr (gr (gr B' H' H5) H5 H6) H6 H7) H9 (s0 + 6 * n + (1 + 0 + 0) + 3 * (i + 1)) → Free (mdS p l T') H (gr (gr (gr B' H' H5) H5 H6) H6 H7) H9 r qs A2 → A2.length = n → Own H (gr (gr (gr B' H' H5) H5 H6) H6 H7) H9 pd (rs.map rdD) → Ww x2 → Tp (gr (gr (gr B' H' H5) H5 H6) H6 H7) w2 x2 →
        tDrop (tBM K "list" rExtend (tVar 4) (tCons (tOp rCat (tLst (tCons (tTup (tCons (tVar 6) (tCons (tVar 7) (tCons (tVar 9) (tCons (tVar 10) tNil))))) tNil)) (tOp rRep (tLst (tCons (tTup (tCons (tVar 7) (tCons (tVar 6) (tCons (tVar 10) (tCons (tVar 9) tNil))))) tNil)) (tCB rInt1 (tCons (tNotV (tVar 8)) tNil)))) tNil))
          { nx := DoSt p l T' Bb H n hb r pd qs (s0 + 6 * n + ((1 + 0) + 0)) (i + 1), ct := DoSt p l T' Bb H n hb r pd qs (s0 + 6 * n + ((1 + 0) + 0)) (i + 1), bk := tRet (tVar 4) { nx := fun x H' => Q V.non H', rt := Q }, rt := Q }
          [some (.ref p), some (nV n), some (.bl hb), some (.ref r), some (.ref pd), some (.int (i : Int)), some (.int (a : Int)), some (.int (b : Int)), some (.bl hf), some w1, some w2] H9 := fun w2 x2 H9 A2 b9 f9 l9 o9 ww2 tw2 => by
      have ok1 : okT n ((a : Int), (b : Int), x1, x2) := ⟨⟨by show (0 : Int) ≤ a; omega, by show (a : Int) < n; omega, by show (0 : Int) ≤ b; omega, by show (b : Int) < n; omega, ww1.1, ww2.1⟩, ww1.2, ww2.2⟩
      have ok2 : okT n ((b : Int), (a : Int), x2, x1) := ⟨⟨by show (0 : Int) ≤ b; omega, by show (b : Int) < n; omega, by show (0 : Int) ≤ a; omega, by show (a : Int) < n; omega, ww2.1, ww1.1⟩, ww2.2, ww1.2⟩
      refine s_extM (k := 0) (N := 2) (R := fun d => ∃ es : List Rd, d = .list (es.map rdD) ∧ (∀ x ∈ es, okT n x) ∧ es.length ≤ 2) b9 rfl o9 (em_is (em_of (ed_op (ed_lst (es_cons (ed_tup (es_cons (ed_var (i := 6) rfl (.int (a : Int))) (es_cons (ed_var (i := 7) rfl (.int (b : Int))) (es_cons (ed_var (i := 9) rfl tw1) (es_cons (ed_var (i := 10) rfl tw2) es_nil)))) (show 4 ≤ 100000 by decide)) es_nil) (show 1 ≤ 100000 by decide))
        (ed_op (ed_lst (es_cons (ed_tup (es_cons (ed_var (i := 7) rfl (.int (b : Int))) (es_cons (ed_var (i := 6) rfl (.int (a : Int))) (es_cons (ed_var (i := 10) rfl tw2) (es_cons (ed_var (i := 9) rfl tw1) es_nil)))) (show 4 ≤ 100000 by decide)) es_nil) (show 1 ≤ 100000 by decide)) (ed_cb (es_cons (ed_notV (ed_var (i := 8) rfl (.bl hf))) es_nil) rc_intB) (rd_rep (by cases hf <;> decide) (by cases hf <;> simp))) (rd_cat (by cases hf <;> simp)))) fun d hd => ?_) (by omega) (by rw [List.length_map]; omega) fun Hn Hn' es hR mn kn on bn => ?_
      · subst hd
        cases hf with
        | true => exact ⟨_, rfl, ⟨[((a : Int), (b : Int), x1, x2)], rfl, fun x hx => by rw [List.mem_singleton.mp hx]; exact ok1, show 1 ≤ 2 by decide⟩, show 1 ≤ 2 by decide⟩
        | false => exact ⟨_, rfl, ⟨[((a : Int), (b : Int), x1, x2), ((b : Int), (a : Int), x2, x1)], rfl, fun x hx => by
            rcases List.mem_cons.mp hx with e | hx
            · rw [e]; exact ok1
            · rw [List.mem_singleton.mp hx]; exact ok2, show 2 ≤ 2 by decide⟩, show 2 ≤ 2 by decide⟩
      · obtain ⟨es2, e2, h2, h3⟩ := hR
        injection e2 with e2
        subst e2
        have f10 : Free (mdS p l T') H (gr (gr (gr (gr B' H' H5) H5 H6) H6 H7) H9 Hn) Hn' r qs A2 := by
          have z := f9.step b9 mn
          refine ⟨z.lv.off fun x hx hnn => ?_, z.tp, z.tq, z.wd⟩
          have nx : x ≠ pd := fun zz => by
            rcases hx with hx | hx
            · exact nr (zz ▸ hx)
            · exact nq (zz ▸ hx)
          cases q2 : Hn x with
          | none => exact absurd q2 hnn
          | some o => exact kn x o nx q2
        exact ⟨_, A2, _, _, _, _, _, _, rs ++ es2, bn, f10, l9, by rw [List.map_append]; exact on, by rw [List.length_append]; omega, fun x hx => by
          rcases List.mem_append.mp hx with hx | hx
          · exact hrs x hx
          · exact h2 x hx, rfl⟩
    cases hf with
    | true => exact ⟨.bl true, rfl, true, rfl, w1, rfl, fin w1 x1 _ _ b8 f8 (by rw [List.length_set]; exact l4) o8 ww1 tw1⟩
    | false =>
      have bA2 : b < (A.set a A[a].dropLast).length := by rw [List.length_set]; exact bA
      have lb2 : 0 < (A.set a A[a].dropLast)[b].length := by
        rw [List.getElem_set]
        split
        · rw [List.length_dropLast]; omega
        · omega
      refine ⟨.bl false, rfl, false, rfl, ?_⟩
      refine e_popRow (Q := fun v H => _) (j := 3) (a := 7) (i := b) rfl rfl f8.lv bA2 lb2 fun q2 w2 hq2 hw2 L2 hx2 => ?_
      obtain ⟨x2, ww2, tw2⟩ := f8.wd _ (List.getElem_mem bA2) w2 hw2
      have pq2 : pd ≠ q2 := fun z => nq (z ▸ hq2)
      exact fin w2 x2 _ _ (b8.mut (f8.tq q2 hq2).1 (f8.tq q2 hq2).2 (.inr hx2)) (f8.pop bA2 L2) (by rw [List.length_set, List.length_set]; exact l4) (o8.other pq2) ww2 tw2
  · rintro m σ' H' hm ⟨B', A, y5, y6, y7, y8, y9, y10, rs, b4, f4, l4, o4, hl, hrs, rfl⟩
    obtain ⟨B2, b5, eB, t5⟩ := own_fzM o4 b4
    exact s_retM b5 (k := 0) (R := RdP n 40) (em_is (em_of (ed_var (i := 4) rfl t5)) fun d hd => ⟨rs, hd, hrs, by omega⟩) (by omega) fun v7 H7 d7 hd7 m7 j7 t7 => ret_M q ⟨n, rfl, hd7⟩ b5 m7 j7 (by show _ ≤ s0 + 140; omega) t7
end
end K50
set_option maxHeartbeats 1000000
namespace Dm
open PySem PySem.Spec PyProof.Rows L2 Evl RZ Dl
/-- x = [e, ..], the list one's own -/
theorem q_asgLstM {D : Md} {σ : L2.St} {H H1 B Hc : Hp} {ta : TA} {E : Ends} {tz : TS} {s i : Nat} {ds : List PyData} (bs : BsM D H H1 B Hc s) (h : EvDs ta σ B ds) (hl : ds.length ≤ 100000) (kk : ∀ p Hn Hn', ExM D Hc Hn → Own H1 (gr B Hc Hn) Hn' p ds → BsM D H H1 (gr B Hc Hn) Hn' s → tz E (σ.set i (some (.ref p))) Hn') : tSeq (tAsg (tLst ta) (gName i)) tz E σ Hc :=
  h Hc bs.c _ fun vs Hn e t => ⟨sz_of (by rw [dp_len t]; exact hl), fun p hp => by
    have b1 := bs.step (ExM.of e) (D.keep _ _ _ e bs.j)
    exact kk p Hn _ (ExM.of e) ⟨back_M b1.j b1.a hp, fresh_back b1.c hp, vs, upd_same, t⟩ (b1.new hp)⟩
end Dm
namespace K50
open PySem PySem.W PySem.Spec PyProof.Rows L2 LamX NdefX Evl RZ Dl Dn Dm Lz K0 Mx Ns ClX
theorem q_parM {M : Md} {H H1 B Hc : Hp} {s k1 k2 i j : Nat} {σ : L2.St} {E : Ends} {tz : TS} {ta tb : TE} {R1 R2 : PyData → Prop} (b : BsM M H H1 B Hc s) (ha : EvM M ta σ B R1 k1) (hb : EvM M tb σ B R2 k2) (l : s + (k1 + k2) ≤ 100000)
    (kk : ∀ v w Hn d1 d2, R1 d1 → R2 d2 → ExM M Hc Hn → M.J (s + (k1 + k2)) Hn → Tp (gr B Hc Hn) v d1 → Tp (gr B Hc Hn) w d2 → tz E ((σ.set i (some v)).set j (some w)) Hn) : tSeq (tPar i j (tCons ta (tCons tb tNil))) tz E σ Hc :=
  par_M (D := { E with nx := tz E }) b ha hb l kk
/-! ### _law_n_net -/
abbrev sNNet : Stmt := top 48
abbrev nNN : List Str := ["stream", "most", "many", "signs", "way", "roads"]
theorem scNN : FnScope nNN ["stream", "most"] (defScope sNNet) := ⟨rfl, rfl, rfl, by decide +kernel, rfl, by decide +kernel, by decide +kernel⟩
def netPost (d : PyData) : Prop := ∃ (n : Nat) (d1 d2 : PyData), d = .tuple [d1, d2] ∧ 0 < n ∧ n ≤ 7 ∧ SgP n d1 ∧ RdP n 40 d2
section
variable {p l : Addr} {T : List (Addr × Str)} {σ : L2.St} {B : Hp} {te : TE} {R : PyData → Prop} {i : Nat} {E : XK}
theorem em_sg {n : Nat} (c : Cl (mdS p l T) B) (hi : σ[i]? = some (some (.ref p))) (h : EvD te σ B (.int (n : Int))) (hn : n ≤ 7) : EvM (mdS p l T) (tCall (spS 1 sgPre sgPost 8) [] E (tCons (tVar i) (tCons te tNil))) σ B (SgP n) 8 :=
  em_up (em_is (em_callS c hi (esm_cons c (em_of h) esm_nil) fun ds hd => by
    obtain ⟨d, ds1, rfl, rfl, rfl⟩ := hd
    exact ⟨rfl, n, rfl, hn⟩) fun d hd => by
    obtain ⟨ds, ⟨d1, ds1, rfl, rfl, rfl⟩, m, hm, hp⟩ := hd
    injection hm with hm
    injection hm with hm
    obtain rfl : m = n := by omega
    exact hp) (by omega)
theorem em_rd {n m kk : Nat} (c : Cl (mdS p l T) B) (hi : σ[i]? = some (some (.ref p))) (h : EvD te σ B (.int (n : Int))) (h0 : 0 < n) (hn : n ≤ 7) : EvM (mdS p l T) (tCall (spS 1 nnPre (rdPost m) kk) [] E (tCons (tVar i) (tCons te tNil))) σ B (RdP n m) kk :=
  em_up (em_is (em_callS c hi (esm_cons c (em_of h) esm_nil) fun ds hd => by
    obtain ⟨d, ds1, rfl, rfl, rfl⟩ := hd
    exact ⟨rfl, n, rfl, h0, hn⟩) fun d hd => by
    obtain ⟨ds, ⟨d1, ds1, rfl, rfl, rfl⟩, k, hk, hp⟩ := hd
    injection hk with hk
    injection hk with hk
    obtain rfl : n = k := by omega
    exact hp) (by omega)
theorem em_do {tb : TE} {n k : Nat} (c : Cl (mdS p l T) B) (hi : σ[i]? = some (some (.ref p))) (h : EvD te σ B (.int (n : Int))) (hb : EvM (mdS p l T) tb σ B (fun d => ∃ b, d = .bool b) k) (h0 : 0 < n) (hn : n ≤ 7) : EvM (mdS p l T) (tCall (spS 2 doPre (rdPost 40) 140) [] E (tCons (tVar i) (tCons te (tCons tb tNil)))) σ B (RdP n 40) (k + 140) :=
  em_up (em_is (em_callS c hi (esm_cons c (em_of h) (esm_cons c hb esm_nil)) fun ds hd => by
    obtain ⟨d, ds1, rfl, rfl, d2, ds2, rfl, ⟨b, rfl⟩, rfl⟩ := hd
    exact ⟨rfl, n, b, rfl, h0, hn⟩) fun d hd => by
    obtain ⟨ds, ⟨d1, ds1, rfl, rfl, d2, ds2, rfl, _, rfl⟩, j, hj, hp⟩ := hd
    injection hj with hj
    injection hj with hj
    obtain rfl : n = j := by omega
    exact hp) (by omega)
end
theorem rdP_up {n a b : Nat} {d : PyData} (h : RdP n a d) (l : a ≤ b) : RdP n b d := by
  obtain ⟨rs, h1, h2, h3⟩ := h
  exact ⟨rs, h1, h2, Nat.le_trans h3 l⟩
section
variable {P : Program} {w : World} {K : PySem.W.Frag} {mg : Str → Option Value} {base : Heap} {C : Addr}
theorem ok_nnet {f : Addr} {fd : FuncData} (F : Fun K "_law_n_net" "_law_n_net" sNNet f fd) (T : CallF P w K mg base 1 "_law_draw" ["stream", "many"] spDraw) (M : CallF P w K mg base 2 "_law_mixed" ["stream", "some"] spMx) (S : CallF P w K mg base 3 "_law_n_signs" ["stream", "many"] (spS 1 sgPre sgPost 8))
    (O : CallF P w K mg base 3 "_law_n_crowd" ["stream", "many"] (spS 1 nnPre (rdPost 20) 80)) (D : CallF P w K mg base 3 "_law_n_doors" ["stream", "many", "halves"] (spS 2 doPre (rdPost 40) 140)) (R : CallF P w K mg base 3 "_law_n_row" ["stream", "many"] (spS 1 nnPre (rdPost 20) 8)) :
    FnOk P w K mg base CX0 4 f fd ["stream", "most"] (spS 1 (fun ds => ds = [.int 7]) (fun _ d => netPost d) 200) := by
  refine F.ok scNN (fun vs H Q E h => spS_len h) (fun cdv A outer s H vs Q E hr h => ?_)
  obtain ⟨fT, dT, oT, gT, kT, bT⟩ := T
  obtain ⟨fU, dU, oU, gU, kU, bU⟩ := M
  obtain ⟨fS, dS, oS, gS, kS, bS⟩ := S
  obtain ⟨fO, dO, oO, gO, kO, bO⟩ := O
  obtain ⟨fD, dD, oD, gD, kD, bD⟩ := D
  obtain ⟨fR, dR, oR, gR, kR, bR⟩ := R
  have r1 := hr.mono (show 1 ≤ 3 by decide)
  have r2 := hr.mono (show 2 ≤ 3 by decide)
  refine ⟨_, pss_cons (ps_set (i := 2) scNN.nd rfl (Or.inl rfl) (pe_op op_add pe_int (pe_call oT r1 (by rfl) gT kT bT .nil pass0 (pa_cons (pv 0) (pa_cons (pv 1) pa_nil)))))
    (pss_cons (ps_par (i := 3) (j := 4) rfl scNN.nd rfl rfl (by decide) rfl rfl (pa_cons (pe_call oS hr (by rfl) gS kS bS .nil pass0 (pa_cons (pv 0) (pa_cons (pv 2) pa_nil))) (pa_cons (pe_call oT r1 (by rfl) gT kT bT .nil pass0 (pa_cons (pv 0) (pa_cons pe_int pa_nil))) pa_nil)) rfl)
    (pss_cons (ps_if (pt_cmpR op_lt (pv 4) pe_int (nomark _)) (pss_one (ps_ret (pe_tup (pa_cons (pv 3) (pa_cons (pe_call oO hr (by rfl) gO kO bO .nil pass0 (pa_cons (pv 0) (pa_cons (pv 2) pa_nil))) pa_nil))))) pss_nil)
    (pss_cons (ps_set (i := 5) scNN.nd rfl (Or.inl rfl) (pe_ifExp (pt_cmpR op_eq (pv 4) pe_int (nomark _)) (pe_call oD hr (by rfl) gD kD bD .nil pass0 (pa_cons (pv 0) (pa_cons (pv 2) (pa_cons pe_bl pa_nil)))) (pe_call oR hr (by rfl) gR kR bR .nil pass0 (pa_cons (pv 0) (pa_cons (pv 2) pa_nil)))))
    (pss_one (ps_ret (pe_tup (pa_cons (pv 3) (pa_cons (pe_call oU r2 (by rfl) gU kU bU .nil pass0 (pa_cons (pv 0) (pa_cons (pv 5) pa_nil))) pa_nil)))))))), ?_⟩
  obtain ⟨p, l, T', vs', rfl, Bb, ds, s0, e, cl, j, hk, hv, hn, rfl, q⟩ := h
  obtain ⟨v, rfl, hx⟩ := tp1 hv
  cases hx
  have hk2 : s0 + 200 ≤ 100000 := hk
  have b0 := BsM.start e cl j
  refine q_asgM b0 (k := 0 + 1) (R := fun d => ∃ n : Nat, d = .int (n : Int) ∧ 0 < n ∧ n ≤ 7) (em_op cl (em_of ed_int) (em_drawN (m := 7) cl rfl (ed_var (i := 1) rfl (.int 7)) (by decide) (by decide)) fun x y hx hy => by
      obtain ⟨j, rfl, hj⟩ := hy
      subst hx
      exact ⟨_, rd_I0, j + 1, congrArg PyData.int (by omega), by omega, by omega⟩) (by omega) fun v2 H2 d2 hd2 m2 j2 t2 => ?_
  obtain ⟨n, rfl, hn0, hn7⟩ := hd2
  cases t2
  have b2 := b0.step m2 j2
  refine q_parM b2 (k1 := 8) (k2 := 1) (em_sg b2.cl rfl (ed_var (i := 2) rfl (.int (n : Int))) hn7) (em_drawN (m := 4) b2.cl rfl ed_int (by decide) (by decide)) (by omega) fun v3 v4 H3 d3 d4 hd3 hd4 m3 j3 t3 t4 => ?_
  obtain ⟨way, rfl, hw⟩ := hd4
  cases t4
  have b3 := b2.step m3 j3
  refine q_whenD b3.c (b := decide ((way : Int) < 2)) (et_D (ed_op (ed_var (i := 4) rfl (.int (way : Int))) ed_int rd_I0b)) (fun hb H4 e4 => ?_) (fun hb H4 e4 => ?_)
  · have b4 := b3.keepB (ExM.of e4) ((mdS p l T').keep _ _ _ e4 b3.j)
    refine s_retM b4 (k := 0 + (80 + 0)) (R := netPost) (em_is (em_tup (esm_cons b4.cl (em_of (ed_var (i := 3) rfl t3)) (esm_cons b4.cl (em_rd (m := 20) (kk := 80) b4.cl rfl (ed_var (i := 2) rfl (.int (n : Int))) hn0 hn7) esm_nil)) fun ds hds => by
        obtain ⟨d1, ds1, rfl, _, d2, ds2, rfl, _, rfl⟩ := hds
        show 2 ≤ 100000
        decide) fun d hd => by
      obtain ⟨ds, rfl, d1, ds1, rfl, rfl, d2, ds2, rfl, h2, rfl⟩ := hd
      exact ⟨n, _, d2, rfl, hn0, hn7, hd3, rdP_up h2 (by decide)⟩) (by omega) fun v7 H7 d7 hd7 m7 j7 t7 => ret_M q hd7 b4 m7 j7 (by show _ ≤ s0 + 200; omega) t7
  · have b4 := b3.keepB (ExM.of e4) ((mdS p l T').keep _ _ _ e4 b3.j)
    refine q_asgM b4 (k := 0 + 140) (R := RdP n 40) (em_ifP (k1 := 0) (k2 := 140) b4.cl (tp_of (et_D (ed_op (ed_var (i := 4) rfl (.int (way : Int))) ed_int rd_eqI))) (fun _ => em_up (em_do (k := 0) b4.cl rfl (ed_var (i := 2) rfl (.int (n : Int))) (em_is (em_of ed_bl) fun d hd => ⟨_, hd⟩) hn0 hn7) (by decide)) fun _ => em_up (em_is (em_rd (m := 20) (kk := 8) b4.cl rfl (ed_var (i := 2) rfl (.int (n : Int))) hn0 hn7) fun d hd => rdP_up hd (by decide)) (by decide)) (by omega) fun v5 H5 d5 hd5 m5 j5 t5 => ?_
    have b5 := b4.step m5 j5
    have t35 := Tp.ex (gr_ex (H2 := H5) b4.c) _ _ t3
    refine s_retM b5 (k := 0 + (0 + 40 + 0)) (R := netPost) (em_is (em_tup (esm_cons b5.cl (em_of (ed_var (i := 3) rfl t35)) (esm_cons b5.cl (em_mixed (m := 40) (R := RdP n 40) b5.cl rfl (em_is (em_of (ed_var (i := 5) rfl t5)) fun d hd => by rw [hd]; exact hd5) (fun d hd => by
          obtain ⟨rs, rfl, _, h⟩ := hd
          exact ⟨_, rfl, by rw [List.length_map]; exact h⟩) (by decide)) esm_nil)) fun ds hds => by
        obtain ⟨d1, ds1, rfl, _, d2, ds2, rfl, _, rfl⟩ := hds
        show 2 ≤ 100000
        decide) fun d hd => ?_) (by omega) fun v7 H7 d7 hd7 m7 j7 t7 => ret_M q hd7 b5 m7 j7 (by show _ ≤ s0 + 200; omega) t7
    obtain ⟨ds, rfl, d1, ds1, rfl, rfl, d2, ds2, rfl, ⟨xs, zs, ⟨rs, hrs, h1, h2⟩, rfl, h3, h4⟩, rfl⟩ := hd
    injection hrs with hrs
    subst hrs
    have : ∃ ts : List Rd, zs = ts.map rdD ∧ ∀ r ∈ ts, okT n r := by
      clear h3
      induction zs with
      | nil => exact ⟨[], rfl, fun r hr => nomatch hr⟩
      | cons z zs ih =>
        obtain ⟨ts, rfl, g⟩ := ih fun z hz => h4 z (List.mem_cons_of_mem _ hz)
        obtain ⟨r, hr, rfl⟩ := List.mem_map.mp (h4 z List.mem_cons_self)
        exact ⟨r :: ts, rfl, fun x hx => by
          rcases List.mem_cons.mp hx with e | hx
          · rw [e]; exact h1 r hr
          · exact g x hx⟩
    obtain ⟨ts, rfl, g⟩ := this
    rw [List.length_map, List.length_map] at h3
    exact ⟨n, _, _, rfl, hn0, hn7, hd3, ts, rfl, g, by omega⟩
end
end K50
set_option maxHeartbeats 1000000
namespace K50
open PySem PySem.W PySem.Spec PyProof.Rows L2 LamX NdefX Evl RZ Dl Dn Dm Lz K0 Mx Ns ClX
/-! ### _law_near -/
abbrev sNear : Stmt := top 52
abbrev nNe : List Str := ["stream", "signs", "roads", "at", "way", "one", "other", "out", "into", "rest", "some"]
theorem scNe : FnScope nNe ["stream", "signs", "roads"] (defScope sNear) := ⟨rfl, rfl, rfl, by decide +kernel, rfl, by decide +kernel, by decide +kernel⟩
def nePre : List PyData → Prop := fun ds => ∃ n d1 d2, ds = [d1, d2] ∧ 0 < n ∧ n ≤ 7 ∧ SgP n d1 ∧ RdP n 40 d2
def nePost : List PyData → PyData → Prop := fun ds d => ∀ n d1 d2, ds = [d1, d2] → SgP n d1 → RdP n 41 d
theorem q_wd : Ww (.tuple [.str "q"]) := ⟨rfl, by decide +kernel⟩
theorem x_wd : Ww (.str "x") := ⟨rfl, by decide +kernel⟩
def rq1 (r : Rd) : Rd := (r.1, r.2.1, .tuple [.str "q"], r.2.2.2)
def rq2 (r : Rd) : Rd := (r.1, r.2.1, r.2.2.1, .tuple [.str "q"])
theorem ap1 (rs : List Rd) (r : Rd) : rs.map rdD ++ [rdD r] = (rs ++ [r]).map rdD := by rw [List.map_append]; rfl
theorem rdP_ap {n m : Nat} {rs : List Rd} {r : Rd} (h : ∀ r ∈ rs, okT n r) (hr : okT n r) (hl : rs.length + 1 ≤ m) : RdP n m (.list ((rs ++ [r]).map rdD)) := ⟨_, rfl, fun x hx => by
  rcases List.mem_append.mp hx with hx | hx
  · exact h x hx
  · rw [List.mem_singleton.mp hx]; exact hr, by rw [List.length_append]; exact hl⟩
section
variable {P : Program} {w : World} {K : PySem.W.Frag} {mg : Str → Option Value} {base : Heap} {C : Addr}
theorem ok_near {f : Addr} {fd : FuncData} (F : Fun K "_law_near" "_law_near" sNear f fd) (B : Bl mg) (T : CallF P w K mg base 1 "_law_draw" ["stream", "many"] spDraw) : FnOk P w K mg base CX0 2 f fd ["stream", "signs", "roads"] (spS 2 nePre nePost 3) := by
  refine F.ok scNe (fun vs H Q E h => spS_len h) (fun cdv A outer s H vs Q E hr h => ?_)
  obtain ⟨fT, dT, oT, gT, kT, bT⟩ := T
  refine ⟨_, pss_cons (ps_if (pt_cmpR (op_eqD hr.units) (pv 2) (pe_lst pa_nil) (nomark _)) (pss_one (ps_ret (pe_lst (pa_cons (pe_tup (pa_cons pe_int (pa_cons pe_int (pa_cons pe_str (pa_cons pe_str pa_nil))))) pa_nil)))) pss_nil)
    (pss_cons (ps_par (i := 3) (j := 4) rfl scNe.nd rfl rfl (by decide) rfl rfl (pa_cons (pe_call oT hr (by rfl) gT kT bT .nil pass0 (pa_cons (pv 0) (pa_cons (pe_callB call_len_seq (by rfl) B.len PySem.boot_len (pa_cons (pv 2) pa_nil)) pa_nil))) (pa_cons (pe_call oT hr (by rfl) gT kT bT .nil pass0 (pa_cons (pv 0) (pa_cons pe_int pa_nil))) pa_nil)) rfl)
    (pss_cons (ps_asg (pe_ix ix_list (pv 2) (pv 3) (fun _ _ => rfl)) (pg_tup rfl (pgs_cons (pg_name (i := 5) scNe.nd rfl (.inl rfl)) (pgs_cons (pg_name (i := 6) scNe.nd rfl (.inl rfl)) (pgs_cons (pg_name (i := 7) scNe.nd rfl (.inl rfl)) (pgs_cons (pg_name (i := 8) scNe.nd rfl (.inl rfl)) pgs_nil))))))
    (pss_cons (ps_set (i := 9) scNe.nd rfl (Or.inl rfl) (pe_op op_cat (pe_slice sl_list (pv 2) po_none (po_some (pv 3))) (pe_slice sl_list (pv 2) (po_some (pe_op op_add (pv 3) pe_int)) po_none)))
    (pss_cons (ps_set (i := 10) scNe.nd rfl (Or.inl rfl) (pe_lst (pa_cons (pv 9) (pa_cons (pe_op op_cat (pv 2) (pe_lst (pa_cons (pe_ix ix_list (pv 2) (pv 3) (fun _ _ => rfl)) pa_nil))) (pa_cons (pe_op op_cat (pv 9) (pe_lst (pa_cons (pe_tup (pa_cons (pv 5) (pa_cons (pv 6) (pa_cons (pe_tup (pa_cons pe_str pa_nil)) (pa_cons (pv 8) pa_nil))))) pa_nil)))
        (pa_cons (pe_op op_cat (pv 9) (pe_lst (pa_cons (pe_tup (pa_cons (pv 5) (pa_cons (pv 6) (pa_cons (pv 7) (pa_cons (pe_tup (pa_cons pe_str pa_nil)) pa_nil))))) pa_nil))) pa_nil))))))
    (pss_cons (ps_expr (pe_bm PySem.F.plainAttrs_list PySem.F.slot_list_extend PySem.F.type_list_extend mt_extend (pv 10) (pa_cons (pe_lst (pa_cons (pe_op op_cat (pv 9) (pe_lst (pa_cons (pe_tup (pa_cons (pv 6) (pa_cons (pv 5) (pa_cons (pv 8) (pa_cons (pv 7) pa_nil))))) pa_nil)))
        (pa_cons (pe_op op_cat (pv 2) (pe_lst (pa_cons (pe_tup (pa_cons (pe_call oT hr (by rfl) gT kT bT .nil pass0 (pa_cons (pv 0) (pa_cons (pe_callB call_len_seq (by rfl) B.len PySem.boot_len (pa_cons (pv 1) pa_nil)) pa_nil))) (pa_cons (pv 5) (pa_cons (pe_tup (pa_cons pe_str pa_nil)) (pa_cons (pe_tup (pa_cons pe_str pa_nil)) pa_nil))))) pa_nil))) pa_nil))) pa_nil)))
    (pss_one (ps_ret (pe_ix ix_list (pv 10) (pv 4) (fun _ _ => rfl))))))))), ?_⟩
  obtain ⟨p, l, T', vs', rfl, Bb, ds, s0, e, cl, j, hk, hv, hn, ⟨n, dd1, dd2, rfl, hn0, hn7, ⟨ss, rfl, hss, hsw⟩, ⟨rs, rfl, hrs, hrl⟩⟩, q⟩ := h
  obtain ⟨v, u, rfl, hx, hy⟩ := tp2 hv
  have hk2 : s0 + 3 ≤ 100000 := hk
  have post : ∀ d, RdP n 41 d → nePost [.list ss, .list (rs.map rdD)] d := fun d hd m d1 d2 e1 h1 => by
    obtain ⟨ts, g1, g2, g3⟩ := h1
    injection e1 with e1 e2
    rw [← e1] at g1
    injection g1 with g1
    have : m = n := by rw [← hss, ← g2, g1]
    subst this
    exact hd
  have b0 := BsM.start e cl j
  refine q_whenD b0.c (b := PyData.eqv (.list (rs.map rdD)) (.list [])) (et_D (ed_op (ed_var (i := 2) rfl hy) (ed_lst es_nil (show 0 ≤ 100000 by decide)) (rd_eqD (rds_sh hrs) rfl))) (fun hb H1 e1 => ?_) (fun hb H1 e1 => ?_)
  · have b1 := b0.keepB (ExM.of e1) ((mdS p l T').keep _ _ _ e1 j)
    exact s_retM b1 (k := 0) (R := RdP n 41) (em_is (em_of (ed_lst (es_cons (ed_tup (es_cons ed_int (es_cons ed_int (es_cons ed_str (es_cons ed_str es_nil)))) (show 4 ≤ 100000 by decide)) es_nil) (show 1 ≤ 100000 by decide))) fun d hd => ⟨[(0, 0, .str "x", .str "x")], hd, fun r hr => by
        rw [List.mem_singleton.mp hr]
        exact ⟨⟨Int.le_refl 0, by show (0 : Int) < n; omega, Int.le_refl 0, by show (0 : Int) < n; omega, x_wd.1, x_wd.1⟩, x_wd.2, x_wd.2⟩, show 1 ≤ 41 by decide⟩) (by omega) fun v7 H7 d7 hd7 m7 j7 t7 => ret_M q (post _ hd7) b1 m7 j7 (by show _ ≤ s0 + 3; omega) t7
  · have b1 := b0.keepB (ExM.of e1) ((mdS p l T').keep _ _ _ e1 j)
    have rp : 0 < rs.length := by
      cases rs with
      | nil => cases hb
      | cons r rs => exact Nat.succ_pos _
    refine q_parM b1 (k1 := 1) (k2 := 1) (em_drawN (m := rs.length) b1.cl rfl (ed_is (ed_cb (es_cons (ed_var (i := 2) rfl hy) es_nil) (rc_lenL (K := K))) (by rw [List.length_map])) rp (by omega)) (em_drawN (m := 6) b1.cl rfl ed_int (by decide) (by decide)) (by omega) fun v3 v4 H3 d3 d4 hd3 hd4 m3 j3 t3 t4 => ?_
    obtain ⟨a, rfl, ha⟩ := hd3
    obtain ⟨way, rfl, hw⟩ := hd4
    cases t3
    cases t4
    have b3 := b1.step m3 j3
    have hy3 := Tp.ex (gr_ex (H2 := H3) b1.c) _ _ hy
    have hx3 := Tp.ex (gr_ex (H2 := H3) b1.c) _ _ hx
    have hat : (rs.map rdD)[a]? = some (rdD rs[a]) := by rw [List.getElem?_map, List.getElem?_eq_getElem ha]; rfl
    have okr := hrs rs[a] (List.getElem_mem ha)
    refine (ed_op (ed_var (i := 2) rfl hy3) (ed_var (i := 3) rfl (.int (a : Int))) (rd_ixL (K := K) (L2.atI_nat hat))) H3 b3.c _ fun vr H4 e4 tr => ?_
    obtain ⟨w1, w2, w3, w4, g1, g2, g3, g4, gg⟩ := open4 (K := K) tr
    have b4 := b3.step (ExM.of e4) ((mdS p l T').keep _ _ _ e4 b3.j)
    refine gg b4.c ?_
    cases g1
    cases g2
    have hy4 := Tp.ex (gr_ex (H2 := H4) b3.c) _ _ hy3
    have hx4 := Tp.ex (gr_ex (H2 := H4) b3.c) _ _ hx3
    have h0 : ∀ r ∈ rs.take a ++ rs.drop (a + 1), okT n r := fun r hr => by
      rcases List.mem_append.mp hr with hr | hr
      · exact hrs r (List.mem_of_mem_take hr)
      · exact hrs r (List.mem_of_mem_drop hr)
    have l0 : (rs.take a ++ rs.drop (a + 1)).length ≤ 40 := by rw [List.length_append, List.length_take, List.length_drop]; omega
    have lm : (rs.map rdD).length = rs.length := List.length_map _
    refine q_asgM b4 (k := 0) (R := fun d => d = .list ((rs.take a ++ rs.drop (a + 1)).map rdD)) (em_of (ed_is (ed_op (ed_slL (lo := none) (hi := some (a : Int)) (ed_var (i := 2) rfl hy4) eo_none (eo_someD (ed_var (i := 3) rfl (.int (a : Int))))) (ed_slL (lo := some ((a + 1 : Nat) : Int)) (hi := none) (ed_var (i := 2) rfl hy4) (eo_someD (ed_is (ed_op (ed_var (i := 3) rfl (.int (a : Int))) ed_int rd_I0) (show PyData.int ((a : Int) + 1) = .int ((a + 1 : Nat) : Int) from congrArg PyData.int (by omega)))) eo_none) (rd_cat (by rw [cut_to (by omega), cut_from (by omega), List.length_take, List.length_drop]; omega))) (by rw [cut_to (by omega), cut_from (by omega), List.map_append, List.map_take, List.map_drop]))) (by omega) fun v9 H5 d5 hd5 m5 j5 t5 => ?_
    subst hd5
    generalize rs.take a ++ rs.drop (a + 1) = rest at h0 l0 t5 ⊢
    have b5 := b4.step m5 j5
    have hy5 := Tp.ex (gr_ex (H2 := H5) b4.c) _ _ hy4
    have hx5 := Tp.ex (gr_ex (H2 := H5) b4.c) _ _ hx4
    have g35 := Tp.ex (gr_ex (H2 := H5) b4.c) _ _ g3
    have g45 := Tp.ex (gr_ex (H2 := H5) b4.c) _ _ g4
    have wo : Ww rs[a].2.2.1 := ⟨okr.1.o, okr.2.1⟩
    have wi : Ww rs[a].2.2.2 := ⟨okr.1.i, okr.2.2⟩
    have mk : ∀ (x y : Int) (d f : PyData), 0 ≤ x → x < (n : Int) → 0 ≤ y → y < (n : Int) → Ww d → Ww f → okT n (x, y, d, f) := fun x y d f x0 x1 y0 y1 hd hf => ⟨⟨x0, x1, y0, y1, hd.1, hf.1⟩, hd.2, hf.2⟩
    have eq : ∀ (σ : L2.St) (B : Hp), EvD (tTup (tCons (tC (.str "q")) tNil)) σ B (.tuple [.str "q"]) := fun σ B => ed_tup (es_cons ed_str es_nil) (show 1 ≤ 100000 by decide)
    have c40 : ∀ (xs : List Rd) (d : PyData), xs.length ≤ 40 → (xs.map rdD).length + [d].length ≤ 100000 := fun xs d h => by rw [List.length_map, List.length_singleton]; omega
    refine q_asgLstM (ds := [.list (rest.map rdD), .list ((rs ++ [rs[a]]).map rdD), .list ((rest ++ [rq1 rs[a]]).map rdD), .list ((rest ++ [rq2 rs[a]]).map rdD)]) b5
      (es_cons (ed_var (i := 9) rfl t5) (es_cons (ed_is (ed_op (ed_var (i := 2) rfl hy5) (ed_lst (es_cons (ed_op (ed_var (i := 2) rfl hy5) (ed_var (i := 3) rfl (.int (a : Int))) (rd_ixL (L2.atI_nat hat))) es_nil) (show 1 ≤ 100000 by decide)) (rd_cat (c40 _ _ hrl))) (congrArg PyData.list (ap1 rs rs[a])))
      (es_cons (ed_is (ed_op (ed_var (i := 9) rfl t5) (ed_lst (es_cons (ed_tup (es_cons (ed_var (i := 5) rfl (.int rs[a].1)) (es_cons (ed_var (i := 6) rfl (.int rs[a].2.1)) (es_cons (eq _ _) (es_cons (ed_var (i := 8) rfl g45) es_nil)))) (show 4 ≤ 100000 by decide)) es_nil) (show 1 ≤ 100000 by decide)) (rd_cat (c40 _ _ l0))) (congrArg PyData.list (ap1 rest (rq1 rs[a]))))
      (es_cons (ed_is (ed_op (ed_var (i := 9) rfl t5) (ed_lst (es_cons (ed_tup (es_cons (ed_var (i := 5) rfl (.int rs[a].1)) (es_cons (ed_var (i := 6) rfl (.int rs[a].2.1)) (es_cons (ed_var (i := 7) rfl g35) (es_cons (eq _ _) es_nil)))) (show 4 ≤ 100000 by decide)) es_nil) (show 1 ≤ 100000 by decide)) (rd_cat (c40 _ _ l0))) (congrArg PyData.list (ap1 rest (rq2 rs[a])))) es_nil)))) (show 4 ≤ 100000 by decide) fun ps Hn H6 m6 o6 b6 => ?_
    have p1 : ∀ x ∈ [PyData.list (rest.map rdD), .list ((rs ++ [rs[a]]).map rdD), .list ((rest ++ [rq1 rs[a]]).map rdD), .list ((rest ++ [rq2 rs[a]]).map rdD)], RdP n 41 x := fun x hx => by
      simp only [List.mem_cons, List.not_mem_nil, or_false] at hx
      rcases hx with rfl | rfl | rfl | rfl
      · exact ⟨rest, rfl, h0, by omega⟩
      · exact rdP_ap hrs okr (by omega)
      · exact rdP_ap h0 (mk _ _ _ _ okr.1.a0 okr.1.a1 okr.1.b0 okr.1.b1 q_wd wi) (by omega)
      · exact rdP_ap h0 (mk _ _ _ _ okr.1.a0 okr.1.a1 okr.1.b0 okr.1.b1 wo q_wd) (by omega)
    have l1 : [PyData.list (rest.map rdD), .list ((rs ++ [rs[a]]).map rdD), .list ((rest ++ [rq1 rs[a]]).map rdD), .list ((rest ++ [rq2 rs[a]]).map rdD)].length = 4 := rfl
    generalize [PyData.list (rest.map rdD), .list ((rs ++ [rs[a]]).map rdD), .list ((rest ++ [rq1 rs[a]]).map rdD), .list ((rest ++ [rq2 rs[a]]).map rdD)] = ds4 at o6 p1 l1 ⊢
    have u5 := gr_ex (H2 := Hn) b5.c
    have t6 := Tp.ex u5 _ _ t5
    have hy6 := Tp.ex u5 _ _ hy5
    have hx6 := Tp.ex u5 _ _ hx5
    have g36 := Tp.ex u5 _ _ g35
    have g46 := Tp.ex u5 _ _ g45
    have e5 : EvM (mdS p l T') (tOp rCat (tVar 9) (tLst (tCons (tTup (tCons (tVar 6) (tCons (tVar 5) (tCons (tVar 8) (tCons (tVar 7) tNil))))) tNil))) [some (.ref p), some v, some u, some (.int (a : Int)), some (.int (way : Int)), some (.int rs[a].1), some (.int rs[a].2.1), some w3, some w4, some v9, some (.ref ps)] (gr (gr (gr (gr Bb H1 H3) H3 H4) H4 H5) H5 Hn) (RdP n 41) 0 := em_is (em_of (ed_is (ed_op (ed_var (i := 9) rfl t6) (ed_lst (es_cons (ed_tup (es_cons (ed_var (i := 6) rfl (.int rs[a].2.1)) (es_cons (ed_var (i := 5) rfl (.int rs[a].1)) (es_cons (ed_var (i := 8) rfl g46) (es_cons (ed_var (i := 7) rfl g36) es_nil)))) (show 4 ≤ 100000 by decide)) es_nil) (show 1 ≤ 100000 by decide)) (rd_cat (c40 _ _ l0))) (congrArg PyData.list (ap1 rest (rs[a].2.1, rs[a].1, rs[a].2.2.2, rs[a].2.2.1))))) fun d hd => by
      rw [hd]
      exact rdP_ap h0 (mk _ _ _ _ okr.1.b0 okr.1.b1 okr.1.a0 okr.1.a1 wi wo) (by omega)
    have e6a : EvM (mdS p l T') (tTup (tCons (tCall spDraw [] E0 (tCons (tVar 0) (tCons (tCB (Dl.rLen K) (tCons (tVar 1) tNil)) tNil))) (tCons (tVar 5) (tCons (tTup (tCons (tC (.str "q")) tNil)) (tCons (tTup (tCons (tC (.str "q")) tNil)) tNil))))) [some (.ref p), some v, some u, some (.int (a : Int)), some (.int (way : Int)), some (.int rs[a].1), some (.int rs[a].2.1), some w3, some w4, some v9, some (.ref ps)] (gr (gr (gr (gr Bb H1 H3) H3 H4) H4 H5) H5 Hn) (fun d => ∃ r, d = rdD r ∧ okT n r) (1 + (0 + (0 + (0 + 0)))) :=
      em_is (em_tup (esm_cons b6.cl (em_drawN (m := n) b6.cl rfl (ed_is (ed_cb (es_cons (ed_var (i := 1) rfl hx6) es_nil) (rc_lenL (K := K))) (by rw [hss])) hn0 (by omega)) (esm_cons b6.cl (em_of (ed_var (i := 5) rfl (.int rs[a].1))) (esm_cons b6.cl (em_of (eq _ _)) (esm_cons b6.cl (em_of (eq _ _)) esm_nil)))) fun ds hds => by
        obtain ⟨d1, ds1, rfl, _, d2, ds2, rfl, _, d3, ds3, rfl, _, d4, ds4, rfl, _, rfl⟩ := hds
        show 4 ≤ 100000
        decide) fun d hd => by
      obtain ⟨ds, rfl, d1, ds1, rfl, ⟨j, rfl, hj⟩, d2, ds2, rfl, rfl, d3, ds3, rfl, rfl, d4, ds4, rfl, rfl, rfl⟩ := hd
      exact ⟨((j : Int), rs[a].1, .tuple [.str "q"], .tuple [.str "q"]), rfl, mk _ _ _ _ (by omega) (by omega) okr.1.a0 okr.1.a1 q_wd q_wd⟩
    have e6b : EvM (mdS p l T') (tLst (tCons (tTup (tCons (tCall spDraw [] E0 (tCons (tVar 0) (tCons (tCB (Dl.rLen K) (tCons (tVar 1) tNil)) tNil))) (tCons (tVar 5) (tCons (tTup (tCons (tC (.str "q")) tNil)) (tCons (tTup (tCons (tC (.str "q")) tNil)) tNil))))) tNil)) [some (.ref p), some v, some u, some (.int (a : Int)), some (.int (way : Int)), some (.int rs[a].1), some (.int rs[a].2.1), some w3, some w4, some v9, some (.ref ps)] (gr (gr (gr (gr Bb H1 H3) H3 H4) H4 H5) H5 Hn) (fun d => ∃ r, d = .list [rdD r] ∧ okT n r) 1 :=
      em_up (em_is (em_lst (esm_cons b6.cl e6a esm_nil) fun ds hds => by
        obtain ⟨d1, ds1, rfl, _, rfl⟩ := hds
        show 1 ≤ 100000
        decide) fun d hd => by
      obtain ⟨ds, rfl, d1, ds1, rfl, ⟨r, rfl, hr⟩, rfl⟩ := hd
      exact ⟨r, rfl, hr⟩) (by decide)
    have e6 : EvM (mdS p l T') (tOp rCat (tVar 2) (tLst (tCons (tTup (tCons (tCall spDraw [] E0 (tCons (tVar 0) (tCons (tCB (Dl.rLen K) (tCons (tVar 1) tNil)) tNil))) (tCons (tVar 5) (tCons (tTup (tCons (tC (.str "q")) tNil)) (tCons (tTup (tCons (tC (.str "q")) tNil)) tNil))))) tNil))) [some (.ref p), some v, some u, some (.int (a : Int)), some (.int (way : Int)), some (.int rs[a].1), some (.int rs[a].2.1), some w3, some w4, some v9, some (.ref ps)] (gr (gr (gr (gr Bb H1 H3) H3 H4) H4 H5) H5 Hn) (RdP n 41) (0 + 1) := em_op b6.cl (em_of (ed_var (i := 2) rfl hy6)) e6b fun x y hx hy => by
      obtain ⟨r, rfl, hr⟩ := hy
      subst hx
      exact ⟨_, rd_cat (c40 _ _ hrl), by rw [ap1]; exact rdP_ap hrs hr (by omega)⟩
    have e56 := em_lst (esm_cons b6.cl e5 (esm_cons b6.cl e6 esm_nil)) fun ds hds => by
      obtain ⟨d1, ds1, rfl, _, d2, ds2, rfl, _, rfl⟩ := hds
      show 2 ≤ 100000
      decide
    refine s_extM (E := { nx := _, rt := Q }) (k := 0 + (0 + 1 + 0)) (N := 2) (R := fun d => ∀ es, d = .list es → es.length = 2 ∧ ∀ x ∈ es, RdP n 41 x) b6 rfl o6 (em_is e56 fun d hd => ?_) (by omega) (by omega) fun Hp Hp' es hR mn kn on bn => ?_
    · obtain ⟨ds, rfl, d1, ds1, rfl, h1, d2, ds2, rfl, h2, rfl⟩ := hd
      refine ⟨_, rfl, fun es he => ?_, Nat.le_refl _⟩
      injection he with he
      subst he
      refine ⟨rfl, fun x hx => ?_⟩
      simp only [List.mem_cons, List.not_mem_nil, or_false] at hx
      rcases hx with rfl | rfl
      · exact h1
      · exact h2
    · obtain ⟨l2, p2⟩ := hR es rfl
      obtain ⟨B7, b7, eB, t7⟩ := own_fzM on bn
      have hw2 : way < (ds4 ++ es).length := by rw [List.length_append]; omega
      exact s_retM b7 (k := 0) (R := RdP n 41) (em_is (em_of (ed_op (ed_var (i := 10) rfl t7) (ed_var (i := 4) rfl (.int (way : Int))) (rd_ixL (K := K) (L2.atI_nat (List.getElem?_eq_getElem hw2))))) fun d hd => by
        rw [hd]
        rcases List.mem_append.mp (List.getElem_mem hw2) with h | h
        · exact p1 _ h
        · exact p2 _ h) (by omega) fun v7 H7 d7 hd7 m7 j7 t7 => ret_M q (post _ hd7) b7 m7 j7 (by show _ ≤ s0 + 3; omega) t7
end
end K50
set_option maxHeartbeats 1000000
namespace Dl
open PySem PySem.Spec PyProof.Rows L2 Evl RZ
theorem et_and {σ : L2.St} {B : Hp} {t u : TT} {a b : Bool} (h1 : EvT t σ B a) (h2 : EvT u σ B b) : EvT (tAnd t u) σ B (a && b) := fun H1 e Q q => h1 H1 e _ fun H2 e2 => by
  cases a with
  | false => exact q H2 e2
  | true => exact h2 H2 (e.trans e2) Q fun H3 e3 => q H3 (e2.trans e3)
end Dl
namespace K50
open PySem PySem.W PySem.Spec PyProof.Rows L2 LamX NdefX Evl RZ Dl Dn Dm Lz K0 Mx Ns ClX
open scoped Classical
/-! ### each once -/
theorem once_pln : ∀ (xs acc : List PyData), (∀ x ∈ acc, pln x = true) → (∀ x ∈ xs, pln x = true) → acc.Nodup → (xs.foldl (fun acc x => if acc.any (fun z => PyData.eqv z x) then acc else acc ++ [x]) acc).length ≤ acc.length + xs.length ∧ ((xs.foldl (fun acc x => if acc.any (fun z => PyData.eqv z x) then acc else acc ++ [x]) acc).length = acc.length + xs.length ↔ (acc ++ xs).Nodup)
  | [], acc, _, _, nd => ⟨Nat.le_refl _, by simpa using nd⟩
  | x :: xs, acc, ha, hx, nd => by
    have px := hx x List.mem_cons_self
    have key : acc.any (fun z => PyData.eqv z x) = true ↔ x ∈ acc := by
      rw [List.any_eq_true]
      constructor
      · rintro ⟨z, hz, e⟩
        rw [← (pln_eqv z x (ha z hz) px).mp e]
        exact hz
      · exact fun h => ⟨x, h, (pln_eqv x x px px).mpr rfl⟩
    rw [List.foldl_cons]
    by_cases c : x ∈ acc
    · rw [if_pos (key.mpr c)]
      have ih := once_pln xs acc ha (fun y hy => hx y (List.mem_cons_of_mem _ hy)) nd
      rw [List.length_cons]
      refine ⟨by have := ih.1; omega, fun h => ?_, fun h => ?_⟩
      · have := ih.1
        omega
      · have := (List.nodup_append.mp h).2.2 x c x List.mem_cons_self
        exact absurd rfl this
    · rw [if_neg fun h => c (key.mp h)]
      have nd2 : (acc ++ [x]).Nodup := List.nodup_append.mpr ⟨nd, by simp, fun a ha b hb => by
        rw [List.mem_singleton.mp hb]
        intro e
        exact c (e ▸ ha)⟩
      have ih := once_pln xs (acc ++ [x]) (fun y hy => by
        rcases List.mem_append.mp hy with h | h
        · exact ha y h
        · rw [List.mem_singleton.mp h]; exact px) (fun y hy => hx y (List.mem_cons_of_mem _ hy)) nd2
      have e : (acc ++ [x]).length + xs.length = acc.length + (x :: xs).length := by rw [List.length_append, List.length_singleton, List.length_cons]; omega
      rw [e, List.append_assoc] at ih
      exact ih
theorem once_lt {xs : List PyData} (h : ∀ x ∈ xs, pln x = true) : decide (((onceD xs).length : Int) < (xs.length : Int)) = !decide xs.Nodup := by
  have z := once_pln xs [] (fun x hx => nomatch hx) h List.nodup_nil
  rw [List.length_nil, Nat.zero_add, List.nil_append] at z
  have e : onceD xs = xs.foldl (fun acc x => if acc.any (fun z => PyData.eqv z x) then acc else acc ++ [x]) [] := rfl
  rw [← e] at z
  by_cases c : xs.Nodup
  · rw [decide_eq_true c]
    exact decide_eq_false (by have := z.2.mpr c; omega)
  · rw [decide_eq_false c]
    have : (onceD xs).length ≠ xs.length := fun q => c (z.2.mp q)
    exact decide_eq_true (by have := z.1; omega)
def endD (r : Rd) : PyData := .tuple [.int r.1, r.2.2.1]
theorem endD_inj {r t : Rd} : endD r = endD t ↔ endR r = endR t := by
  constructor
  · intro e
    simp [endD] at e
    unfold endR
    rw [e.1, e.2]
  · intro e
    unfold endR at e
    injection e with e1 e2
    unfold endD
    rw [e1, e2]
theorem rds_any {n : Nat} {rs : List Rd} {r : Rd} (h : ∀ r ∈ rs, okR n r) (hr : okR n r) : ((rs.map rdD).any fun z => PyData.eqv z (rdD r)) = decide (r ∈ rs) := by
  refine Bool.eq_iff_iff.mpr ?_
  rw [List.any_eq_true, decide_eq_true_iff]
  constructor
  · rintro ⟨z, hz, e⟩
    obtain ⟨t, ht, rfl⟩ := List.mem_map.mp hz
    rw [← rdD_inj ((pln_eqv _ _ (rd_pln (h t ht)) (rd_pln hr)).mp e)]
    exact ht
  · exact fun g => ⟨_, List.mem_map.mpr ⟨r, g, rfl⟩, (pln_eqv _ _ (rd_pln hr) (rd_pln hr)).mpr rfl⟩
/-! ### _law_is_two_way -/
abbrev sLTW : Stmt := top 49
abbrev nLT : List Str := ["roads", "ends", "one", "other", "out", "into"]
theorem scLT : FnScope nLT ["roads"] (defScope sLTW) := ⟨rfl, rfl, rfl, by decide +kernel, rfl, by decide +kernel, by decide +kernel⟩
def rLTW : List PyData → PyData → Prop := fun ds d => ∃ (n : Nat) (rs : List Rd), ds = [.list (rs.map rdD)] ∧ (∀ r ∈ rs, okT n r) ∧ rs.length ≤ 50 ∧ d = .bool (twoB rs)
section
variable {P : Program} {w : World} {K : PySem.W.Frag} {mg : Str → Option Value} {base : Heap} {C : Addr}
theorem ok_lawTW {f : Addr} {fd : FuncData} (F : Fun K "_law_is_two_way" "_law_is_two_way" sLTW f fd) (B : Bl mg) (O : CallF P w K mg base 1 "_law_each_once" ["things"] (spP 1 rOnce)) : FnOk P w K mg base CX0 2 f fd ["roads"] (spP 1 rLTW) := by
  refine F.ok scLT (fun vs H Q E h => spP_len h) (fun cdv A outer s H vs Q E hr h => ?_)
  obtain ⟨fO, dO, oO, gO, kO, bO⟩ := O
  refine ⟨_, pss_cons (ps_setLc (i := 1) (own := [("one", 2), ("other", 3), ("out", 4), ("into", 5)]) (g := gTup K 4 (gCons (gName 2) (gCons (gName 3) (gCons (gName 4) (gCons (gName 5) gNil))))) (tt := tYes) (te := tTup (tCons (tVar 2) (tCons (tVar 4) tNil))) rfl scLT.nd rfl rfl rfl (pi_list (pv 0))
        (blkOk_by (own := [("one", 2), ("other", 3), ("out", 4), ("into", 5)]) (N := nLT) (sc := defScope sLTW) (by decide +kernel))
        (fun _ _ _ _ _ => pg_tup rfl (pgs_cons (pg_name (i := 2) scLT.nd rfl (Or.inl rfl)) (pgs_cons (pg_name (i := 3) scLT.nd rfl (Or.inl rfl)) (pgs_cons (pg_name (i := 4) scLT.nd rfl (Or.inl rfl)) (pgs_cons (pg_name (i := 5) scLT.nd rfl (Or.inl rfl)) pgs_nil)))))
        (fun _ _ _ _ _ => pts_nil) (fun _ _ _ _ _ => pe_tup (pa_cons (pv 2) (pa_cons (pv 4) pa_nil))))
    (pss_cons (ps_if (pt_cmpR op_lt (pe_callB call_len_seq (by rfl) B.len PySem.boot_len (pa_cons (pe_call oO hr (by rfl) gO kO bO .nil pass0 (pa_cons (pv 1) pa_nil)) pa_nil)) (pe_callB call_len_seq (by rfl) B.len PySem.boot_len (pa_cons (pv 1) pa_nil)) (nomark _)) (pss_one (ps_ret pe_bl)) pss_nil)
    (pss_one (ps_ret (pe_callB (cr_all rfl) (by rfl) B.all PyProof.Rows.boot_all (pa_cons
      (pe_lc (own := [("one", 2), ("other", 3), ("out", 4), ("into", 5)]) (g := gTup K 4 (gCons (gName 2) (gCons (gName 3) (gCons (gName 4) (gCons (gName 5) gNil))))) (tt := tYes) (te := tOp (rInD K) (tTup (tCons (tVar 3) (tCons (tVar 2) (tCons (tVar 5) (tCons (tVar 4) tNil))))) (tVar 0)) rfl scLT.nd (pi_list (pv 0))
        (blkOk_by (own := [("one", 2), ("other", 3), ("out", 4), ("into", 5)]) (N := nLT) (sc := defScope sLTW) (by decide +kernel))
        (fun _ _ _ _ _ => pg_tup rfl (pgs_cons (pg_name (i := 2) scLT.nd rfl (Or.inl rfl)) (pgs_cons (pg_name (i := 3) scLT.nd rfl (Or.inl rfl)) (pgs_cons (pg_name (i := 4) scLT.nd rfl (Or.inl rfl)) (pgs_cons (pg_name (i := 5) scLT.nd rfl (Or.inl rfl)) pgs_nil)))))
        (fun _ _ _ _ _ => pts_nil) (fun _ _ _ _ _ => pe_cmpR (op_inD (units65 hr)) (pe_tup (pa_cons (pv 3) (pa_cons (pv 2) (pa_cons (pv 5) (pa_cons (pv 4) pa_nil))))) (pv 0) (by rfl))) pa_nil))))), ?_⟩
  obtain ⟨Bb, ds, d, e, hv, hn, ⟨n, rs, rfl, hok, hl, rfl⟩, q⟩ := h
  obtain ⟨v, rfl, hx⟩ := tp1 hv
  have okr : ∀ r ∈ rs, okR n r := fun r hr => (hok r hr).1
  have s0 := Bs.start e
  have epl : ∀ x ∈ rs.map endD, pln x = true := fun x hx => by
    obtain ⟨r, hr, rfl⟩ := List.mem_map.mp hx
    show (true && (pln r.2.2.1 && true)) = true
    rw [wd_pln (okr r hr).o]
    rfl
  have esh : SeqAt.shaped (.list (rs.map endD)) = true := sh_list fun x hx => by
    obtain ⟨r, hr, rfl⟩ := List.mem_map.mp hx
    have d1 := wd_depth (okr r hr).o
    refine ⟨?_, ?_⟩
    · show (true && (r.2.2.1.canLay0 && true)) = true
      rw [(hok r hr).2.1]
      rfl
    · show max 0 (max r.2.2.1.depth 0) + 1 ≤ 60
      omega
  refine q_asgD s0.c (d := .list (rs.map endD)) (ed_rl (rs := rs) endD (ei_list (ed_var (i := 0) rfl hx)) (by omega) (fun _ _ _ _ => rfl) fun r v3 v4 H' hr e g3 g4 => ed_tup (es_cons (ed_var (i := 2) rfl (.int _)) (es_cons (ed_var (i := 4) rfl g3) es_nil)) (show 2 ≤ 100000 by decide)) fun v1 H1 e1 t1 => ?_
  have b1 := s0.step e1
  have hx1 := Tp.ex (gr_ex (H2 := H1) s0.c) _ _ hx
  have ndq : decide ((rs.map endD).Nodup) = decide ((rs.map endR).Nodup) := decide_eq_decide.mpr (nodup_by fun a _ b _ => endD_inj)
  refine q_whenD b1.c (b := !decide ((rs.map endR).Nodup)) (et_is (et_D (ed_op (ed_cb (es_cons (ed_call (ds := [.list (rs.map endD)]) (es_cons (ed_var (i := 1) rfl t1) es_nil) rfl ⟨_, rfl, esh, by rw [List.length_map]; omega, rfl⟩) es_nil) (rc_lenL (K := K))) (ed_cb (es_cons (ed_var (i := 1) rfl t1) es_nil) (rc_lenL (K := K))) rd_I0b)) (by rw [← ndq]; exact once_lt epl)) (fun hb H2 e2 => ?_) (fun hb H2 e2 => ?_)
  · have b2 := b1.keep e2
    refine s_retD b2.c (d := .bool false) ed_bl fun v5 H5 e5 t5 => q v5 H5 (b2.a.trans e5) ?_
    have z : twoB rs = false := by
      unfold twoB
      rw [show decide ((rs.map endR).Nodup) = false by simpa using hb, Bool.false_and]
    rw [z]
    exact Tp.ex (b2.step e5).d _ _ t5
  · have b2 := b1.keep e2
    have hn1 : decide ((rs.map endR).Nodup) = true := by simpa using hb
    refine s_retD b2.c (d := .bool (twoB rs)) (ed_is (ed_cb (ds := [.list ((rs.map fun r => decide (flipR r ∈ rs)).map PyData.bool)]) (es_cons (ed_is (ed_rl (rs := rs) (fun r => .bool (decide (flipR r ∈ rs))) (ei_list (ed_var (i := 0) rfl hx1)) (by omega) (fun _ _ _ _ => rfl) fun r v3 v4 H' hr e g3 g4 =>
      ed_is (ed_op (ed_tup (es_cons (ed_var (i := 3) rfl (.int r.2.1)) (es_cons (ed_var (i := 2) rfl (.int r.1)) (es_cons (ed_var (i := 5) rfl g4) (es_cons (ed_var (i := 4) rfl g3) es_nil)))) (show 4 ≤ 100000 by decide)) (ed_var (i := 0) rfl (Tp.ex e _ _ hx1)) (rd_inD (x := rdD (flipR r)) ?_ (rds_sh hok))) (congrArg PyData.bool (rds_any okr (okR_flip (okr r hr))))) (by rw [List.map_map]; rfl)) es_nil) (rc_all (K := K))) ?_) fun v5 H5 e5 t5 => q v5 H5 (b2.a.trans e5) (Tp.ex (b2.step e5).d _ _ t5)
    · have := hok r hr
      exact shaped_mem (rds_sh (n := n) (rs := [flipR r]) fun x hx => by rw [List.mem_singleton.mp hx]; exact ⟨okR_flip this.1, this.2.2, this.2.1⟩) (by rw [List.map_cons]; exact List.mem_cons_self)
    · unfold twoB
      rw [hn1, Bool.true_and, List.all_map]
      rfl
end
end K50
set_option maxHeartbeats 1000000
namespace Ns
/-! ### each once, of numbers -/
def addG (acc : List Nat) (k : Nat) : List Nat := if k ∈ acc then acc else acc ++ [k]
def onceG (ks : List Nat) : List Nat := ks.foldl addG []
theorem onceG_mem {L : List Nat} {x : Nat} : x ∈ onceG L ↔ x ∈ L := by
  have key : ∀ (L acc : List Nat), x ∈ L.foldl addG acc ↔ x ∈ acc ∨ x ∈ L := by
    intro L
    induction L with
    | nil => intro acc; simp
    | cons a L ih =>
      intro acc
      rw [List.foldl_cons, ih]
      unfold addG
      split
      · rename_i h
        constructor
        · rintro (g | g)
          · exact .inl g
          · exact .inr (List.mem_cons_of_mem _ g)
        · rintro (g | g)
          · exact .inl g
          · rcases List.mem_cons.mp g with g | g
            · subst g; exact .inl h
            · exact .inr g
      · simp [or_assoc]
  unfold onceG
  rw [key]
  simp
theorem onceG_nodup (L : List Nat) : (onceG L).Nodup := by
  have key : ∀ (L acc : List Nat), acc.Nodup → (L.foldl addG acc).Nodup := by
    intro L
    induction L with
    | nil => intro acc h; exact h
    | cons a L ih =>
      intro acc h
      rw [List.foldl_cons]
      refine ih _ ?_
      unfold addG
      split
      · exact h
      · rename_i g
        refine List.nodup_append.mpr ⟨h, by simp, fun x hx y hy => ?_⟩
        rw [List.mem_singleton.mp hy]
        intro e
        exact g (e ▸ hx)
  exact key L [] List.nodup_nil
end Ns
namespace K50
open PySem PySem.W PySem.Spec PyProof.Rows L2 LamX NdefX Evl RZ Dl Dn Dm Lz K0 Mx Ns ClX
def nD (k : Nat) : PyData := .int (k : Int)
theorem any_nD (ks : List Nat) (x : Nat) : ((ks.map nD).any fun z => PyData.eqv z (nD x)) = decide (x ∈ ks) := by
  refine Bool.eq_iff_iff.mpr ?_
  rw [List.any_eq_true, decide_eq_true_iff]
  constructor
  · rintro ⟨z, hz, e⟩
    obtain ⟨t, ht, rfl⟩ := List.mem_map.mp hz
    have := (pln_eqv (nD t) (nD x) rfl rfl).mp e
    injection this with this
    obtain rfl : t = x := by omega
    exact ht
  · exact fun g => ⟨_, List.mem_map.mpr ⟨x, g, rfl⟩, (pln_eqv _ _ rfl rfl).mpr rfl⟩
theorem once_nD (ks : List Nat) : onceD (ks.map nD) = (onceG ks).map nD := by
  have key : ∀ ks acc : List Nat, (ks.map nD).foldl (fun acc x => if acc.any (fun z => PyData.eqv z x) then acc else acc ++ [x]) (acc.map nD) = (ks.foldl addG acc).map nD := by
    intro ks
    induction ks with
    | nil => intro acc; rfl
    | cons k ks ih =>
      intro acc
      rw [List.map_cons, List.foldl_cons, List.foldl_cons, any_nD]
      unfold addG
      by_cases c : k ∈ acc
      · rw [decide_eq_true c, if_pos rfl, if_pos c]
        exact ih acc
      · rw [decide_eq_false c, if_neg (by decide), if_neg c]
        have := ih (acc ++ [k])
        rw [List.map_append] at this
        exact this
  exact key ks []
theorem nD_ints (ks : List Nat) : ks.map nD = (ks.map fun k : Nat => (k : Int)).map PyData.int := by rw [List.map_map]; rfl
theorem nV_ints (ks : List Nat) : ks.map nV = (ks.map fun k : Nat => (k : Int)).map V.int := by rw [List.map_map]; rfl
theorem nD_sh (ks : List Nat) : SeqAt.shaped (.list (ks.map nD)) = true := by rw [nD_ints]; exact shInts _
theorem tp_nV {B : Hp} (ks : List Nat) : TpAll B (ks.map nV) (ks.map nD) := tp_map (f := nV) (g := nD) (fun k => .int (k : Int)) ks
/-! ### _law_reached -/
abbrev sLRe : Stmt := top 50
abbrev nLR : List Str := ["start", "pairs", "found", "many", "here", "one", "other"]
theorem scLR : FnScope nLR ["start", "pairs"] (defScope sLRe) := ⟨rfl, rfl, rfl, by decide +kernel, rfl, by decide +kernel, by decide +kernel⟩
/-- n, pairs, where it begins -/
def lrPre : Nat × List (Nat × Nat) × Nat → Hp → List V → Prop := fun a H vs => a.2.2 < a.1 ∧ a.1 ≤ 400 ∧ a.2.1.length ≤ 1000 ∧ (∀ p ∈ a.2.1, p.1 < a.1 ∧ p.2 < a.1) ∧ ∃ v, vs = [nV a.2.2, v] ∧ Tp H v (.list (a.2.1.map edD))
def lrPost : Nat × List (Nat × Nat) × Nat → Hp → V → Prop := fun a H v => ∃ xs, LstV xs H v ∧ (xs.length = a.1 ↔ ∀ v, v < a.1 → Rch (fun v u => (v, u) ∈ a.2.1) a.2.2 v)
theorem mn_lr {a : Nat × List (Nat × Nat) × Nat} : Mn (lrPost a) := fun H H' v e ⟨xs, h1, h2⟩ => ⟨xs, mn_lst _ _ v e h1, h2⟩
structure LRi (n : Nat) (ps : List (Nat × Nat)) (s : Nat) (D : List Nat) (i : Nat) : Prop where
  nd : D.Nodup
  lt : ∀ v ∈ D, v < n
  snd : ∀ v ∈ D, Rch (fun v u => (v, u) ∈ ps) s v
  clo : ∀ (j v : Nat), j < i → D[j]? = some v → ∀ u, (v, u) ∈ ps → u ∈ D
  st : s ∈ D
  le : i ≤ D.length
def newL (ps : List (Nat × Nat)) (D : List Nat) (x : Nat) : List Nat := (ps.filter fun p => decide (p.1 = x) && !decide (p.2 ∈ D)).map (·.2)
theorem LRi.step {n : Nat} {ps : List (Nat × Nat)} {s : Nat} {D : List Nat} {i x : Nat} (h : LRi n ps s D i) (hp : ∀ p ∈ ps, p.1 < n ∧ p.2 < n) (hx : D[i]? = some x) : LRi n ps s (D ++ onceG (newL ps D x)) (i + 1) := by
  have nm : ∀ u, u ∈ onceG (newL ps D x) ↔ (x, u) ∈ ps ∧ u ∉ D := fun u => by
    rw [onceG_mem]
    unfold newL
    rw [List.mem_map]
    constructor
    · rintro ⟨⟨a, b⟩, hm, rfl⟩
      obtain ⟨h1, h2⟩ := List.mem_filter.mp hm
      simp at h2
      obtain ⟨rfl, h3⟩ := h2
      exact ⟨h1, h3⟩
    · rintro ⟨h1, h2⟩
      exact ⟨(x, u), List.mem_filter.mpr ⟨h1, by simp [h2]⟩, rfl⟩
  refine ⟨List.nodup_append.mpr ⟨h.nd, onceG_nodup _, fun a ha b hb e => ?_⟩, fun v hv => ?_, fun v hv => ?_, fun j v hj hv u hu => ?_, List.mem_append_left _ h.st, ?_⟩
  · subst e
    exact ((nm a).mp hb).2 ha
  · rcases List.mem_append.mp hv with g | g
    · exact h.lt v g
    · exact (hp _ ((nm v).mp g).1).2
  · rcases List.mem_append.mp hv with g | g
    · exact h.snd v g
    · exact .step (h.snd x (List.mem_of_getElem? hx)) ((nm v).mp g).1
  · have hl := get_lt hx
    by_cases c : j < i
    · rw [List.getElem?_append_left (by omega)] at hv
      exact List.mem_append_left _ (h.clo j v c hv u hu)
    · have : j = i := by omega
      subst this
      rw [List.getElem?_append_left hl, hx] at hv
      cases hv
      by_cases g : u ∈ D
      · exact List.mem_append_left _ g
      · exact List.mem_append_right _ ((nm u).mpr ⟨hu, g⟩)
  · have hl := get_lt hx
    rw [List.length_append]
    omega
theorem LRi.done {n : Nat} {ps : List (Nat × Nat)} {s : Nat} {D : List Nat} (h : LRi n ps s D D.length) : D.length = n ↔ ∀ v, v < n → Rch (fun v u => (v, u) ∈ ps) s v := by
  have all : ∀ v, Rch (fun v u => (v, u) ∈ ps) s v → v ∈ D := fun v r => by
    induction r with
    | refl => exact h.st
    | step _ r ih =>
      obtain ⟨j, hj, e⟩ := List.getElem_of_mem ih
      exact h.clo j _ hj (by rw [List.getElem?_eq_getElem hj, e]) _ r
  rw [full_iff h.nd h.lt]
  exact forall_congr' fun v => ⟨fun g hv => h.snd v (g hv), fun g hv => all v (g hv)⟩
theorem LRi.len {n : Nat} {ps : List (Nat × Nat)} {s : Nat} {D : List Nat} {i : Nat} (h : LRi n ps s D i) : D.length ≤ n := by
  have h1 := h.nd.length_le_of_subset (l₂ := List.range n) fun y hy => List.mem_range.mpr (h.lt y hy)
  rw [List.length_range] at h1
  exact h1
section
variable {P : Program} {w : World} {K : PySem.W.Frag} {mg : Str → Option Value} {base : Heap} {C : Addr}
theorem ok_lawR {f : Addr} {fd : FuncData} (F : Fun K "_law_reached" "_law_reached" sLRe f fd) (B : Bl mg) (O : CallF P w K mg base 1 "_law_each_once" ["things"] (spP 1 rOnce)) : FnOk P w K mg base CX0 2 f fd ["start", "pairs"] (spW 2 lrPre lrPost) := by
  refine F.ok scLR (fun vs H Q E h => spW_len h) (fun cdv A outer s H vs Q E hr h => ?_)
  obtain ⟨fO, dO, oO, gO, kO, bO⟩ := O
  refine ⟨_, pss_cons (ps_asg (pe_tup (pa_cons (pe_lst (pa_cons (pv 0) pa_nil)) (pa_cons pe_int pa_nil))) (pg_tup rfl (pgs_cons (pg_name (i := 2) scLR.nd rfl (.inr rfl)) (pgs_cons (pg_name (i := 3) scLR.nd rfl (.inl rfl)) pgs_nil))))
    (pss_cons (ps_while PassesOwn.never (pt_cmpR op_lt (pv 3) (pe_callB call_len_seq (by rfl) B.len PySem.boot_len (pa_cons (pv 2) pa_nil)) (nomark _))
      (pss_cons (ps_set (i := 4) scLR.nd rfl (Or.inr rfl) (pe_ix ix_list (pv 2) (pv 3) (fun _ _ => rfl)))
      (pss_cons (ps_expr (pe_bm PySem.F.plainAttrs_list PySem.F.slot_list_extend PySem.F.type_list_extend mt_extend (pv 2) (pa_cons (pe_call oO hr (by rfl) gO kO bO .nil pass0 (pa_cons
          (pe_lc (own := [("one", 5), ("other", 6)]) (g := gTup K 2 (gCons (gName 5) (gCons (gName 6) gNil))) (tt := tAnd (tTest (tOp rEq (tVar 5) (tVar 4))) (tTest (tOp (rNotInD K) (tVar 6) (tVar 2)))) (te := tVar 6) rfl scLR.nd (pi_list (pv 1))
            (blkOk_by (own := [("one", 5), ("other", 6)]) (N := nLR) (sc := defScope sLRe) (by decide +kernel)) (fun _ _ _ _ _ => pg_tup rfl (pgs_cons (pg_name (i := 5) scLR.nd rfl (Or.inl rfl)) (pgs_cons (pg_name (i := 6) scLR.nd rfl (Or.inl rfl)) pgs_nil)))
            (fun _ _ _ _ _ => pts_one (PW.pt (pw_and (pt_cmpR op_eq (pv 5) (pv 4) (nomark _)) (pw_and1 (pt_cmpR (op_notInD (units65 hr)) (pv 6) (pv 2) (by rfl)))))) (fun _ _ _ _ _ => pv 6)) pa_nil)) pa_nil)))
      (pss_one (ps_set (i := 3) scLR.nd rfl (Or.inl rfl) (pe_op op_add (pv 3) pe_int))))))
    (pss_one (ps_ret (pv 2)))), ?_⟩
  obtain ⟨Bb, ⟨n, ps, st⟩, e, hn, ⟨n0, n4, pl, hp, v, rfl, hv⟩, q⟩ := h
  have pl : ps.length ≤ 1000 := pl
  have n0 : st < n := n0
  have n4 : n ≤ 400 := n4
  refine ⟨nV st, rfl, show 1 ≤ sizeLine from sz_of (by decide), fun pf hpf => ⟨show 2 ≤ sizeLine from sz_of (by decide), fun t ht => ⟨t, _, rfl, st_of upd_same, rfl, _, _, rfl, _, _, rfl, rfl, ?_⟩⟩⟩
  have pN : H pf = none := hpf
  have e2 : Ex H (upd (upd H pf (.lst [nV st])) t (.tup [.ref pf, .int 0])) := (Ex.new hpf).trans (Ex.new ht)
  have tp : pf ≠ t := fun z => by rw [← z, upd_same] at ht; cases ht
  have h2 : upd (upd H pf (.lst [nV st])) t (.tup [.ref pf, .int 0]) pf = some (.lst ([st].map nV)) := by rw [upd_ne tp, upd_same]; rfl
  refine ⟨fun m σ' H' => ∃ D i x4, m = n - i ∧ Ex H H' ∧ H' pf = some (.lst (D.map nV)) ∧ LRi n ps st D i ∧ σ' = [some (nV st), some v, some (.ref pf), some (nV i), x4, none, none],
    ⟨_, [st], 0, none, rfl, e2, h2, ⟨by simp, fun y hy => by rw [List.mem_singleton.mp hy]; exact n0, fun y hy => by rw [List.mem_singleton.mp hy]; exact .refl, fun j _ hj => absurd hj (Nat.not_lt_zero _), List.mem_singleton.mpr rfl, Nat.zero_le _⟩, rfl⟩, ?_⟩
  rintro m σ' H' ⟨D, i, x4, rfl, e3, h3, I, rfl⟩
  refine ⟨nV i, rfl, .ref pf, rfl, pf, _, rfl, .inl (sq_of h3), (i : Int), ((D.map nV).length : Int), rfl, rfl, decide ((i : Int) < ((D.map nV).length : Int)), rfl, ?_⟩
  have lD := I.len
  by_cases c : i < D.length
  · rw [decide_eq_true (by rw [List.length_map]; omega)]
    refine ⟨fun σ' H' => ∃ m', m' < n - i ∧ ∃ D i x4, m' = n - i ∧ Ex H H' ∧ H' pf = some (.lst (D.map nV)) ∧ LRi n ps st D i ∧ σ' = [some (nV st), some v, some (.ref pf), some (nV i), x4, none, none], fun σ' H' h => h, ?_⟩
    have hx : D[i]? = some D[i] := List.getElem?_eq_getElem c
    refine ⟨.ref pf, rfl, nV i, rfl, pf, _, (i : Int), nV D[i], rfl, rfl, sq_of h3, atI_at (by rw [List.getElem?_map, hx]; rfl), ?_⟩
    generalize D[i] = x at hx
    have tf : Tp H' (.ref pf) (.list (D.map nD)) := .lst h3 (tp_nV D)
    have tv : Tp H' v (.list (ps.map edD)) := Tp.ex (e.trans e3) _ _ hv
    have lc : EvD (tLc (iList K (tVar 1)) (gTup K 2 (gCons (gName 5) (gCons (gName 6) gNil))) (tAnd (tTest (tOp rEq (tVar 5) (tVar 4))) (tTest (tOp (rNotInD K) (tVar 6) (tVar 2)))) (tVar 6) [5, 6]) [some (nV st), some v, some (.ref pf), some (nV i), some (nV x), none, none] H' (.list ((newL ps D x).map nD)) := by
      refine ed_is (ed_lc (fun d => match d with
          | .tuple [.int a, .int b] => decide (a = (x : Int)) && !decide (b.toNat ∈ D)
          | _ => false) (fun d => match d with
          | .tuple [_, b] => b
          | d => d) (ei_list (ed_var (i := 1) rfl tv)) (by rw [List.length_map]; omega) fun d y H2 hd e4 hy => ?_) ?_
      · obtain ⟨p, hp2, rfl⟩ := List.mem_map.mp hd
        cases hy with
        | tup hA hS =>
          obtain ⟨va, vb, rfl, ta, tb⟩ := tp2 hS
          refine ⟨_, fun Hx k ex hk => ⟨_, _, rfl, st_of (ex _ _ hA), rfl, _, _, rfl, _, _, rfl, rfl, hk⟩, rfl, ?_, fun _ => ed_var (i := 6) rfl tb⟩
          refine et_and (et_D (ed_op (ed_var (i := 5) rfl ta) (ed_var (i := 4) rfl (.int (x : Int))) rd_eqI)) (et_is (et_D (ed_op (ed_var (i := 6) rfl tb) (ed_var (i := 2) rfl (Tp.ex e4 _ _ tf)) (rd_notInD rfl (nD_sh D)))) ?_)
          show (!(D.map nD).any fun z => PyData.eqv z (nD p.2)) = !decide (((p.2 : Nat) : Int).toNat ∈ D)
          rw [any_nD, Int.toNat_natCast]
      · unfold newL
        rw [List.map_map]
        congr 1
        have : ∀ ps : List (Nat × Nat), ((ps.map edD).filter fun d => match d with
          | .tuple [.int a, .int b] => decide (a = (x : Int)) && !decide (b.toNat ∈ D)
          | _ => false).map (fun d => match d with
          | .tuple [_, b] => b
          | d => d) = (ps.filter fun p => decide (p.1 = x) && !decide (p.2 ∈ D)).map (nD ∘ fun p => p.2) := by
          intro ps
          induction ps with
          | nil => rfl
          | cons p ps ih =>
            have e1 : (match edD p with
              | .tuple [.int a, .int b] => decide (a = (x : Int)) && !decide (b.toNat ∈ D)
              | _ => false) = (decide (p.1 = x) && !decide (p.2 ∈ D)) := by
              show (decide ((p.1 : Int) = (x : Int)) && !decide (((p.2 : Nat) : Int).toNat ∈ D)) = _
              rw [Int.toNat_natCast]
              have : decide ((p.1 : Int) = (x : Int)) = decide (p.1 = x) := decide_eq_decide.mpr (by omega)
              rw [this]
            rw [List.map_cons, List.filter_cons, List.filter_cons, e1]
            split
            · rw [List.map_cons, List.map_cons, ih]
              rfl
            · exact ih
        exact this ps
    have ln : (newL ps D x).length ≤ 1000 := by
      unfold newL
      rw [List.length_map]
      exact Nat.le_trans (List.length_filter_le _ _) pl
    have ev := ed_call (E := E0) (n := 1) (f := rOnce) (es_cons lc es_nil) rfl ⟨_, rfl, nD_sh _, by rw [List.length_map]; exact ln, rfl⟩
    rw [once_nD] at ev
    refine ⟨.ref pf, rfl, .inl ⟨rfl, _, sq_of h3⟩, ev H' (Ex.refl _) _ fun y Hn e4 ty => ?_⟩
    cases ty with
    | @lst b zs _ hb hz =>
      rw [nD_ints] at hz
      have hz2 := ints_of hz
      rw [← nV_ints] at hz2
      subst hz2
      have I2 := I.step hp hx
      have l2 := I2.len
      have b2 : Hn b = some (.lst ((onceG (newL ps D x)).map nV)) := gr_sub (Ex.refl _) e4 _ _ hb
      refine ⟨pf, b, D.map nV, (onceG (newL ps D x)).map nV, rfl, rfl, e4 _ _ h3, b2, sz_of (by rw [← List.length_append, ← List.map_append, List.length_map]; omega), ?_⟩
      refine ⟨nV i, rfl, (i : Int), 1, rfl, rfl, n - (i + 1), by omega, D ++ onceG (newL ps D x), i + 1, some (nV x), rfl, Ex.mut (e3.trans e4) pN, by rw [upd_same, List.map_append], I2, ?_⟩
      show _ = [some (nV st), some v, some (.ref pf), some (.int ((i + 1 : Nat) : Int)), some (nV x), none, none]
      rw [Int.natCast_succ]
      rfl
  · rw [decide_eq_false (by rw [List.length_map]; omega)]
    have ei : i = D.length := by have := I.le; omega
    subst ei
    refine ⟨.ref pf, rfl, q (.ref pf) H' e3 ⟨D.map nV, ⟨pf, rfl, gr_new pN h3⟩, ?_⟩⟩
    rw [List.length_map]
    exact I.done
end
end K50
set_option maxHeartbeats 1000000
namespace K50
open PySem PySem.W PySem.Spec PyProof.Rows L2 LamX NdefX Evl RZ Dl Dn Dm Lz K0 Mx Ns ClX
open scoped Classical
/-! ### mathematics of joined, strong, two-way -/
theorem twoB_perm {rs ts : List Rd} (h : rs.Perm ts) : twoB rs = twoB ts := by
  unfold twoB
  have h1 : decide ((rs.map endR).Nodup) = decide ((ts.map endR).Nodup) := decide_eq_decide.mpr (h.map endR).nodup_iff
  rw [h1]
  congr 1
  refine Bool.eq_iff_iff.mpr ?_
  rw [List.all_eq_true, List.all_eq_true]
  constructor
  · intro g r hr
    have := g r (h.mem_iff.mpr hr)
    rw [decide_eq_true_iff] at this ⊢
    exact h.mem_iff.mp this
  · intro g r hr
    have := g r (h.mem_iff.mp hr)
    rw [decide_eq_true_iff] at this ⊢
    exact h.mem_iff.mpr this
theorem rch_mem {ps qs : List (Nat × Nat)} (h : ∀ p, p ∈ ps ↔ p ∈ qs) {a v : Nat} : Rch (fun v u => (v, u) ∈ ps) a v ↔ Rch (fun v u => (v, u) ∈ qs) a v := rch_iff fun v u => h (v, u)
theorem st1_mem {n : Nat} {ps qs : List (Nat × Nat)} (h : ∀ p, p ∈ ps ↔ p ∈ qs) : St1 n ps ↔ St1 n qs := forall_congr' fun v => forall_congr' fun _ => rch_mem h
theorem jn_mem {n : Nat} {ps qs : List (Nat × Nat)} (h : ∀ p, p ∈ ps ↔ p ∈ qs) : Jn n ps ↔ Jn n qs := forall_congr' fun v => forall_congr' fun _ => rch_iff fun v u => or_congr (h (v, u)) (h (u, v))
theorem map_mem {α β : Type} {f : α → β} {l m : List α} (h : ∀ a, a ∈ l ↔ a ∈ m) (b : β) : b ∈ l.map f ↔ b ∈ m.map f := by
  rw [List.mem_map, List.mem_map]
  exact ⟨fun ⟨a, h1, h2⟩ => ⟨a, (h a).mp h1, h2⟩, fun ⟨a, h1, h2⟩ => ⟨a, (h a).mpr h1, h2⟩⟩
theorem sort_mem (rs : List Rd) (r : Rd) : r ∈ sortR rs ↔ r ∈ rs := (sortR_perm rs).mem_iff
theorem joB_sort (n : Nat) (rs : List Rd) : joB n (sortR rs) = joB n rs := decide_eq_decide.mpr (jn_mem (map_mem (sort_mem rs)))
theorem stB_sort (n : Nat) (rs : List Rd) : stB n (sortR rs) = stB n rs := by
  unfold stB
  rw [show decide (St1 n ((sortR rs).map edR)) = decide (St1 n (rs.map edR)) from decide_eq_decide.mpr (st1_mem (map_mem (sort_mem rs))), show decide (St1 n (((sortR rs).map edR).map flP)) = decide (St1 n ((rs.map edR).map flP)) from decide_eq_decide.mpr (st1_mem (map_mem (map_mem (sort_mem rs))))]
theorem fl_mem {ps : List (Nat × Nat)} {v u : Nat} : (v, u) ∈ ps.map flP ↔ (u, v) ∈ ps := by
  rw [List.mem_map]
  constructor
  · rintro ⟨⟨a, b⟩, h, e⟩
    cases e
    exact h
  · exact fun h => ⟨(u, v), h, rfl⟩
theorem jn_both (n : Nat) (ps : List (Nat × Nat)) : Jn n ps ↔ St1 n (ps ++ ps.map flP) := forall_congr' fun v => forall_congr' fun _ => rch_iff fun v u => by
  rw [List.mem_append, fl_mem]
theorem st_all {n : Nat} {ps : List (Nat × Nat)} (n0 : 0 < n) : (St1 n ps ∧ St1 n (ps.map flP)) ↔ ∀ s, s < n → ∀ v, v < n → Rch (fun v u => (v, u) ∈ ps) s v := by
  constructor
  · rintro ⟨h1, h2⟩ s hs v hv
    exact Rch.trans (Rch.back (fun a b h => fl_mem.mp h) (h2 s hs)) (h1 v hv)
  · intro h
    exact ⟨fun v hv => h 0 n0 v hv, fun v hv => Rch.back (fun a b h => fl_mem.mpr h) (h v hv 0 n0)⟩
theorem fine_bool (b : Bool) : Fine1 (.bool b) := ⟨Nat.zero_le _, rfl, by unfold wide; trivial, by cases b <;> rfl⟩
/-! ### _law_all_right -/
abbrev sAllR : Stmt := top 51
abbrev nAR : List Str := ["net", "signs", "roads", "ahead", "behind", "joined", "strong", "road", "one", "other", "place"]
theorem scAR : FnScope nAR ["net", "signs", "roads"] (defScope sAllR) := ⟨rfl, rfl, rfl, by decide +kernel, rfl, by decide +kernel, by decide +kernel⟩
structure LawN (ss : List PyData) (rs : List Rd) : Prop where
  n0 : 0 < ss.length
  n7 : ss.length ≤ 7
  wd : ∀ w ∈ ss, Wd w
  ok : ∀ r ∈ rs, okT ss.length r
  l : rs.length ≤ 50
theorem LawN.v {ss : List PyData} {rs : List Rd} (h : LawN ss rs) : okV ⟨ss, sortR rs⟩ := ⟨List.length_pos_iff.mp h.n0, Nat.le_trans h.n7 (by decide), h.wd, by rw [(sortR_perm rs).length_eq]; have := h.l; omega, fun r hr => (h.ok r ((sort_mem rs r).mp hr)).1⟩
def arPre (C : Addr) : List PyData × List Rd → Hp → List V → Prop := fun a H vs => LawN a.1 a.2 ∧ ∃ v1 v2 v3, vs = [v1, v2, v3] ∧ NetAt C ⟨a.1, sortR a.2⟩ H v1 ∧ Tp H v2 (.list a.1) ∧ Tp H v3 (.list (a.2.map rdD))
section
variable {P : Program} {w : World} {K : PySem.W.Frag} {mg : Str → Option Value} {base : Heap} {C : Addr}
theorem ok_allR {f : Addr} {fd : FuncData} (F : Fun K "_law_all_right" "_law_all_right" sAllR f fd) (B : Bl mg) (TW : CallF P w K mg base 2 "is_two_way" ["net"] (spV 1 (okPre C) fun N => .bool (twoB N.rs))) (JO : CallF P w K mg base 3 "is_joined" ["net"] (spV 1 (okPre C) fun N => .bool (joB N.ss.length N.rs)))
    (ST : CallF P w K mg base 3 "is_strong" ["net"] (spV 1 (okPre C) fun N => .bool (stB N.ss.length N.rs))) (LT : CallF P w K mg base 2 "_law_is_two_way" ["roads"] (spP 1 rLTW)) (LR : CallF P w K mg base 2 "_law_reached" ["start", "pairs"] (spW 2 lrPre lrPost)) (S : CallF P w K mg base 5 "_law_same" ["found", "due"] (spP 2 (rSame 4))) :
    FnOk P w K mg base CX0 6 f fd ["net", "signs", "roads"] (spV 3 (arPre C) fun _ => .bool true) := by
  refine F.ok scAR (fun vs H Q E h => spV_len h) (fun cdv A outer s H vs Q E hr h => ?_)
  obtain ⟨fT, dT, oT, gT, kT, bT⟩ := TW
  obtain ⟨fJ, dJ, oJ, gJ, kJ, bJ⟩ := JO
  obtain ⟨fU, dU, oU, gU, kU, bU⟩ := ST
  obtain ⟨fL, dL, oL, gL, kL, bL⟩ := LT
  obtain ⟨fR, dR, oR, gR, kR, bR⟩ := LR
  obtain ⟨fS, dS, oS, gS, kS, bS⟩ := S
  refine ⟨_, pss_cons (ps_set (i := 3) scAR.nd rfl (Or.inr rfl) (pe_lc (own := [("road", 7)]) (g := gName 7) (tt := tYes) (te := tTup (tCons (tOp (rIxT K) (tVar 7) (tC (.int 0))) (tCons (tOp (rIxT K) (tVar 7) (tC (.int 1))) tNil))) rfl scAR.nd (pi_list (pv 2))
        (blkOk_by (own := [("road", 7)]) (N := nAR) (sc := defScope sAllR) (by decide +kernel)) (fun _ _ _ _ _ => pg_name (i := 7) scAR.nd rfl (Or.inl rfl)) (fun _ _ _ _ _ => pts_nil) (fun _ _ _ _ _ => pe_tup (pa_cons (pe_ix ix_tup (pv 7) pe_int (fun _ _ => rfl)) (pa_cons (pe_ix ix_tup (pv 7) pe_int (fun _ _ => rfl)) pa_nil)))))
    (pss_cons (ps_setLc (i := 4) (own := [("one", 8), ("other", 9)]) (g := gTup K 2 (gCons (gName 8) (gCons (gName 9) gNil))) (tt := tYes) (te := tTup (tCons (tVar 9) (tCons (tVar 8) tNil))) rfl scAR.nd rfl rfl rfl (pi_list (pv 3))
        (blkOk_by (own := [("one", 8), ("other", 9)]) (N := nAR) (sc := defScope sAllR) (by decide +kernel)) (fun _ _ _ _ _ => pg_tup rfl (pgs_cons (pg_name (i := 8) scAR.nd rfl (Or.inl rfl)) (pgs_cons (pg_name (i := 9) scAR.nd rfl (Or.inl rfl)) pgs_nil))) (fun _ _ _ _ _ => pts_nil) (fun _ _ _ _ _ => pe_tup (pa_cons (pv 9) (pa_cons (pv 8) pa_nil))))
    (pss_cons (ps_set (i := 5) scAR.nd rfl (Or.inl rfl) (pe_cmpR op_eq (pe_callB call_len_seq (by rfl) B.len PySem.boot_len (pa_cons (pe_call oR (hr.mono (by decide)) (by rfl) gR kR bR .nil pass0 (pa_cons pe_int (pa_cons (pe_op op_cat (pv 3) (pv 4)) pa_nil))) pa_nil)) (pe_callB call_len_seq (by rfl) B.len PySem.boot_len (pa_cons (pv 1) pa_nil)) (nomark _)))
    (pss_cons (ps_set (i := 6) scAR.nd rfl (Or.inl rfl) (pe_callB (cr_all rfl) (by rfl) B.all PyProof.Rows.boot_all (pa_cons
        (pe_lc (own := [("place", 10)]) (g := gName 10) (tt := tYes) (te := tOp rEq (tCB (Dl.rLen K) (tCons (tCall (spW 2 lrPre lrPost) [] E0 (tCons (tVar 10) (tCons (tVar 3) tNil))) tNil)) (tCB (Dl.rLen K) (tCons (tVar 1) tNil))) rfl scAR.nd (pi_range1 (by rfl) B.range (pa_cons (pe_callB call_len_seq (by rfl) B.len PySem.boot_len (pa_cons (pv 1) pa_nil)) pa_nil))
        (blkOk_by (own := [("place", 10)]) (N := nAR) (sc := defScope sAllR) (by decide +kernel)) (fun _ _ _ _ _ => pg_name (i := 10) scAR.nd rfl (Or.inl rfl)) (fun _ _ _ _ _ => pts_nil)
        (fun _ _ _ _ _ => pe_cmpR op_eq (pe_callB call_len_seq (by rfl) B.len PySem.boot_len (pa_cons (pe_call oR (hr.mono (by decide)) (by rfl) gR kR bR .nil pass0 (pa_cons (pv 10) (pa_cons (pv 3) pa_nil))) pa_nil)) (pe_callB call_len_seq (by rfl) B.len PySem.boot_len (pa_cons (pv 1) pa_nil)) (nomark _))) pa_nil)))
    (pss_one (ps_ret (pe_call oS hr (by rfl) gS kS bS .nil pass0 (pa_cons (pe_lst (pa_cons (pe_call oT (hr.mono (by decide)) (by rfl) gT kT bT .nil pass0 (pa_cons (pv 0) pa_nil)) (pa_cons (pe_call oJ (hr.mono (by decide)) (by rfl) gJ kJ bJ .nil pass0 (pa_cons (pv 0) pa_nil)) (pa_cons (pe_call oU (hr.mono (by decide)) (by rfl) gU kU bU .nil pass0 (pa_cons (pv 0) pa_nil)) pa_nil))))
      (pa_cons (pe_lst (pa_cons (pe_call oL (hr.mono (by decide)) (by rfl) gL kL bL .nil pass0 (pa_cons (pv 2) pa_nil)) (pa_cons (pv 5) (pa_cons (pv 6) pa_nil)))) pa_nil)))))))), ?_⟩
  obtain ⟨Bb, ⟨ss, rs⟩, e, hn, ⟨ln, v1, v2, v3, rfl, h1, h2, h3⟩, q⟩ := h
  have okr : ∀ r ∈ rs, okR ss.length r := fun r hr => (ln.ok r hr).1
  have bd := ed_lt okr
  have l50 : rs.length ≤ 50 := ln.l
  have n7 : ss.length ≤ 7 := ln.n7
  have n0 : 0 < ss.length := ln.n0
  have b0 := Bs.start e
  have le : (rs.map edR).length = rs.length := List.length_map _
  generalize hps : rs.map edR = ps at bd le
  have lp : ps.length ≤ 50 := by omega
  refine q_asgD b0.c (d := .list (ps.map edD)) (ed_is (ed_lc (fun _ => true) selP (ei_list (ed_var (i := 2) rfl h3)) (by rw [List.length_map]; show rs.length ≤ 50000; omega) fun d x H' hd e hx => ?_) (by rw [Dl.filter_tt, List.map_map, ← hps, ← pair_ed okr]; rfl)) fun u3 H1 e1 t3 => ?_
  · obtain ⟨r, hr, rfl⟩ := List.mem_map.mp hd
    exact ⟨_, fun Hx k _ hk => hk, rfl, et_yes, fun _ => ed_tup (es_cons (ed_op (ed_var (i := 7) rfl hx) ed_int (rd_ixT rfl)) (es_cons (ed_op (ed_var (i := 7) rfl hx) ed_int (rd_ixT rfl)) es_nil)) (show 2 ≤ 100000 by decide)⟩
  · have b1 := b0.step e1
    refine q_asgD b1.c (d := .list ((ps.map flP).map edD)) (ed_is (ed_lc (fun _ => true) (fun d => match d with
        | .tuple [a, b] => .tuple [b, a]
        | d => d) (ei_list (ed_var (i := 3) rfl t3)) (by rw [List.length_map]; omega) fun d x H' hd e hx => ?_) (by rw [Dl.filter_tt]; simp only [List.map_map]; rfl)) fun u4 H2 e2 t4 => ?_
    · obtain ⟨p, hp, rfl⟩ := List.mem_map.mp hd
      cases hx with
      | tup hA hS =>
        obtain ⟨va, vb, rfl, ta, tb⟩ := tp2 hS
        exact ⟨_, fun Hx k ex hk => ⟨_, _, rfl, st_of (ex _ _ hA), rfl, _, _, rfl, _, _, rfl, rfl, hk⟩, rfl, et_yes, fun _ => ed_tup (es_cons (ed_var (i := 9) rfl tb) (es_cons (ed_var (i := 8) rfl ta) es_nil)) (show 2 ≤ 100000 by decide)⟩
    · have b2 := b1.step e2
      have t32 := Tp.ex (gr_ex (H2 := H2) b1.c) _ _ t3
      have h22 := Tp.ex (gr_ex (H2 := H2) b1.c) _ _ (Tp.ex (gr_ex (H2 := H1) b0.c) _ _ h2)
      have bd2 : ∀ p ∈ ps ++ ps.map flP, p.1 < ss.length ∧ p.2 < ss.length := fun p hp => by
        rcases List.mem_append.mp hp with h | h
        · exact bd p h
        · obtain ⟨q, hq, rfl⟩ := List.mem_map.mp h
          exact ⟨(bd q hq).2, (bd q hq).1⟩
      have lr : ∀ {σ : L2.St} {B' : Hp} {ta tb : TE} (st : Nat) (qs : List (Nat × Nat)), st < ss.length → qs.length ≤ 1000 → (∀ p ∈ qs, p.1 < ss.length ∧ p.2 < ss.length) → EvD ta σ B' (.int (st : Int)) → EvD tb σ B' (.list (qs.map edD)) → (∃ v, σ[1]? = some (some v) ∧ Tp B' v (.list ss)) →
          EvD (tOp rEq (tCB (Dl.rLen K) (tCons (tCall (spW 2 lrPre lrPost) [] E0 (tCons ta (tCons tb tNil))) tNil)) (tCB (Dl.rLen K) (tCons (tVar 1) tNil))) σ B' (.bool (decide (∀ v, v < ss.length → Rch (fun v u => (v, u) ∈ qs) st v))) := fun {σ B' ta tb} st qs s0 ql qb ha hb ⟨v, hv, tv⟩ =>
        ed_lenEq (K := K) (i := (ss.length : Int)) (ev_callW (ss.length, qs, st) (esv_cons (R := fun H v => Tp H v (.int (st : Int))) ha mn_tp (esv_cons (R := fun H v => Tp H v (.list (qs.map edD))) hb mn_tp esv_nil mnl_nil) (mnl_cons mn_tp mnl_nil)) mn_lr fun H vs hh => by
            obtain ⟨w1, us, rfl, g1, w2, us2, rfl, g2, rfl⟩ := hh
            cases g1
            exact ⟨rfl, s0, Nat.le_trans n7 (by decide), ql, qb, w2, rfl, g2⟩) (ed_cb (es_cons (ed_var (i := 1) hv tv) es_nil) (rc_lenL (K := K))) fun H v hh => by
          obtain ⟨xs, g1, g2⟩ := hh
          refine ⟨xs, g1, decide_eq_decide.mpr ?_⟩
          have e1 : ((xs.length : Int) = (ss.length : Int)) ↔ xs.length = ss.length := by omega
          rw [e1, g2]
      refine q_asgD b2.c (lr 0 (ps ++ ps.map flP) n0 (by rw [List.length_append, List.length_map]; omega) bd2 ed_int (ed_is (ed_op (ed_var (i := 3) rfl t32) (ed_var (i := 4) rfl t4) (rd_cat (by rw [List.length_map, List.length_map, List.length_map]; omega))) (congrArg PyData.list List.map_append.symm)) ⟨v2, rfl, h22⟩) fun u5 H3 e3 t5 => ?_
      have b3 := b2.step e3
      have u3' := gr_ex (H2 := H3) b2.c
      have t33 := Tp.ex u3' _ _ t32
      have h23 := Tp.ex u3' _ _ h22
      have lrn : (rngD 0 ((ss.length : Int)).toNat).length = ss.length := by simp [rngD]
      refine q_asgD b3.c (d := .bool (stB ss.length rs)) (ed_is (ed_cb (ds := [.list (((rngD 0 ((ss.length : Int)).toNat).map fun d => decide (∀ v, v < ss.length → Rch (fun v u => (v, u) ∈ ps) (iD d).toNat v)).map PyData.bool)]) (es_cons (ed_is (ed_lc (fun _ => true) (fun d => .bool (decide (∀ v, v < ss.length → Rch (fun v u => (v, u) ∈ ps) (iD d).toNat v))) (ei_rng1 (n := (ss.length : Int)) (es_cons (ed_cb (es_cons (ed_var (i := 1) rfl h23) es_nil) (rc_lenL (K := K))) es_nil) (by omega)) (by rw [lrn]; omega) fun d x H' hd e hx => ?_) (by rw [Dl.filter_tt, List.map_map]; rfl)) es_nil) (rc_all (K := K))) ?_) fun u6 H4 e4 t6 => ?_
      · obtain ⟨i, hi, rfl⟩ := List.mem_map.mp hd
        have hi2 := List.mem_range.mp hi
        cases hx
        refine ⟨_, fun Hx k _ hk => hk, rfl, et_yes, fun _ => ?_⟩
        have ei : (iD (.int (0 + (i : Int)))).toNat = i := by show (0 + (i : Int)).toNat = i; omega
        rw [ei]
        exact lr i ps (by omega) (by omega) bd (ed_is (ed_var (i := 10) rfl (.int _)) (congrArg PyData.int (by omega))) (ed_var (i := 3) rfl (Tp.ex e _ _ t33)) ⟨v2, rfl, Tp.ex e _ _ h23⟩
      · refine congrArg PyData.bool ?_
        unfold stB
        rw [hps]
        refine Bool.eq_iff_iff.mpr ?_
        rw [Bool.and_eq_true, decide_eq_true_iff, decide_eq_true_iff, st_all n0, List.all_eq_true]
        constructor
        · intro h s hs v hv
          have hm : decide (∀ v, v < ss.length → Rch (fun v u => (v, u) ∈ ps) s v) ∈ (rngD 0 ((ss.length : Int)).toNat).map fun d => decide (∀ v, v < ss.length → Rch (fun v u => (v, u) ∈ ps) (iD d).toNat v) := by
            refine List.mem_map.mpr ⟨.int (0 + (s : Int)), List.mem_map.mpr ⟨s, List.mem_range.mpr (by omega), rfl⟩, ?_⟩
            have ei : (iD (.int (0 + (s : Int)))).toNat = s := by show (0 + (s : Int)).toNat = s; omega
            rw [ei]
          exact of_decide_eq_true (h _ hm) v hv
        · intro h b hb
          obtain ⟨d, hd, rfl⟩ := List.mem_map.mp hb
          obtain ⟨i, hi, rfl⟩ := List.mem_map.mp hd
          have hi2 := List.mem_range.mp hi
          have ei : (iD (.int (0 + (i : Int)))).toNat = i := by show (0 + (i : Int)).toNat = i; omega
          rw [ei]
          exact decide_eq_true (h i (by omega))
      · have b4 := b3.step e4
        have ux := gr_ex (H2 := H4) b3.c
        have h14 := mn_net _ _ _ ux (mn_net _ _ _ u3' (mn_net _ _ _ (gr_ex (H2 := H2) b1.c) (mn_net _ _ _ (gr_ex (H2 := H1) b0.c) h1)))
        have h34 := Tp.ex ux _ _ (Tp.ex u3' _ _ (Tp.ex (gr_ex (H2 := H2) b1.c) _ _ (Tp.ex (gr_ex (H2 := H1) b0.c) _ _ h3)))
        have t54 := Tp.ex ux _ _ t5
        have okp : okV ⟨ss, sortR rs⟩ := ln.v
        have args : ∀ H vs, (∃ v us, vs = v :: us ∧ NetAt C ⟨ss, sortR rs⟩ H v ∧ us = []) → vs.length = 1 ∧ okPre C ⟨ss, sortR rs⟩ H vs := fun H vs ⟨v, us, g1, g2, g3⟩ => by
          subst g3
          subst g1
          exact ⟨rfl, okp, v, rfl, g2⟩
        have jj : PyData.bool (decide (∀ v, v < ss.length → Rch (fun v u => (v, u) ∈ ps ++ ps.map flP) 0 v)) = .bool (joB ss.length rs) := by
          unfold joB
          rw [hps]
          exact congrArg PyData.bool (decide_eq_decide.mpr (jn_both _ _).symm)
        rw [jj] at t54
        refine s_retD b4.c (d := .bool true) (ed_same (x := .list [.bool (twoB rs), .bool (joB ss.length rs), .bool (stB ss.length rs)]) (ed_lst (es_cons (ed_is (ed_callV (f := fun N : NetV => .bool (twoB N.rs)) ⟨ss, sortR rs⟩ (esv_var (i := 0) (R := NetAt C ⟨ss, sortR rs⟩) rfl mn_net h14 esv_nil) args) (congrArg PyData.bool (twoB_perm (sortR_perm rs)))) (es_cons (ed_is (ed_callV (f := fun N : NetV => .bool (joB N.ss.length N.rs)) ⟨ss, sortR rs⟩ (esv_var (i := 0) (R := NetAt C ⟨ss, sortR rs⟩) rfl mn_net h14 esv_nil) args) (congrArg PyData.bool (joB_sort _ rs))) (es_cons (ed_is (ed_callV (f := fun N : NetV => .bool (stB N.ss.length N.rs)) ⟨ss, sortR rs⟩ (esv_var (i := 0) (R := NetAt C ⟨ss, sortR rs⟩) rfl mn_net h14 esv_nil) args) (congrArg PyData.bool (stB_sort _ rs))) es_nil))) (show 3 ≤ 100000 by decide))
          (ed_lst (es_cons (ed_call (ds := [.list (rs.map rdD)]) (es_cons (ed_var (i := 2) rfl h34) es_nil) rfl ⟨ss.length, rs, rfl, ln.ok, l50, rfl⟩) (es_cons (ed_var (i := 5) rfl t54) (es_cons (ed_var (i := 6) rfl t6) es_nil))) (show 3 ≤ 100000 by decide)) (fine_list (show 3 ≤ 1000 by decide) fun x hx => ?_)) fun v7 H7 e7 t7 => q v7 H7 (b4.a.trans e7) (Tp.ex (b4.step e7).d _ _ t7)
        simp only [List.mem_cons, List.not_mem_nil, or_false] at hx
        rcases hx with rfl | rfl | rfl <;> exact fine_bool _
end
end K50
set_option maxHeartbeats 1000000
namespace K50
open PySem PySem.W PySem.Spec PyProof.Rows L2 LamX NdefX Evl RZ Dl Dn Dm Lz K0 Mx Ns ClX
open scoped Classical
/-! ### the law's mathematics -/
theorem st_back (n : Nat) (rs : List Rd) : stB n (sortR (rs.map flipR)) = stB n rs := by
  rw [stB_sort]
  unfold stB
  have e1 : (rs.map flipR).map edR = (rs.map edR).map flP := by rw [List.map_map, List.map_map]; rfl
  have e2 : ((rs.map edR).map flP).map flP = rs.map edR := by rw [List.map_map]; exact List.map_id _
  rw [e1, e2, Bool.and_comm]
theorem two_edge {rs : List Rd} (h : twoB rs = true) {v u : Nat} : (v, u) ∈ rs.map edR ↔ (u, v) ∈ rs.map edR := by
  have key : ∀ v u, (v, u) ∈ rs.map edR → (u, v) ∈ rs.map edR := fun v u hm => by
    obtain ⟨r, hr, e⟩ := List.mem_map.mp hm
    unfold twoB at h
    rw [Bool.and_eq_true, List.all_eq_true] at h
    have := of_decide_eq_true (h.2 r hr)
    refine List.mem_map.mpr ⟨flipR r, this, ?_⟩
    have e1 : r.1.toNat = v := congrArg Prod.fst e
    have e2 : r.2.1.toNat = u := congrArg Prod.snd e
    show (r.2.1.toNat, r.1.toNat) = (u, v)
    rw [e1, e2]
  exact ⟨key v u, key u v⟩
theorem two_strong {n : Nat} {rs : List Rd} (h : twoB rs = true) : joB n rs = stB n rs := by
  unfold joB stB
  have e1 : Jn n (rs.map edR) ↔ St1 n (rs.map edR) := forall_congr' fun v => forall_congr' fun _ => rch_iff fun v u => ⟨fun g => g.elim id fun z => (two_edge h).mpr z, .inl⟩
  have e2 : St1 n ((rs.map edR).map flP) ↔ St1 n (rs.map edR) := st1_mem fun p => by
    obtain ⟨v, u⟩ := p
    rw [fl_mem]
    exact two_edge h
  rw [decide_eq_decide.mpr e1, decide_eq_decide.mpr e2, Bool.and_self]
/-! two beside one another -/
def twice (n : Nat) (rs : List Rd) : List Rd := rs ++ rs.map (shiftR (n : Int))
theorem bes_two (N : NetV) : besA [N, N] = (N.ss ++ N.ss, twice N.ss.length N.rs) := by
  have e : N.rs.map (shiftR 0) = N.rs := by
    have : (shiftR 0 : Rd → Rd) = id := funext fun r => by
      unfold shiftR
      rw [Int.zero_add, Int.zero_add]
      rfl
    rw [this, List.map_id]
  show ([] ++ N.ss ++ N.ss, [] ++ N.rs.map (shiftR (([] : List PyData).length : Int)) ++ N.rs.map (shiftR ((([] : List PyData) ++ N.ss).length : Int))) = _
  rw [List.nil_append, List.nil_append, List.length_nil]
  show (N.ss ++ N.ss, N.rs.map (shiftR 0) ++ _) = _
  rw [e]
  rfl
theorem two_apart {n : Nat} {rs : List Rd} (h : ∀ r ∈ rs, okR n r) (n0 : 0 < n) : joB (n + n) (twice n rs) = false := by
  unfold joB
  refine decide_eq_false fun hj => ?_
  have key : ∀ v, Rch (fun v u => (v, u) ∈ (twice n rs).map edR ∨ (u, v) ∈ (twice n rs).map edR) 0 v → v < n := fun v r => by
    have side : ∀ a b, (a, b) ∈ (twice n rs).map edR → (a < n ∧ b < n) ∨ (n ≤ a ∧ n ≤ b) := fun a b hm => by
      obtain ⟨r, hr, e⟩ := List.mem_map.mp hm
      have e1 : r.1.toNat = a := congrArg Prod.fst e
      have e2 : r.2.1.toNat = b := congrArg Prod.snd e
      rcases List.mem_append.mp hr with hr | hr
      · have o := h r hr
        have := o.a0
        have := o.a1
        have := o.b0
        have := o.b1
        left
        omega
      · obtain ⟨t, ht, rfl⟩ := List.mem_map.mp hr
        have o := h t ht
        have := o.a0
        have := o.b0
        have e1 : ((n : Int) + t.1).toNat = a := e1
        have e2 : ((n : Int) + t.2.1).toNat = b := e2
        right
        omega
    induction r with
    | refl => exact n0
    | step _ r ih =>
      rcases r with r | r
      · rcases side _ _ r with g | g
        · exact g.2
        · omega
      · rcases side _ _ r with g | g
        · exact g.1
        · omega
  have := key n (hj n (by omega))
  omega
theorem two_twice {n : Nat} {rs : List Rd} (h : ∀ r ∈ rs, okR n r) : twoB (twice n rs) = twoB rs := by
  unfold twoB
  have e1 : ((twice n rs).map endR).Nodup ↔ (rs.map endR).Nodup := by
    unfold twice
    rw [List.map_append, List.map_map]
    have e2 : (rs.map (endR ∘ shiftR (n : Int))).Nodup ↔ (rs.map endR).Nodup := nodup_by fun a ha b hb => by
      show ((n : Int) + a.1, a.2.2.1) = ((n : Int) + b.1, b.2.2.1) ↔ (a.1, a.2.2.1) = (b.1, b.2.2.1)
      simp
    rw [List.nodup_append, e2]
    refine ⟨fun g => g.1, fun g => ⟨g, g, fun a ha b hb e => ?_⟩⟩
    obtain ⟨r, hr, rfl⟩ := List.mem_map.mp ha
    obtain ⟨t, ht, rfl⟩ := List.mem_map.mp hb
    have e3 : r.1 = (n : Int) + t.1 := congrArg Prod.fst e
    have := (h r hr).a1
    have := (h t ht).a0
    omega
  rw [decide_eq_decide.mpr e1]
  congr 1
  refine Bool.eq_iff_iff.mpr ?_
  rw [List.all_eq_true, List.all_eq_true]
  constructor
  · intro g r hr
    have := of_decide_eq_true (g r (List.mem_append_left _ hr))
    refine decide_eq_true ?_
    rcases List.mem_append.mp this with z | z
    · exact z
    · obtain ⟨t, ht, e⟩ := List.mem_map.mp z
      have e3 : (n : Int) + t.1 = r.2.1 := congrArg Prod.fst e
      have := (h r hr).b1
      have := (h t ht).a0
      omega
  · intro g r hr
    refine decide_eq_true ?_
    rcases List.mem_append.mp hr with z | z
    · exact List.mem_append_left _ (of_decide_eq_true (g r z))
    · obtain ⟨t, ht, rfl⟩ := List.mem_map.mp z
      exact List.mem_append_right _ (List.mem_map.mpr ⟨flipR t, of_decide_eq_true (g t ht), rfl⟩)
theorem bes_jo {N : NetV} (ok : okV N) : joB (besN [N, N]).ss.length (besN [N, N]).rs = false := by
  unfold besN
  rw [bes_two]
  show joB (N.ss ++ N.ss).length (sortR (twice N.ss.length N.rs)) = false
  rw [joB_sort, List.length_append]
  exact two_apart ok.ok (List.length_pos_iff.mpr ok.ne)
theorem bes_tw {N : NetV} (ok : okV N) : twoB (besN [N, N]).rs = twoB N.rs := by
  unfold besN
  rw [bes_two]
  show twoB (sortR (twice N.ss.length N.rs)) = twoB N.rs
  rw [twoB_perm (sortR_perm _)]
  exact two_twice ok.ok
theorem bes_okV {N : NetV} (ok : okV N) (l1 : N.ss.length ≤ 7) (l2 : N.rs.length ≤ 50) : okV (besN [N, N]) := by
  have o := bes_ok (Ts := [N, N]) (fun M hM => by
    simp only [List.mem_cons, List.not_mem_nil, or_false] at hM
    rcases hM with rfl | rfl <;> exact ok) 2
  have e : [N, N].take 2 = [N, N] := rfl
  rw [e] at o
  have e1 : (besA [N, N]).1 = N.ss ++ N.ss := by rw [bes_two]
  have e2 : (besA [N, N]).2 = twice N.ss.length N.rs := by rw [bes_two]
  have lt : (besA [N, N]).2.length = N.rs.length + N.rs.length := by rw [e2]; unfold twice; rw [List.length_append, List.length_map]
  refine ⟨?_, ?_, o.1, ?_, fun r hr => o.2 r ((sort_mem _ r).mp hr)⟩
  · show (besA [N, N]).1 ≠ []
    rw [e1]
    intro z
    exact ok.ne (List.append_eq_nil_iff.mp z).1
  · show (besA [N, N]).1.length ≤ 400
    rw [e1, List.length_append]
    omega
  · show (sortR (besA [N, N]).2).length ≤ 1000
    rw [(sortR_perm _).length_eq, lt]
    omega
theorem back_okV {N : NetV} (ok : okV N) : okV (backN N) := ⟨ok.ne, ok.l1, ok.wd, by show (sortR (N.rs.map flipR)).length ≤ 1000; rw [(sortR_perm _).length_eq, List.length_map]; exact ok.l2, fun r hr => by
  obtain ⟨t, ht, rfl⟩ := List.mem_map.mp ((sort_mem _ r).mp hr)
  exact okR_flip (ok.ok t ht)⟩
end K50
set_option maxHeartbeats 1000000
namespace Dm
open PySem PySem.Spec PyProof.Rows L2 Evl RZ Dl
theorem s_forTM {D : Md} {K : PySem.W.Frag} {σ : L2.St} {H H1 B Hc : Hp} {te : TE} {g : TG} {tb : TS} {E : Ends} {s k : Nat} {Rs : List PyData → Prop} (bs : BsM D H H1 B Hc s) (h : EvM D te σ B (fun d => ∃ ds, d = .tuple ds ∧ Rs ds) k) (l : s + k ≤ 100000)
    (kk : ∀ Hn ds wi, Rs ds → ExM D Hc Hn → D.J (s + k) Hn → EvI wi σ (gr B Hc Hn) ds → tFor wi g tb E σ Hn) : tFor (iTup K te) g tb E σ Hc := by
  unfold tFor iTup
  refine h s Hc bs.c bs.j l _ fun v Hn d rd m j t => ?_
  obtain ⟨ds, rfl, hR⟩ := rd
  cases t with
  | @tup a xs _ ha hs =>
    refine ⟨a, rfl, ⟨xs, st_of ((bs.step m j).c _ _ ha)⟩, ?_⟩
    exact kk Hn ds (fun σ H R => R (Itt K a) H) hR m j (fun H1 e R q => q _ H1 (Ex.refl _) (walk_t (gr_ex e _ _ ha) (TpAll.ex (gr_ex e) _ _ hs)))
theorem s_ifP {D : Md} {σ : L2.St} {H H1 B Hc : Hp} {t : TT} {tu tw : TS} {E : Ends} {s k : Nat} {P : Bool → Prop} (bs : BsM D H H1 B Hc s) (h : EtP D t σ B P k) (l : s + k ≤ 100000) (h1 : ∀ Hn, P true → ExM D Hc Hn → D.J (s + k) Hn → tu E σ Hn) (h2 : ∀ Hn, P false → ExM D Hc Hn → D.J (s + k) Hn → tw E σ Hn) : tIfS t tu tw E σ Hc := h s Hc bs.c bs.j l _ fun b H2 p m j2 => by
  cases b with
  | true => exact h1 H2 p m j2
  | false => exact h2 H2 p m j2
theorem em_callVX {D : Md} {σ : L2.St} {B : Hp} {te : TE} {R : Hp → V → Prop} {k : Nat} {α : Type} {pre : α → Hp → List V → Prop} {f : α → PyData} {E : XK} (a : α) (c : Cl D B) (h : EvX D te σ B R k) (hf : ∀ H v, R H v → pre a H [v]) : EvM D (tCall (spV 1 pre f) [] E (tCons te tNil)) σ B (· = f a) k := fun n H1 e j hk Q q =>
  h n H1 e j hk _ fun v H2 m2 j2 hv => ⟨gr B H1 H2, a, gr_subM c e m2, rfl, hf _ v hv, fun v3 H3 e3 t3 => q v3 H3 _ rfl (m2.trans (ExM.of e3)) (D.keep _ _ _ e3 j2) (Tp.ex (gr_grM j j2 m2 (ExM.of e3)) _ _ t3)⟩
end Dm
namespace K50
open PySem PySem.W PySem.Spec PyProof.Rows L2 LamX NdefX Evl RZ Dl Dn Dm Lz K0 Mx Ns ClX
open scoped Classical
theorem ex_pair {D : Md} {σ : L2.St} {B : Hp} {i : Nat} {v : V} {C : Addr} {N : NetV} (h0 : σ[i]? = some (some v)) (h : NetAt C N B v) : EvX D (tLst (tCons (tVar i) (tCons (tVar i) tNil))) σ B (NetsV C [N, N]) 0 := fun n H1 e j _ Q q =>
  ⟨v, h0, v, h0, show 2 ≤ sizeLine from sz_of (by decide), fun p hp => q (.ref p) _ (ExM.of (Ex.new hp)) (D.keep _ _ _ (Ex.new hp) j) ⟨[v, v], ⟨p, rfl, gr_new hp upd_same⟩, .cons (mn_net _ _ _ (gr_ex e) h) (.cons (mn_net _ _ _ (gr_ex e) h) .nil)⟩⟩
abbrev sLaw3 : Stmt := top 53
abbrev nLaw3 : List Str := ["script", "stream", "turn", "signs", "roads", "some", "net"]
theorem scLaw3 : FnScope nLaw3 ["script"] (defScope sLaw3) := ⟨rfl, rfl, rfl, by decide +kernel, rfl, by decide +kernel, by decide +kernel⟩
def spLaw (T : List (Addr × Str)) (K : PySem.W.Frag) : Sp := fun vs H Q _ => ∃ (a : Addr) (ns : List Int), vs = [.ref a] ∧ SqL K H a (ns.map V.int) ∧ ns.length ≤ 63 ∧ Tabs T H ∧ ∀ H2, Q (.bl true) H2
theorem lawN_of {n : Nat} {ss : List PyData} {rs : List Rd} (h0 : 0 < n) (h7 : n ≤ 7) (hl : ss.length = n) (hw : ∀ w ∈ ss, Wd w) (ok : ∀ r ∈ rs, okT n r) (l : rs.length ≤ 41) : LawN ss rs := ⟨by omega, by omega, hw, by rw [hl]; exact ok, by omega⟩
section
variable {P : Program} {w : World} {K : PySem.W.Frag} {mg : Str → Option Value} {base : Heap} {C : Addr}
theorem ok_law3 {T : List (Addr × Str)} {f : Addr} {fd : FuncData} (F : Fun K "law" "law" sLaw3 f fd) (B : Bl mg) (SS : CallF P w K mg base 1 "_law_start" ["script"] (spStart K)) (DR : CallF P w K mg base 1 "_law_draw" ["stream", "many"] spDraw) (NN : CallF P w K mg base 4 "_law_n_net" ["stream", "most"] (spS 1 (fun ds => ds = [.int 7]) (fun _ d => netPost d) 200))
    (DO : CallF P w K mg base 3 "_law_n_doors" ["stream", "many", "halves"] (spS 2 doPre (rdPost 40) 140)) (NE : CallF P w K mg base 2 "_law_near" ["stream", "signs", "roads"] (spS 2 nePre nePost 3)) (M : CallMk P w K mg base 6 "Net" C ["self", "signs", "roads"] (spNI T C)) (AR : CallF P w K mg base 6 "_law_all_right" ["net", "signs", "roads"] (spV 3 (arPre C) fun _ => .bool true))
    (TW : CallF P w K mg base 2 "is_two_way" ["net"] (spV 1 (okPre C) fun N => .bool (twoB N.rs))) (JO : CallF P w K mg base 3 "is_joined" ["net"] (spV 1 (okPre C) fun N => .bool (joB N.ss.length N.rs))) (ST : CallF P w K mg base 3 "is_strong" ["net"] (spV 1 (okPre C) fun N => .bool (stB N.ss.length N.rs)))
    (BK : CallF P w K mg base 8 "backward" ["net"] (spXT T 1 (okPre C) (fun N => NetAt C (backN N)) 0)) (BS : CallF P w K mg base 8 "beside" ["nets"] (spXT T 1 (besPre C) (fun Ts => NetAt C (besN Ts)) 0)) : FnOk P w K mg base CX0 9 f fd ["script"] (spLaw T K) := by
  refine F.ok scLaw3 (fun vs H Q E h => by obtain ⟨_, _, rfl, _⟩ := h; rfl) (fun cdv A outer s H vs Q E hr h => ?_)
  obtain ⟨fSS, dSS, oSS, gSS, kSS, bSS⟩ := SS
  obtain ⟨fDR, dDR, oDR, gDR, kDR, bDR⟩ := DR
  obtain ⟨fNN, dNN, oNN, gNN, kNN, bNN⟩ := NN
  obtain ⟨fDO, dDO, oDO, gDO, kDO, bDO⟩ := DO
  obtain ⟨fNE, dNE, oNE, gNE, kNE, bNE⟩ := NE
  obtain ⟨fM, dM, oM, mM, gM, bM⟩ := M
  obtain ⟨fAR, dAR, oAR, gAR, kAR, bAR⟩ := AR
  obtain ⟨fTW, dTW, oTW, gTW, kTW, bTW⟩ := TW
  obtain ⟨fJO, dJO, oJO, gJO, kJO, bJO⟩ := JO
  obtain ⟨fST, dST, oST, gST, kST, bST⟩ := ST
  obtain ⟨fBK, dBK, oBK, gBK, kBK, bBK⟩ := BK
  obtain ⟨fBS, dBS, oBS, gBS, kBS, bBS⟩ := BS
  have r1 := hr.mono (show 1 ≤ 8 by decide)
  have r2 := hr.mono (show 2 ≤ 8 by decide)
  have r3 := hr.mono (show 3 ≤ 8 by decide)
  have r4 := hr.mono (show 4 ≤ 8 by decide)
  have r6 := hr.mono (show 6 ≤ 8 by decide)
  have r7 := hr.mono (show 7 ≤ 8 by decide)
  refine ⟨_, pss_cons (ps_set (i := 1) scLaw3.nd rfl (Or.inl rfl) (pe_call oSS r1 (by rfl) gSS kSS bSS .nil pass0 (pa_cons (pv 0) pa_nil)))
    (pss_cons (ps_for PassesOwn.never rfl (pi_range1 (by rfl) B.range (pa_cons pe_int pa_nil)) (pg_name (i := 2) scLaw3.nd rfl (.inl rfl))
      (pss_cons (ps_asg (pe_call oNN r4 (by rfl) gNN kNN bNN .nil pass0 (pa_cons (pv 1) (pa_cons pe_int pa_nil))) (pg_tup rfl (pgs_cons (pg_name (i := 3) scLaw3.nd rfl (.inl rfl)) (pgs_cons (pg_name (i := 4) scLaw3.nd rfl (.inl rfl)) pgs_nil))))
      (pss_cons (ps_if (pt_cmpR op_eq (pe_call oDR r1 (by rfl) gDR kDR bDR .nil pass0 (pa_cons (pv 1) (pa_cons pe_int pa_nil))) pe_int (nomark _))
        (pss_one (ps_set (i := 4) scLaw3.nd rfl (Or.inl rfl) (pe_call oDO r3 (by rfl) gDO kDO bDO .nil pass0 (pa_cons (pv 1) (pa_cons (pe_callB call_len_seq (by rfl) B.len PySem.boot_len (pa_cons (pv 3) pa_nil)) (pa_cons (pe_cmpR op_eq (pe_call oDR r1 (by rfl) gDR kDR bDR .nil pass0 (pa_cons (pv 1) (pa_cons pe_int pa_nil))) pe_int (nomark _)) pa_nil)))))) pss_nil)
      (pss_one (ps_for PassesOwn.never rfl (pi_tup (pe_tup (pa_cons (pv 4) (pa_cons (pe_call oNE r2 (by rfl) gNE kNE bNE .nil pass0 (pa_cons (pv 1) (pa_cons (pv 3) (pa_cons (pv 4) pa_nil)))) (pa_cons (pe_call oNE r2 (by rfl) gNE kNE bNE .nil pass0 (pa_cons (pv 1) (pa_cons (pv 3) (pa_cons (pv 4) pa_nil)))) pa_nil))))) (pg_name (i := 5) scLaw3.nd rfl (.inl rfl))
        (pss_cons (ps_set (i := 6) scLaw3.nd rfl (Or.inl rfl) (pe_make mM oM r7 (by rfl) gM bM .nil pass0 (pa_cons (pv 3) (pa_cons (pv 5) pa_nil))))
        (pss_cons (ps_if (PW.pt (pw_or (pt_not (pt_val (pe_call oAR r6 (by rfl) gAR kAR bAR .nil pass0 (pa_cons (pv 6) (pa_cons (pv 3) (pa_cons (pv 5) pa_nil)))))) (pw_or1 (pt_cmpR op_ne (pe_call oST r3 (by rfl) gST kST bST .nil pass0 (pa_cons (pv 6) pa_nil)) (pe_call oST r3 (by rfl) gST kST bST .nil pass0 (pa_cons (pe_call oBK hr (by rfl) gBK kBK bBK .nil pass0 (pa_cons (pv 6) pa_nil)) pa_nil)) (by rfl))))) (pss_one (ps_ret pe_bl)) pss_nil)
        (pss_cons (ps_if (PW.pt (pw_and (pt_val (pe_call oTW r2 (by rfl) gTW kTW bTW .nil pass0 (pa_cons (pv 6) pa_nil))) (pw_and1 (pt_cmpR op_ne (pe_call oJO r3 (by rfl) gJO kJO bJO .nil pass0 (pa_cons (pv 6) pa_nil)) (pe_call oST r3 (by rfl) gST kST bST .nil pass0 (pa_cons (pv 6) pa_nil)) (by rfl))))) (pss_one (ps_ret pe_bl)) pss_nil)
        (pss_one (ps_if (PW.pt (pw_or (pt_val (pe_call oJO r3 (by rfl) gJO kJO bJO .nil pass0 (pa_cons (pe_call oBS hr (by rfl) gBS kBS bBS .nil pass0 (pa_cons (pe_lst (pa_cons (pv 6) (pa_cons (pv 6) pa_nil))) pa_nil)) pa_nil))) (pw_or1 (pt_cmpR op_ne (pe_call oTW r2 (by rfl) gTW kTW bTW .nil pass0 (pa_cons (pe_call oBS hr (by rfl) gBS kBS bBS .nil pass0 (pa_cons (pe_lst (pa_cons (pv 6) (pa_cons (pv 6) pa_nil))) pa_nil)) pa_nil)) (pe_call oTW r2 (by rfl) gTW kTW bTW .nil pass0 (pa_cons (pv 6) pa_nil)) (by rfl))))) (pss_one (ps_ret pe_bl)) pss_nil))))))))))
    (pss_one (ps_ret pe_bl))), ?_⟩
  obtain ⟨a, ns, rfl, hS, hl, hT, q⟩ := h
  refine ⟨.ref a, rfl, ?_⟩
  refine ⟨a, ns, rfl, hS, hl, fun p l H0 hp hl0 hst hsame => ?_⟩
  have j0 : (mdS p l T).J 0 H0 := ⟨⟨0, by decide, hst⟩, hT.ext hsame⟩
  have e0 : Ex (fun _ => none) H0 := fun b o h => by cases h
  have b0 : BsM (mdS p l T) (fun _ => none) H0 (fun _ => none) H0 0 := BsM.start e0 (fun b _ => rfl) j0
  refine s_forD b0.c (ei_rng1 (n := 6) (es_cons ed_int es_nil) (by decide))
    (fun B0 i σ' H' => ∃ B' s' x2 x3 x4 x5 x6, BsM (mdS p l T) (fun _ => none) H0 B' H' s' ∧ Ex B0 B' ∧ s' ≤ 400 * i ∧ σ' = [some (.ref a), some (.ref p), x2, x3, x4, x5, x6])
    (fun Hn en => ⟨_, 0, none, none, none, none, none, b0.step (ExM.of en) ((mdS p l T).keep _ _ _ en j0), Ex.refl _, by decide, rfl⟩) (fun B0 i σ' H' ⟨B', _, _, _, _, _, _, b1, b2, _⟩ => b2.trans b1.c) ?_ ?_
  · rintro B0 i d0 x σ' H' Hn hd ⟨B', s', x2, x3, x4, x5, x6, c1, c2, hs', rfl⟩ en hx2
    have c3 := c1.step (ExM.of en) ((mdS p l T).keep _ _ _ en c1.j)
    have hi : i < 6 := by
      have h1 := (List.getElem?_eq_some_iff.mp hd).1
      simpa [rngD] using h1
    refine q_asgGM c3 (k := 0 + 200) (R := netPost) (em_up (em_is (em_callS (kk := 200) (k := 0) (Rs := fun ds => ds = [.int 7]) (n := 1) c3.cl (i := 1) rfl (fun n H1 e1 j1 _ Q q => (es_cons ed_int es_nil) H1 e1 Q fun vs H2 e2 t => q vs H2 _ rfl (ExM.of e2) ((mdS p l T).keep _ _ _ e2 j1) t) fun ds hd => ⟨by rw [hd]; rfl, hd⟩) fun d ⟨ds, _, h⟩ => h) (by decide)) (by omega) fun v1 H1 d hd1 m1 j1 t1 => ?_
    have b1 := c3.step m1 j1
    obtain ⟨n, dd1, dd2, rfl, hn0, hn7, ⟨ss, rfl, hss, hsw⟩, hr2⟩ := hd1
    refine g_pair t1 b1.c fun va vb ta tb => ?_
    obtain ⟨rs0, rfl, hrs0, hrl0⟩ := hr2
    refine q_join (fun σ' H' => ∃ B2 vb', ∃ rs : List Rd, ∃ s2, BsM (mdS p l T) (fun _ => none) H0 B2 H' s2 ∧ Ex B0 B2 ∧ s2 ≤ s' + 343 ∧ Tp B2 va (.list ss) ∧ Tp B2 vb' (.list (rs.map rdD)) ∧ (∀ r ∈ rs, okT n r) ∧ rs.length ≤ 40 ∧ σ' = [some (.ref a), some (.ref p), some x, some va, some vb', x5, x6]) ?_ fun N hN => ?_
    · rintro σ2 H2 ⟨B2, vb', rs, s2, b2, c2', hs2, ta2, tb2, hrs, hrl, rfl⟩
      have near : EvM (mdS p l T) (tCall (spS 2 nePre nePost 3) [] E0 (tCons (tVar 1) (tCons (tVar 3) (tCons (tVar 4) tNil)))) [some (.ref a), some (.ref p), some x, some va, some vb', x5, x6] B2 (RdP n 41) 3 := em_up (em_is (em_callS (kk := 3) (k := 0) (Rs := fun ds => ds = [.list ss, .list (rs.map rdD)]) (n := 2) b2.cl (i := 1) rfl (fun n H1 e1 j1 _ Q q => (es_cons (ed_var (i := 3) rfl ta2) (es_cons (ed_var (i := 4) rfl tb2) es_nil)) H1 e1 Q fun vs H2 e2 t => q vs H2 _ rfl (ExM.of e2) ((mdS p l T).keep _ _ _ e2 j1) t) fun ds hd => ⟨by rw [hd]; rfl, n, _, _, hd, hn0, hn7, ⟨ss, rfl, hss, hsw⟩, rs, rfl, hrs, hrl⟩) fun d ⟨ds, hd, h⟩ => h n _ _ hd ⟨ss, rfl, hss, hsw⟩) (by decide)
      refine s_forTM b2 (k := 0 + (3 + (3 + 0))) (Rs := fun ds => ∀ d ∈ ds, RdP n 41 d) (em_is (em_tup (esm_cons b2.cl (em_of (ed_var (i := 4) rfl tb2)) (esm_cons b2.cl near (esm_cons b2.cl near esm_nil))) fun ds hds => by
          obtain ⟨d1, ds1, rfl, _, d2, ds2, rfl, _, d3, ds3, rfl, _, rfl⟩ := hds
          show 3 ≤ 100000
          decide) fun d hd => ?_) (by omega) fun H3 ds wi hRs m3 j3 hwi => ?_
      · obtain ⟨ds, rfl, d1, ds1, rfl, rfl, d2, ds2, rfl, h2, d3, ds3, rfl, h3, rfl⟩ := hd
        refine ⟨_, rfl, fun d hd => ?_⟩
        simp only [List.mem_cons, List.not_mem_nil, or_false] at hd
        rcases hd with rfl | rfl | rfl
        · exact ⟨rs, rfl, hrs, by omega⟩
        · exact h2
        · exact h3
      · have b3 := b2.step m3 j3
        refine s_forD b3.c hwi (fun B1 k σ' H' => ∃ B4 x5 x6, BsM (mdS p l T) (fun _ => none) H0 B4 H' (s2 + (0 + (3 + (3 + 0)))) ∧ Ex B0 B4 ∧ Ex B1 B4 ∧ Tp B4 va (.list ss) ∧ σ' = [some (.ref a), some (.ref p), some x, some va, some vb', x5, x6])
          (fun Hn en => ⟨_, x5, x6, b3.step (ExM.of en) ((mdS p l T).keep _ _ _ en b3.j), (c2'.trans (gr_ex b2.c)).trans (gr_ex b3.c), Ex.refl _, Tp.ex (gr_ex b3.c) _ _ (Tp.ex (gr_ex b2.c) _ _ ta2), rfl⟩) (fun B1 k σ' H' ⟨B4, _, _, b4, _, c4, _⟩ => c4.trans b4.c) ?_ ?_
        · rintro B1 k d y σ' H' Hn hd ⟨B4, y5, y6, b4, c4, c5, ta4, rfl⟩ en hy
          have b5 := b4.step (ExM.of en) ((mdS p l T).keep _ _ _ en b4.j)
          obtain ⟨rs2, rfl, hrs2, hrl2⟩ := hRs d (List.mem_of_getElem? hd)
          have ta5 := Tp.ex (gr_ex (H2 := Hn) b4.c) _ _ ta4
          have ty5 := Tp.ex (gr_mono (Hc := H') (Hn := Hn) c5) _ _ hy
          have ln := lawN_of hn0 hn7 hss hsw hrs2 hrl2
          have okv := ln.v
          have n0 := ln.n0
          have rl : (sortR rs2).length ≤ 50 := by rw [(sortR_perm rs2).length_eq]; omega
          refine q_asgX b5 (ex_make (C := C) (E := E0) (k := 0) (ss := ss) (rs := rs2) (Rs := fun ds => ds = [.list ss, .list (rs2.map rdD)]) b5.cl (fun n H1 e1 j1 _ Q q =>
            (es_cons (ed_var (i := 3) rfl ta5) (es_cons (ed_var (i := 5) rfl ty5) es_nil)) H1 e1 Q fun vs H2 e2 t => q vs H2 _ rfl (ExM.of e2) ((mdS p l T).keep _ _ _ e2 j1) t)
            fun ds hd => ⟨_, _, hd, .inl rfl, .inl rfl, okv.ne, okv.l1, hsw, by omega, fun r hr => (ln.ok r hr).1⟩) (by omega) fun v6 H6 m6 j6 t6 => ?_
          have b6 := b5.step m6 j6
          have ta6 := Tp.ex (gr_ex (H2 := H6) b5.c) _ _ ta5
          have ty6 := Tp.ex (gr_ex (H2 := H6) b5.c) _ _ ty5
          generalize hN6 : (⟨ss, sortR rs2⟩ : NetV) = N6 at t6 okv
          have e1 : N6.ss = ss := by rw [← hN6]
          have e2 : N6.rs = sortR rs2 := by rw [← hN6]
          have arg : ∀ {B' : Hp} {v : V}, NetAt C N6 B' v → ∀ H vs, (∃ v us, vs = v :: us ∧ NetAt C N6 H v ∧ us = []) → vs.length = 1 ∧ okPre C N6 H vs := fun _ H vs ⟨v, us, g1, g2, g3⟩ => by
            subst g3
            subst g1
            exact ⟨rfl, okv, v, rfl, g2⟩
          have callN : ∀ (f : NetV → PyData) (B' : Hp), NetAt C N6 B' v6 → EvD (tCall (spV 1 (okPre C) f) [] E0 (tCons (tVar 6) tNil)) [some (.ref a), some (.ref p), some x, some va, some vb', some y, some v6] B' (f N6) := fun f B' hB => ed_callV (f := f) N6 (esv_var (i := 6) (R := NetAt C N6) rfl mn_net hB esv_nil) (arg hB)
          have back : EvX (mdS p l T) (tCall (spXT T 1 (okPre C) (fun N => NetAt C (backN N)) 0) [] E0 (tCons (tVar 6) tNil)) [some (.ref a), some (.ref p), some x, some va, some vb', some y, some v6] (gr (gr B4 H' Hn) Hn H6) (NetAt C (backN N6)) (0 + 0 + 0) := ex_callXT (k := 0 + 0) b6.cl N6 (esx_cons b6.cl (ex_v (i := 6) rfl mn_net t6) mn_net esx_nil (fun _ _ _ _ h => h)) mn_net (arg t6)
          have bes : EvX (mdS p l T) (tCall (spXT T 1 (besPre C) (fun Ts => NetAt C (besN Ts)) 0) [] E0 (tCons (tLst (tCons (tVar 6) (tCons (tVar 6) tNil))) tNil)) [some (.ref a), some (.ref p), some x, some va, some vb', some y, some v6] (gr (gr B4 H' Hn) Hn H6) (NetAt C (besN [N6, N6])) (0 + 0 + 0) := ex_callXT (k := 0 + 0) b6.cl [N6, N6] (esx_cons b6.cl (ex_pair (i := 6) rfl t6) mn_nets esx_nil (fun _ _ _ _ h => h)) mn_net fun H vs ⟨v, us, g1, g2, g3⟩ => by
            subst g3
            subst g1
            have o2 := bes_okV okv (by rw [e1]; exact ln.n7) (by rw [e2]; exact rl)
            exact ⟨rfl, ⟨by simp, show 2 ≤ 1000 by decide, ⟨v, rfl, g2⟩, fun M hM => by
              simp only [List.mem_cons, List.not_mem_nil, or_false] at hM
              rcases hM with rfl | rfl <;> exact okv, o2.l1, by
              have := o2.l2
              unfold besN at this
              rw [(sortR_perm _).length_eq] at this
              exact this⟩⟩
          have okb := back_okV okv
          have oks := bes_okV okv (by rw [e1]; exact ln.n7) (by rw [e2]; exact rl)
          refine q_whenM b6 (b := !true || (stB N6.ss.length N6.rs != stB N6.ss.length N6.rs)) (k := 0 + (0 + (0 + 0 + 0))) (tm_or b6.cl (tm_not (tm_B (em_of (ed_callV (f := fun _ => .bool true) (ss, rs2) (esv_var (i := 6) (R := NetAt C N6) rfl mn_net t6 (esv_var (i := 3) (R := fun H v => Tp H v (.list ss)) rfl mn_tp ta6 (esv_var (i := 5) (R := fun H v => Tp H v (.list (rs2.map rdD))) rfl mn_tp ty6 esv_nil))) fun H vs hh => by
              obtain ⟨w1, us1, rfl, g1, w2, us2, rfl, g2, w3, us3, rfl, g3, rfl⟩ := hh
              rw [← hN6] at g1
              exact ⟨rfl, ln, w1, w2, w3, rfl, g1, g2, g3⟩)))) fun _ => tm_D (em_op b6.cl (em_of (callN (fun N => .bool (stB N.ss.length N.rs)) _ t6)) (em_callVX (f := fun N : NetV => .bool (stB N.ss.length N.rs)) (backN N6) b6.cl back fun H v hv => ⟨okb, v, rfl, hv⟩) fun u1 u2 h1 h2 => by
              subst h1
              subst h2
              refine ⟨_, Dl.rd_neB, ?_⟩
              have sb : stB (backN N6).ss.length (backN N6).rs = stB N6.ss.length N6.rs := st_back N6.ss.length N6.rs
              rw [sb])) (by omega) (fun hb => by simp at hb) fun _ H7 m7 j7 => ?_
          have b7 := b6.keepB m7 j7
          refine q_whenD b7.c (b := twoB N6.rs && (joB N6.ss.length N6.rs != stB N6.ss.length N6.rs)) (et_and (et_BD (callN (fun N => .bool (twoB N.rs)) _ t6)) (et_D (ed_op (callN (fun N => .bool (joB N.ss.length N.rs)) _ t6) (callN (fun N => .bool (stB N.ss.length N.rs)) _ t6) Dl.rd_neB))) (fun hb => ?_) (fun _ H8 e8 => ?_)
          · exfalso
            rw [Bool.and_eq_true] at hb
            rw [two_strong hb.1] at hb
            simp at hb
          · have b8 := b7.keepB (ExM.of e8) ((mdS p l T).keep _ _ _ e8 b7.j)
            refine s_whenM b8 (b := false || (twoB N6.rs != twoB N6.rs)) (k := (0 + 0 + 0) + ((0 + 0 + 0) + 0)) (tm_or b8.cl (tm_B (em_is (em_callVX (f := fun N : NetV => .bool (joB N.ss.length N.rs)) (besN [N6, N6]) b6.cl bes fun H v hv => ⟨oks, v, rfl, hv⟩) fun d hd => by rw [hd, bes_jo okv])) fun _ => tm_D (em_op b8.cl (em_callVX (f := fun N : NetV => .bool (twoB N.rs)) (besN [N6, N6]) b6.cl bes fun H v hv => ⟨oks, v, rfl, hv⟩) (em_of (callN (fun N => .bool (twoB N.rs)) _ t6)) fun u1 u2 h1 h2 => by
              subst h1
              subst h2
              refine ⟨_, Dl.rd_neB, ?_⟩
              rw [bes_tw okv])) (by omega) (fun hb => by simp at hb) fun _ H9 m9 j9 => ?_
            exact ⟨_, some y, some v6, b8.keepB m9 j9, (c4.trans (gr_ex b4.c)).trans (gr_ex b5.c), (c5.trans (gr_ex b4.c)).trans (gr_ex b5.c), ta6, rfl⟩
        · rintro B1 σ' H' ⟨B4, y5, y6, b4, c4, c5, ta4, rfl⟩
          exact ⟨B4, _, _, _, _, _, _, b4, c4, by omega, rfl⟩
    · refine s_ifP b1 (k := 1 + 0) (P := fun _ => True) (tp_D (em_op b1.cl (em_drawN (m := 2) b1.cl rfl ed_int (by decide) (by decide)) (em_of ed_int) fun u1 u2 h1 h2 => by
          obtain ⟨j, rfl, _⟩ := h1
          subst h2
          exact ⟨_, rd_eqI, _, rfl⟩)) (by omega) (fun H2 _ m2 j2 => ?_) fun H2 _ m2 j2 => ?_
      · have b2 := b1.step m2 j2
        have ta2 := Tp.ex (gr_ex (H2 := H2) b1.c) _ _ ta
        refine s_asgM b2 (k := (1 + 0) + 140) (R := RdP n 40) (em_do b2.cl rfl (ed_is (ed_cb (es_cons (ed_var (i := 3) rfl ta2) es_nil) (rc_lenL (K := K))) (by rw [hss])) (em_op b2.cl (em_drawN (m := 2) b2.cl rfl ed_int (by decide) (by decide)) (em_of ed_int) fun u1 u2 h1 h2 => by
          obtain ⟨j, rfl, _⟩ := h1
          subst h2
          exact ⟨_, rd_eqI, _, rfl⟩) hn0 hn7) (by omega) fun v4 H3 d3 hd3 m3 j3 t3 => ?_
        obtain ⟨rs, rfl, hrs, hrl⟩ := hd3
        exact hN _ _ ⟨_, v4, rs, _, b2.step m3 j3, ((((c2.trans (gr_ex c1.c)).trans (gr_ex c3.c)).trans (gr_ex b1.c)).trans (gr_ex b2.c)), by omega, Tp.ex (gr_ex b2.c) _ _ ta2, t3, hrs, hrl, rfl⟩
      · have b2 := b1.step m2 j2
        exact hN _ _ ⟨_, vb, rs0, _, b2, ((c2.trans (gr_ex c1.c)).trans (gr_ex c3.c)).trans (gr_ex b1.c), by omega, Tp.ex (gr_ex b1.c) _ _ ta, Tp.ex (gr_ex b1.c) _ _ tb, hrs0, hrl0, rfl⟩
  · rintro B0 σ' H' ⟨B', s', x2, x3, x4, x5, x6, c1, c2, hs', rfl⟩
    exact q H'
end
end K50
set_option maxHeartbeats 4000000
namespace K50
open PySem PySem.W PySem.Spec PyProof.Rows L2 LamX NdefX Evl RZ Dl Dn Dm Lz K0 Mx Ns ClX
/-! ### the defs as the top leaves them -/
def dfA : List (Str × Nat) := [("is_integer", 13), ("is_number", 14), ("is_row", 15), ("read_word", 16), ("_built", 17), ("grouped", 18), ("lots_of", 19), ("is_two_way", 21), ("is_joined", 22), ("is_strong", 23), ("reached", 24), ("read_signs", 28), ("read_any_signs", 29), ("read_roads", 30), ("_read_road", 31)]
def dfB : List (Str × Nat) := [("is_place_of", 32), ("need_nets", 34), ("beside", 35), ("backward", 36), ("_law_start", 38), ("_law_draw", 39), ("_law_pick", 40), ("_law_mixed", 41), ("_law_same", 42), ("_law_each_once", 43), ("_law_n_signs", 44), ("_law_n_crowd", 45), ("_law_n_doors", 46), ("_law_n_row", 47), ("_law_n_net", 48)]
def dfC : List (Str × Nat) := [("_law_is_two_way", 49), ("_law_reached", 50), ("_law_all_right", 51), ("_law_near", 52), ("law", 53)]
def dfL : List (Str × Nat) := dfA ++ (dfB ++ dfC)
/-- methods: the class, the name, the full name, the text -/
def dfM : List (Str × Str × Str × Stmt) := [("Ground", "__init__", "Ground.__init__", sGInit), ("Net", "road_keys", "Ground.road_keys", sRoadKeys), ("Net", "__init__", "Net.__init__", sNInit), ("Net", "__len__", "Net.__len__", sNLen), ("Net", "signs", "Net.signs", sNSigns), ("Net", "roads", "Net.roads", sNRoads)]
def dD (nm : Str) (i : Nat) : He.DefD := ⟨(nm, none), nm, nm, defArgs (top i), defBody (top i), defScope (top i), [], []⟩
def dM (p : Str × Str × Str × Stmt) : He.DefD := ⟨(p.1, some p.2.1), p.2.1, p.2.2.1, defArgs p.2.2.2, defBody p.2.2.2, defScope p.2.2.2, [], []⟩
def fnS : List He.DefD := (dfL.map fun p => dD p.1 p.2) ++ dfM.map dM
def frS : List He.Fa := [.free "list", .free "tuple", .free "int", .free "bool", .free "len", .free "range", .free "isinstance", .free "enumerate", .free "all", .free "sum", .free "sorted", .free "zip", .free "reversed", .free "dict", .free "max", .free "min", .free "str"]
def inS : List He.Fa := [.int "DEEPEST" 5000, .int "END_MARK" 0, .int "INTEGER_MARK" 1, .int "STRING_MARK" 2, .int "TUPLE_MARK" 3]
def clS : List He.Fa := [.glo "Net", .glo "Ground", .cls "Net", .noat "Net" "_signs", .noat "Net" "_sign_keys", .noat "Net" "_roads", .noat "Net" "_road_keys", .meth "Net" "signs", .meth "Net" "roads", .meth "Net" "road_keys", .meth "Net" "__len__", .mkr "Net"]
def faS : List He.Fa := (dfL.map fun p => He.Fa.glo p.1) ++ (frS ++ (inS ++ clS))
def rrD : He.Defn := ("read_roads", none)
def tabN (K : PySem.W.Frag) : List (Addr × Str) := [((He.cT K rrD).2, ("read_roads" : Str) ++ ".<locals>." ++ "<lambda>")]
def yes (K : PySem.W.Frag) : Bool := He.eqO (PySem.W.findIn K (.ref (He.ga K "Net")) "__class__") (some (some (.builtin "object.__class__"))) && (He.eqO (PySem.W.specialIn K (.builtin "object.__class__") "__get__") (some (some (.builtin "getset_descriptor.__get__"))) &&
  (decide (PySem.W.takesIn K (.builtin "object.__class__") = some true) && (decide (PySem.W.mroIn K (He.ga K "Net") (.type "object") = some true) && (decide (PySem.W.kitOne K (.ref (He.ga K "Net")) (.ref (He.ga K "Net")) = some true) &&
  (PySem.W.readsIn K (He.ga K "Ground") (.type "type") && (He.eqO (PySem.W.specialIn K (.ref (He.ga K "Ground")) "__getattribute__") (some (some (.builtin "type.__getattribute__"))) && (match PySem.W.findCls K (.ref (He.ga K "Ground")) (.type "type") "__init__" with
    | some (.val u) => decide (u = .ref (He.ma K (He.ga K "Ground") "__init__"))
    | _ => false)))))))
theorem toFunK {K : PySem.W.Frag} {x q : Str} {st : Stmt} {f : Addr} {fd : FuncData} {kws : List (Str × V)} (F : FunD K x q (defArgs st) (defBody st) (defScope st) [] kws f fd) : Fun K x q st f fd := by
  obtain ⟨⟨oc, od, dV, kV, doc, pm, an, cdv, ct, osl, e, lk, hcd, hD, hK⟩, kp⟩ := F
  have z : dV = .none := by
    rcases hD with ⟨_, h⟩ | ⟨h, _⟩
    · exact h
    · exact absurd rfl h
  subst z
  exact ⟨⟨oc, od, kV, doc, pm, an, cdv, ct, osl, e, lk, hcd⟩, kp⟩
theorem toFunC {K : PySem.W.Frag} {x q : Str} {st : Stmt} {fd : FuncData} {p : Str × Option Str} (F : Fun K x q st (He.fAd K p) fd) : FunC K x q st (He.fAd K p) (He.codeOf K p) fd := by
  obtain ⟨⟨oc, od, kV, doc, pm, an, cdv, ct, osl, rfl, lk, hcd⟩, kp⟩ := F
  obtain ⟨cc, rfl⟩ := He.codeIn_ref hcd
  have e : He.codeOf K p = cc := He.codeOf_eq lk rfl
  rw [e]
  exact ⟨⟨oc, od, kV, doc, pm, an, ct, osl, rfl, lk, hcd⟩, kp⟩
section
variable {P : Program} {w : World} {K : PySem.W.Frag} {mg : Str → Option Value} {base : Heap}
theorem def_of (c : He.SaysD faS fnS K) {nm : Str} {j : Nat} (h : (nm, j) ∈ dfL) : ∃ fd, Fun K nm nm (top j) (He.fAd K (nm, none)) fd := by
  obtain ⟨fd, F⟩ := c.defs (d := dD nm j) (List.mem_append_left _ (List.mem_map.mpr ⟨_, h, rfl⟩))
  exact ⟨fd, toFunK F⟩
theorem met_of (c : He.SaysD faS fnS K) {C m q : Str} {st : Stmt} (h : (C, m, q, st) ∈ dfM) : ∃ fd, Fun K m q st (He.ma K (He.ga K C) m) fd := by
  obtain ⟨fd, F⟩ := c.defs (d := dM (C, m, q, st)) (List.mem_append_right _ (List.mem_map.mpr ⟨_, h, rfl⟩))
  exact ⟨fd, toFunK F⟩
theorem glo_of (c : He.SaysD faS fnS K) (X : K.In base) (G : base.Ns mainGlobals mg) {nm : Str} {j : Nat} (h : (nm, j) ∈ dfL) : mg nm = some (.ref (He.fAd K (nm, none))) := He.glo_ok X G (c.facts (List.mem_append_left _ (List.mem_map.mpr ⟨_, h, rfl⟩)))
theorem free_of (c : He.SaysD faS fnS K) (X : K.In base) (G : base.Ns mainGlobals mg) {nm : Str} (h : He.Fa.free nm ∈ frS) : mg nm = none := He.free_ok X G (c.facts (List.mem_append_right _ (List.mem_append_left _ h)))
theorem cl_of (c : He.SaysD faS fnS K) {f : He.Fa} (h : f ∈ clS) : f.ok K = true := c.facts (List.mem_append_right _ (List.mem_append_right _ (List.mem_append_right _ h)))
theorem callF (c : He.SaysD faS fnS K) (X : K.In base) (G : base.Ns mainGlobals mg) {nm : Str} {j k : Nat} {ps : List Str} {sp : Sp} (h : (nm, j) ∈ dfL)
    (hb : ∀ (kV doc pm : Value) (an : Option Addr) (cdv ct : Value) (us : List Value), us.length = ps.length → bindArgs (PySem.W.fnOf nm nm (defArgs (top j)) (defBody (top j)) (defScope (top j)) .none kV doc pm an cdv ct) ⟨us, []⟩ = pure (ps.zip us))
    (ok : ∀ (f : Addr) (fd : FuncData), Fun K nm nm (top j) f fd → mg nm = some (.ref f) → PySem.W.keepIn K (.ref f) = true → L2.Binds K fd ps [] → FnOk P w K mg base CX0 k f fd ps sp) : CallF P w K mg base k nm ps sp := by
  obtain ⟨fd, F⟩ := def_of c h
  have g := glo_of c X G h
  have b : L2.Binds K fd ps [] := by
    obtain ⟨oc, od, kV, doc, pm, an, cdv, ct, osl, rfl, lk, hcd⟩ := F.ex
    exact Binds.all (hb kV doc pm an cdv ct)
  exact ⟨_, fd, ok _ fd F g F.kp b, g, F.kp, b⟩
theorem bind_of {x q : Str} {st : Stmt} {f : Addr} {fd : FuncData} {ps : List Str} (F : Fun K x q st f fd) (hb : ∀ (kV doc pm : Value) (an : Option Addr) (cdv ct : Value) (us : List Value), us.length = ps.length → bindArgs (PySem.W.fnOf x q (defArgs st) (defBody st) (defScope st) .none kV doc pm an cdv ct) ⟨us, []⟩ = pure (ps.zip us)) : L2.Binds K fd ps [] := by
  obtain ⟨oc, od, kV, doc, pm, an, cdv, ct, osl, rfl, lk, hcd⟩ := F.ex
  exact Binds.all (hb kV doc pm an cdv ct)
theorem bl_of (c : He.SaysD faS fnS K) (X : K.In base) (G : base.Ns mainGlobals mg) : Bl mg := by
  refine ⟨?_, ?_, ?_, ?_, ?_, ?_, ?_, ?_, ?_, ?_, ?_, ?_, ?_, ?_, ?_, ?_⟩ <;> exact free_of c X G (by simp [frS])
theorem cs_of (c : He.SaysD faS fnS K) (X : K.In base) (G : base.Ns mainGlobals mg) : Cs mg := by
  have f : ∀ {f : He.Fa}, f ∈ inS → f.ok K = true := fun h => c.facts (List.mem_append_right _ (List.mem_append_right _ (List.mem_append_left _ h)))
  exact ⟨He.int_ok X G (f (by simp [inS])), He.int_ok X G (f (by simp [inS])), He.int_ok X G (f (by simp [inS])), He.int_ok X G (f (by simp [inS])), He.int_ok X G (f (by simp [inS]))⟩
theorem net_of (c : He.SaysD faS fnS K) : NetK K (He.ga K "Net") := ⟨He.cls_ok (cl_of c (by simp [clS])), He.noat_ok (cl_of c (by simp [clS])), He.noat_ok (cl_of c (by simp [clS])), He.noat_ok (cl_of c (by simp [clS])), He.noat_ok (cl_of c (by simp [clS]))⟩
theorem ins_of (c : He.SaysD faS fnS K) (y : yes K = true) : C8.InsC K (He.ga K "Net") := by
  unfold yes at y
  obtain ⟨h1, y⟩ := He.ba y
  obtain ⟨h2, y⟩ := He.ba y
  obtain ⟨h3, y⟩ := He.ba y
  obtain ⟨h4, y⟩ := He.ba y
  obtain ⟨h5, y⟩ := He.ba y
  exact ⟨(net_of c).cl, He.eqO_ok h1, He.eqO_ok h2, of_decide_eq_true h3, of_decide_eq_true h4, of_decide_eq_true h5⟩
theorem gro_of (y : yes K = true) : CRead K (He.ga K "Ground") (.type "type") ∧ CVal K (He.ga K "Ground") (.type "type") "__init__" (.ref (He.ma K (He.ga K "Ground") "__init__")) (.ref (He.ma K (He.ga K "Ground") "__init__")) := by
  unfold yes at y
  obtain ⟨h1, y⟩ := He.ba y
  obtain ⟨h2, y⟩ := He.ba y
  obtain ⟨h3, y⟩ := He.ba y
  obtain ⟨h4, y⟩ := He.ba y
  obtain ⟨h5, y⟩ := He.ba y
  obtain ⟨h6, y⟩ := He.ba y
  obtain ⟨h7, y⟩ := He.ba y
  refine ⟨⟨h6, He.eqO_ok h7⟩, ⟨?_, rfl⟩⟩
  split at y
  · rename_i u e
    rw [e, of_decide_eq_true y]
  · cases y
end
end K50
set_option maxHeartbeats 4000000
namespace K50
open PySem PySem.W PySem.Spec PyProof.Rows L2 LamX NdefX Evl RZ Dl Dn Dm Lz K0 Mx Ns ClX
section
variable {P : Program} {w : World} {K : PySem.W.Frag} {mg : Str → Option Value} {base : Heap}
theorem law_of (c : He.SaysD faS fnS K) (y : yes K = true) (X : K.In base) (G : base.Ns mainGlobals mg) (TB : TabB base mg (He.cT K rrD).1 (He.cT K rrD).2) {fd : FuncData} (FL : Fun K "law" "law" sLaw3 (He.fAd K ("law", none)) fd) :
    FnOk P w K mg base CX0 9 (He.fAd K ("law", none)) fd ["script"] (spLaw (tabN K) K) := by
  have B := bl_of c X G
  have Cc := cs_of c X G
  have hStr : mg "str" = none := free_of c X G (by simp [frS])
  have TN : TabN base mg (He.cT K rrD).1 (He.cT K rrD).2 (tabN K) "read_roads" := ⟨TB, List.mem_singleton.mpr rfl, fun p hp _ => by rw [List.mem_singleton.mp hp]⟩
  have hC := net_of c
  have hI := ins_of c y
  have gNet : mg "Net" = some (.ref (He.ga K "Net")) := He.glo_ok X G (cl_of c (by simp [clS]))
  have gGro : mg "Ground" = some (.ref (He.ga K "Ground")) := He.glo_ok X G (cl_of c (by simp [clS]))
  have mkN := He.mkr_ok (cl_of c (f := .mkr "Net") (by simp [clS]))
  have I : CallF P w K mg base 1 "is_integer" ["thing"] (spP 1 rInteger) := callF (j := 13) c X G (by decide +kernel) (fun _ _ _ _ _ _ us hl => match us, hl with | [_], _ => rfl) fun f fd F g k b => ok_integer F B
  have NU : CallF P w K mg base 2 "is_number" ["thing"] (spP 1 rNumber) := callF (j := 14) c X G (by decide +kernel) (fun _ _ _ _ _ _ us hl => match us, hl with | [_], _ => rfl) fun f fd F g k b => ok_number F I
  have RW : CallF P w K mg base 1 "is_row" ["thing"] (spP 1 rRow) := callF (j := 15) c X G (by decide +kernel) (fun _ _ _ _ _ _ us hl => match us, hl with | [_], _ => rfl) fun f fd F g k b => ok_row F B
  have RWV : CallF P w K mg base 1 "is_row" ["thing"] (spV 1 lstPre fun _ => .bool true) := callF (j := 15) c X G (by decide +kernel) (fun _ _ _ _ _ _ us hl => match us, hl with | [_], _ => rfl) fun f fd F g k b => ok_rowV F B
  have BU : CallF P w K mg base 1 "_built" ["flat"] (spP 1 rBuilt) := callF (j := 17) c X G (by decide +kernel) (fun _ _ _ _ _ _ us hl => match us, hl with | [_], _ => rfl) fun f fd F g k b => ok_built F B Cc
  have RD : CallF P w K mg base 2 "read_word" ["thing"] (spP 1 rRead) := callF (j := 16) c X G (by decide +kernel) (fun _ _ _ _ _ _ us hl => match us, hl with | [_], _ => rfl) fun f fd F g k b => ok_read F B hStr Cc I RW BU
  have RA : CallF P w K mg base 3 "read_any_signs" ["signs"] (spP 1 rRS) := callF (j := 29) c X G (by decide +kernel) (fun _ _ _ _ _ _ us hl => match us, hl with | [_], _ => rfl) fun f fd F g k b => ok_rany F B RW RD
  have RG : CallF P w K mg base 4 "read_signs" ["signs"] (spP 1 rRS) := callF (j := 28) c X G (by decide +kernel) (fun _ _ _ _ _ _ us hl => match us, hl with | [_], _ => rfl) fun f fd F g k b => ok_rsigns F RA
  have PL : CallF P w K mg base 3 "is_place_of" ["many", "thing"] (spP 2 rPlaceOf) := callF (j := 32) c X G (by decide +kernel) (fun _ _ _ _ _ _ us hl => match us, hl with | [_, _], _ => rfl) fun f fd F g k b => ok_placeof F NU
  have RR : CallF P w K mg base 4 "_read_road" ["thing", "many"] (spP 2 rRRoad) := callF (j := 31) c X G (by decide +kernel) (fun _ _ _ _ _ _ us hl => match us, hl with | [_, _], _ => rfl) fun f fd F g k b => ok_rroad F B RW RD PL
  have RS : CallF P w K mg base 5 "read_roads" ["roads", "many"] (spT (tabN K) 2 rrPre rrPost) := by
    have h : (("read_roads" : Str), 30) ∈ dfL := by decide +kernel
    obtain ⟨fd, F⟩ := def_of c h
    have g := glo_of c X G h
    have b : L2.Binds K fd ["roads", "many"] [] := bind_of F fun _ _ _ _ _ _ us hl => match us, hl with | [_, _], _ => rfl
    exact ⟨_, fd, ok_rroads (toFunC F) B TN RW RR, g, F.kp, b⟩
  have GI : CallC P w K mg base 1 "Ground" "__init__" ["self", "sign_pairs", "road_pairs"] (spGI (He.ga K "Net")) := by
    obtain ⟨fd, F⟩ := met_of (q := "Ground.__init__") (st := sGInit) c (C := "Ground") (m := "__init__") (by simp [dfM])
    have b : L2.Binds K fd ["self", "sign_pairs", "road_pairs"] [] := bind_of F fun _ _ _ _ _ _ us hl => match us, hl with | [_, _, _], _ => rfl
    exact ⟨_, _, _, fd, ok_ginit F B hC, (gro_of y).1, (gro_of y).2, gGro, F.kp, b⟩
  have NI : CallMk P w K mg base 6 "Net" (He.ga K "Net") ["self", "signs", "roads"] (spNI (tabN K) (He.ga K "Net")) := by
    obtain ⟨fd, F⟩ := met_of (q := "Net.__init__") (st := sNInit) c (C := "Net") (m := "__init__") (by simp [dfM])
    have b : L2.Binds K fd ["self", "signs", "roads"] [] := bind_of F fun _ _ _ _ _ _ us hl => match us, hl with | [_, _, _], _ => rfl
    exact ⟨_, fd, ok_ninit F B GI RG RS, mkN, gNet, b⟩
  have MS : CallM P w K mg base 1 (He.ga K "Net") "signs" ["self"] (spV 1 (netPre (He.ga K "Net")) fun N => .list N.ss) := by
    obtain ⟨fd, F⟩ := met_of (q := "Net.signs") (st := sNSigns) c (C := "Net") (m := "signs") (by simp [dfM])
    have b : L2.Binds K fd ["self"] [] := bind_of F fun _ _ _ _ _ _ us hl => match us, hl with | [_], _ => rfl
    exact ⟨_, fd, ok_nsigns F B hC, He.meth_ok (cl_of c (by simp [clS])), b⟩
  have MR : CallM P w K mg base 1 (He.ga K "Net") "roads" ["self"] (spV 1 (netPre (He.ga K "Net")) fun N => .list (N.rs.map rdD)) := by
    obtain ⟨fd, F⟩ := met_of (q := "Net.roads") (st := sNRoads) c (C := "Net") (m := "roads") (by simp [dfM])
    have b : L2.Binds K fd ["self"] [] := bind_of F fun _ _ _ _ _ _ us hl => match us, hl with | [_], _ => rfl
    exact ⟨_, fd, ok_nroads F B hC, He.meth_ok (cl_of c (by simp [clS])), b⟩
  have MK : CallM P w K mg base 1 (He.ga K "Net") "road_keys" ["self"] (spV 1 (netPre (He.ga K "Net")) fun N => .list (N.rs.map rkD)) := by
    obtain ⟨fd, F⟩ := met_of (q := "Ground.road_keys") (st := sRoadKeys) c (C := "Net") (m := "road_keys") (by simp [dfM])
    have b : L2.Binds K fd ["self"] [] := bind_of F fun _ _ _ _ _ _ us hl => match us, hl with | [_], _ => rfl
    exact ⟨_, fd, ok_nkeys F B hC, He.meth_ok (cl_of c (by simp [clS])), b⟩
  have LN : CallLen P w K mg base (He.ga K "Net") := by
    obtain ⟨fd, F⟩ := met_of (q := "Net.__len__") (st := sNLen) c (C := "Net") (m := "__len__") (by simp [dfM])
    have b : L2.Binds K fd ["self"] [] := bind_of F fun _ _ _ _ _ _ us hl => match us, hl with | [_], _ => rfl
    have m := He.meth_ok (cl_of c (f := .meth "Net" "__len__") (by simp [clS]))
    exact ⟨_, fd, ok_nlen F B hC, m.at_, m.fn, b⟩
  have GR : CallF P w K mg base 1 "grouped" ["labels"] (spW 1 grpPre grpPost) := callF (j := 18) c X G (by decide +kernel) (fun _ _ _ _ _ _ us hl => match us, hl with | [_], _ => rfl) fun f fd F g k b => ok_grouped F B
  have LO : CallF P w K mg base 2 "lots_of" ["many", "pairs"] (spW 2 lotsPre lotsPost) := callF (j := 19) c X G (by decide +kernel) (fun _ _ _ _ _ _ us hl => match us, hl with | [_, _], _ => rfl) fun f fd F g k b => ok_lots F B GR
  have RE : CallF P w K mg base 1 "reached" ["many", "pairs", "start"] (spW 3 rchPre rchPost) := callF (j := 24) c X G (by decide +kernel) (fun _ _ _ _ _ _ us hl => match us, hl with | [_, _, _], _ => rfl) fun f fd F g k b => ok_reached F B
  have TW : CallF P w K mg base 2 "is_two_way" ["net"] (spV 1 (okPre (He.ga K "Net")) fun N => .bool (twoB N.rs)) := callF (j := 21) c X G (by decide +kernel) (fun _ _ _ _ _ _ us hl => match us, hl with | [_], _ => rfl) fun f fd F g k b => ok_twoway F B hC MK
  have JO : CallF P w K mg base 3 "is_joined" ["net"] (spV 1 (okPre (He.ga K "Net")) fun N => .bool (joB N.ss.length N.rs)) := callF (j := 22) c X G (by decide +kernel) (fun _ _ _ _ _ _ us hl => match us, hl with | [_], _ => rfl) fun f fd F g k b => ok_joined F B hC MR LN LO
  have ST : CallF P w K mg base 3 "is_strong" ["net"] (spV 1 (okPre (He.ga K "Net")) fun N => .bool (stB N.ss.length N.rs)) := callF (j := 23) c X G (by decide +kernel) (fun _ _ _ _ _ _ us hl => match us, hl with | [_], _ => rfl) fun f fd F g k b => ok_strong F B hC MR LN RE
  have NE : CallF P w K mg base 2 "need_nets" ["nets"] (spW 1 (needPre (He.ga K "Net")) (NetsV (He.ga K "Net"))) := callF (j := 34) c X G (by decide +kernel) (fun _ _ _ _ _ _ us hl => match us, hl with | [_], _ => rfl) fun f fd F g k b => ok_need F B hC hI gNet mkN.kp RWV
  have BS : CallF P w K mg base 8 "beside" ["nets"] (spXT (tabN K) 1 (besPre (He.ga K "Net")) (fun Ts => NetAt (He.ga K "Net") (besN Ts)) 0) := callF (j := 35) c X G (by decide +kernel) (fun _ _ _ _ _ _ us hl => match us, hl with | [_], _ => rfl) fun f fd F g k b => ok_beside F B hC NE MS MR NI
  have BK : CallF P w K mg base 8 "backward" ["net"] (spXT (tabN K) 1 (okPre (He.ga K "Net")) (fun N => NetAt (He.ga K "Net") (backN N)) 0) := callF (j := 36) c X G (by decide +kernel) (fun _ _ _ _ _ _ us hl => match us, hl with | [_], _ => rfl) fun f fd F g k b => ok_backward F hC MS MR NI
  have SS : CallF P w K mg base 1 "_law_start" ["script"] (spStart K) := callF (j := 38) c X G (by decide +kernel) (fun _ _ _ _ _ _ us hl => match us, hl with | [_], _ => rfl) fun f fd F g k b => ok_start F B
  have DR : CallF P w K mg base 1 "_law_draw" ["stream", "many"] (spDraw) := callF (j := 39) c X G (by decide +kernel) (fun _ _ _ _ _ _ us hl => match us, hl with | [_, _], _ => rfl) fun f fd F g k b => ok_draw F B
  have PI : CallF P w K mg base 2 "_law_pick" ["stream", "some"] (spS 1 pickPre pickPost 1) := callF (j := 40) c X G (by decide +kernel) (fun _ _ _ _ _ _ us hl => match us, hl with | [_, _], _ => rfl) fun f fd F g k b => ok_pick F B DR
  have MX : CallF P w K mg base 2 "_law_mixed" ["stream", "some"] (spMx) := callF (j := 41) c X G (by decide +kernel) (fun _ _ _ _ _ _ us hl => match us, hl with | [_, _], _ => rfl) fun f fd F g k b => ok_mixed F B DR
  have SA : CallF P w K mg base 5 "_law_same" ["found", "due"] (spP 2 (rSame 4)) := callF (j := 42) c X G (by decide +kernel) (fun _ _ _ _ _ _ us hl => match us, hl with | [_, _], _ => rfl) fun f fd F g k b => ok_same F B g k b 4
  have ON : CallF P w K mg base 1 "_law_each_once" ["things"] (spP 1 rOnce) := callF (j := 43) c X G (by decide +kernel) (fun _ _ _ _ _ _ us hl => match us, hl with | [_], _ => rfl) fun f fd F g k b => ok_once F
  have SG : CallF P w K mg base 3 "_law_n_signs" ["stream", "many"] (spS 1 sgPre sgPost 8) := callF (j := 44) c X G (by decide +kernel) (fun _ _ _ _ _ _ us hl => match us, hl with | [_, _], _ => rfl) fun f fd F g k b => ok_nsigns2 F B PI
  have CR : CallF P w K mg base 3 "_law_n_crowd" ["stream", "many"] (spS 1 nnPre (rdPost 20) 80) := callF (j := 45) c X G (by decide +kernel) (fun _ _ _ _ _ _ us hl => match us, hl with | [_, _], _ => rfl) fun f fd F g k b => ok_crowd F B DR PI
  have DO : CallF P w K mg base 3 "_law_n_doors" ["stream", "many", "halves"] (spS 2 doPre (rdPost 40) 140) := callF (j := 46) c X G (by decide +kernel) (fun _ _ _ _ _ _ us hl => match us, hl with | [_, _, _], _ => rfl) fun f fd F g k b => ok_doors F B DR MX
  have RO : CallF P w K mg base 3 "_law_n_row" ["stream", "many"] (spS 1 nnPre (rdPost 20) 8) := callF (j := 47) c X G (by decide +kernel) (fun _ _ _ _ _ _ us hl => match us, hl with | [_, _], _ => rfl) fun f fd F g k b => ok_nrow F B DR MX
  have NN : CallF P w K mg base 4 "_law_n_net" ["stream", "most"] (spS 1 (fun ds => ds = [.int 7]) (fun _ d => netPost d) 200) := callF (j := 48) c X G (by decide +kernel) (fun _ _ _ _ _ _ us hl => match us, hl with | [_, _], _ => rfl) fun f fd F g k b => ok_nnet F DR MX SG CR DO RO
  have LT : CallF P w K mg base 2 "_law_is_two_way" ["roads"] (spP 1 rLTW) := callF (j := 49) c X G (by decide +kernel) (fun _ _ _ _ _ _ us hl => match us, hl with | [_], _ => rfl) fun f fd F g k b => ok_lawTW F B ON
  have LR : CallF P w K mg base 2 "_law_reached" ["start", "pairs"] (spW 2 lrPre lrPost) := callF (j := 50) c X G (by decide +kernel) (fun _ _ _ _ _ _ us hl => match us, hl with | [_, _], _ => rfl) fun f fd F g k b => ok_lawR F B ON
  have AR : CallF P w K mg base 6 "_law_all_right" ["net", "signs", "roads"] (spV 3 (arPre (He.ga K "Net")) fun _ => .bool true) := callF (j := 51) c X G (by decide +kernel) (fun _ _ _ _ _ _ us hl => match us, hl with | [_, _, _], _ => rfl) fun f fd F g k b => ok_allR F B TW JO ST LT LR SA
  have NR : CallF P w K mg base 2 "_law_near" ["stream", "signs", "roads"] (spS 2 nePre nePost 3) := callF (j := 52) c X G (by decide +kernel) (fun _ _ _ _ _ _ us hl => match us, hl with | [_, _, _], _ => rfl) fun f fd F g k b => ok_near F B DR
  exact ok_law3 FL B SS DR NN DO NR NI AR TW JO ST BK BS
end
end K50
set_option maxHeartbeats 0
noncomputable section
namespace Hd03
open PySem PySem.W PySem.Calls PyProof.Rows
/-! ### what the top leaves behind, the statics among it: classes are read by their names -/
section
variable (n : Nat) (fa : List He.Fa) (fn : List He.DefD) (tf : List He.Defn) (ex : PySem.W.Frag → Bool)
def asY (g : Addr → Option Obj) : List Addr := cStatics :: He.asD g n
def frY (g : Addr → Option Obj) : PySem.W.Frag := He.frT g (asY n g)
def obY (g : Addr → Option Obj) : He.AlX := (He.obsT fa fn [] (frY n g), ex (frY n g) && He.tabsB g tf (frY n g))
theorem says_Y {n : Nat} {fa : List He.Fa} {fn : List He.DefD} {tf : List He.Defn} {ex : PySem.W.Frag → Bool} {w : World} {h : Heap} (e : obY n fa fn tf ex h.get? = He.valX fn [] w) : He.SaysX fa fn [] tf ex w h (frY n h.get?) := by
  obtain ⟨h1, h2⟩ := He.ba (show (ex (frY n h.get?) && He.tabsB h.get? tf (frY n h.get?)) = true from congrArg Prod.snd e)
  have tab : ∀ p ∈ tf, ∃ o, h.get? (He.cT (frY n h.get?) p).2 = some o ∧ He.emptyTab o = true := fun p hp => by
    have z := (He.ba (List.all_eq_true.mp h2 p hp)).2
    split at z
    · rename_i o q
      exact ⟨o, q, z⟩
    · cases z
  refine ⟨congrArg Prod.fst e, h1, fun p hp => (He.ba (List.all_eq_true.mp h2 p hp)).1, fun p hp => ?_, fun p hp => ?_⟩
  · obtain ⟨o, q, z⟩ := tab p hp
    exact He.frT_none q z
  · obtain ⟨o, q, z⟩ := tab p hp
    rw [q, He.emptyTab_eq z]
def hookY : PySem.W.Hook where
  α := He.AlX
  obs := fun s => obY n fa fn tf ex s.heap.get?
  val := fun w => He.valX fn [] w
  says := fun w h => ∃ K : PySem.W.Frag, K.In h ∧ He.SaysX fa fn [] tf ex w h K
  of := fun _ _ e => ⟨_, He.frT_in, says_Y e⟩
  keeps := fun _ _ _ ⟨K, hK, c⟩ k => ⟨K, PySem.W.Frag.In.keeps hK k, ⟨c.t, c.more, c.hd, c.out, fun p hp => k _ _ (c.empty p hp)⟩⟩
theorem obY_eq {n : Nat} {fa : List He.Fa} {fn : List He.DefD} {tf : List He.Defn} {ex : PySem.W.Frag → Bool} {g : Addr → Option Obj} {s : Shared} (h : ∀ a, g a = s.heap.get? a) : obY n fa fn tf ex g = (hookY n fa fn tf ex).obs s := by
  obtain rfl : g = s.heap.get? := funext h
  rfl
end
abbrev R : OpenRow := OpenLaw.row PySem.Challenge.rw_samefromhere_k03_two_way_joined_strong
abbrev qv : Program := view R.prog [53]
def nm0 : List PySem.Str := ["_wall", "NetError", "BadNets", "BadRoads", "BadSigns", "DEEPEST", "END_MARK", "INTEGER_MARK", "STRING_MARK", "TUPLE_MARK", "Thing", "is_integer", "is_number", "is_row", "read_word", "_built", "grouped", "lots_of", "is_two_way", "is_joined", "is_strong", "reached"]
def nm1 : List PySem.Str := ["Ground", "Net", "read_signs", "read_any_signs", "read_roads", "_read_road", "is_place_of", "need_nets", "beside", "backward"]
def nm2 : List PySem.Str := ["_law_start", "_law_draw", "_law_pick", "_law_mixed", "_law_same", "_law_each_once", "_law_n_signs", "_law_n_crowd", "_law_n_doors", "_law_n_row", "_law_n_net", "_law_is_two_way", "_law_reached", "_law_all_right", "_law_near"]
def names : List PySem.Str := nm0 ++ (nm1 ++ nm2)
abbrev hk : PySem.W.Hook := hookY 5 K50.faS K50.fnS [K50.rrD] K50.yes
def ob (s : SharedT) : He.AlX := obY 5 K50.faS K50.fnS [K50.rrD] K50.yes (HandSHeadRun.getT s)
theorem ob_eq (s : SharedT) : ob s = hk.obs s.abs := obY_eq (HandSHeadRun.getT_eq s)
theorem run (w : World) : HandSHeadRun.RunEq R qv hk ob 4000 names w := by
  intro os
  kernel_rfl
end Hd03
end
set_option maxHeartbeats 4000000
noncomputable section
namespace Hd03
open PySem PySem.W PySem.Calls PyProof.Rows
abbrev dLaw : DefRec := HandSHeadRun.topDef R.prog 53
open L2 in
theorem room_law : L2.Room 9 callerA := ⟨rfl, by decide, by decide⟩
theorem walk_law : WalkO qv names (XL qv []) hk.says R.toRowW dLaw [] fun f vs => PySem.call f vs := by
  refine Att.attach_callB (l := PySem.Challenge.rw_samefromhere_k03_two_way_joined_strong) (n := 63) rfl (by kernel_rfl) fun w s0 s1 mg mb fa o pm cd doc a vs ns G Y ho hd hcd hmg hobj hints hlen hbits hg => ?_
  obtain ⟨K, KX, c⟩ := Y
  have hn : dLaw.name = ("law" : Str) := by kernel_rfl
  rw [hn] at hmg
  have cD : He.SaysD K50.faS K50.fnS K := congrArg (fun z : He.AlT => z.1) c.t
  have hm : (("law" : Str), 53) ∈ K50.dfL := by decide +kernel
  have g0 := K50.glo_of cD KX G.T.g hm
  obtain rfl : fa = He.fAd K ("law", none) := by
    rw [hmg] at g0
    injection g0 with g1
    injection g1
  obtain ⟨fd, Fn⟩ := K50.def_of cD hm
  have bd : ∀ (s : Shared) (u : Value), BindsTo s fd ⟨[u], []⟩ [(("script" : Str), u)] := by
    obtain ⟨oc, od, kV, doc, pm, an, cdv, ct, osl, rfl, lk, hcd2⟩ := Fn.ex
    exact fun s u => .of_eq rfl
  have m1 : K50.rrD ∈ [K50.rrD] := List.mem_singleton.mpr rfl
  refine LamX.law_callTs (P := R.prog) (w := w) (CX := L2.CX0) (cs := [He.cT K K50.rrD]) (fd := fd) (x := "script") (sp := K50.spLaw (K50.tabN K) K) KX G.T.g G.T.b G.T.builtins G.T.nolimit hg ?_ ?_ ?_ G.T.bmain hobj hints (Nat.le_trans hlen (by decide)) room_law ?_ bd ?_ (fun _ _ _ h => h)
  · intro p hp
    rw [List.mem_singleton.mp hp]
    exact c.empty _ m1
  · intro p hp
    rw [List.mem_singleton.mp hp]
    exact c.out _ m1
  · intro p hp
    rw [List.mem_singleton.mp hp]
    exact PySem.W.codeHd_of_K KX (c.hd _ m1)
  · intro base hK hG TB
    exact K50.law_of cD c.more hK hG (TB _ (List.mem_singleton.mpr rfl)) Fn
  · intro H hH hS
    refine ⟨a, ns, rfl, hS, hlen, fun q hq => ?_, fun _ => rfl⟩
    rw [List.mem_singleton.mp hq]
    exact ⟨#[], hH _ (List.mem_singleton.mpr rfl), True.intro, fun pos cv z => by cases z⟩
end Hd03
end
open PySem PySem.W PySem.Calls PyProof.Rows
set_option maxHeartbeats 0 in
theorem PySem.Challenge.cw_samefromhere_k03_two_way_joined_strong_holds : PySem.Challenge.rw_samefromhere_k03_two_way_joined_strong.Holds := by
  w_on; o_law
  refine HandSHeadRun.head_any (r := Hd03.R) (q := Hd03.qv) (H := Hd03.hk) (ob := Hd03.ob) (M := 4000) (loose := Hd03.names) (d := Hd03.dLaw) (kwd := []) Hd03.ob_eq
    (by kernel_rfl) (fun s => by kernel_rfl) Hd03.run (by kernel_rfl) (by kernel_rfl) (by kernel_rfl) (by rfl) (by first | assumption | decide +kernel) (by decide +kernel) ⟨rfl, rfl, rfl, rfl, rfl, by decide +kernel⟩ ?hw Hd03.walk_law
  case hw => w_witness2
