/-
  What holds of a table, behind n acts, besides: its rows rise by keys, each row's leases by nodes; each act keeps it. No program.
-/
import Derived.Test.YtcnnepmhdccipaaLedgerWay
import Derived.Test.YtcnnepmhdccipaaLedgerIdlePlain
namespace Go.Proofs.Ytcnnepmhdccipaa.Ledger
open _root_.Go.Proofs.Ytcnnepmhdccipaa.Frame (Rw Tb noRow tableOk rowOk leaseAt isIn allTo)

def Up (l : List Rw) : Prop := l.Pairwise fun a b => a.key < b.key
def UpL (l : List (Int × Int)) : Prop := l.Pairwise fun a b => a.1 < b.1
structure Rise (n : Nat) (t : Tb) : Prop where
  base : Base n t
  up : Up t.rows
  ups : ∀ r ∈ t.rows, UpL r.out
theorem Rise.more {n : Nat} {t : Tb} (h : Rise n t) : Rise (n + 1) t := ⟨h.base.more, h.up, h.ups⟩

theorem up_fold (r : Rw) : ∀ (l : List Rw) (s : List Rw × Bool), Up s.1 → Up l → (∀ x ∈ s.1, ∀ y ∈ l, x.key < y.key) → (s.2 = false → ∀ x ∈ s.1, x.key < r.key) →
    Up (l.foldl (setStep r) s).1 ∧ ((l.foldl (setStep r) s).2 = false → ∀ x ∈ (l.foldl (setStep r) s).1, x.key < r.key)
  | [], s, h1, _, _, h4 => ⟨h1, h4⟩
  | x :: l, (a, b), h1, h2, h3, h4 => by
    obtain ⟨h2a, h2b⟩ := List.pairwise_cons.1 h2
    have e3 : ∀ y ∈ a, y.key < x.key := fun y hy => h3 y hy x List.mem_cons_self
    have e4 : ∀ y ∈ a, ∀ z ∈ l, y.key < z.key := fun y hy z hz => h3 y hy z (List.mem_cons_of_mem _ hz)
    rw [List.foldl_cons]
    have ha : Up (if b = false ∧ r.key ≤ x.key then a ++ [r] else a) := by
      split
      · rename_i hb
        exact List.pairwise_append.2 ⟨h1, List.pairwise_singleton _ _, fun y hy z hz => by rw [List.mem_singleton.1 hz]; exact h4 hb.1 y hy⟩
      · exact h1
    have hm : ∀ y ∈ (if b = false ∧ r.key ≤ x.key then a ++ [r] else a), y ∈ a ∨ y = r ∧ r.key ≤ x.key := fun y hy => by
      split at hy
      · rename_i hb
        rcases List.mem_append.1 hy with h | h
        · exact .inl h
        · exact .inr ⟨List.mem_singleton.1 h, hb.2⟩
      · exact .inl hy
    refine up_fold r l _ ?_ h2b ?_ ?_
    · refine List.pairwise_append.2 ⟨ha, ?_, fun y hy z hz => ?_⟩
      · split
        · exact List.Pairwise.nil
        · exact List.pairwise_singleton _ _
      · split at hz
        · cases hz
        · rename_i hne
          rw [List.mem_singleton.1 hz]
          rcases hm y hy with h | ⟨h, h'⟩
          · exact e3 y h
          · rw [h]; omega
    · intro y hy z hz
      have hxz := h2a z hz
      rcases List.mem_append.1 hy with h | h
      · rcases hm y h with h | ⟨h, h'⟩
        · exact e4 y h z hz
        · rw [h]; omega
      · split at h
        · cases h
        · rw [List.mem_singleton.1 h]; exact hxz
    · intro hb0 y hy
      have hb : (b || decide (r.key ≤ x.key)) = false := hb0
      simp only [Bool.or_eq_false_iff, decide_eq_false_iff_not] at hb
      rcases List.mem_append.1 hy with h | h
      · rcases hm y h with h | ⟨h, h'⟩
        · exact h4 hb.1 y h
        · omega
      · split at h
        · cases h
        · rw [List.mem_singleton.1 h]; omega
theorem up_set {l : List Rw} (h : Up l) (r : Rw) : Up (setRows l r) := by
  have k := up_fold r l ([], false) List.Pairwise.nil h (fun x hx => by cases hx) (fun _ x hx => by cases hx)
  unfold setRows
  split
  · exact k.1
  · rename_i hb
    exact List.pairwise_append.2 ⟨k.1, List.pairwise_singleton _ _, fun y hy z hz => by rw [List.mem_singleton.1 hz]; exact k.2 (Bool.eq_false_iff.2 hb) y hy⟩
theorem upl_fold (r : Int × Int) : ∀ (l : List (Int × Int)) (s : List (Int × Int) × Bool), UpL s.1 → UpL l → (∀ y ∈ l, y.1 ≠ r.1) → (∀ x ∈ s.1, ∀ y ∈ l, x.1 < y.1) → (s.2 = false → ∀ x ∈ s.1, x.1 < r.1) →
    UpL (l.foldl (leaseStep r) s).1 ∧ ((l.foldl (leaseStep r) s).2 = false → ∀ x ∈ (l.foldl (leaseStep r) s).1, x.1 < r.1)
  | [], s, h1, _, _, _, h4 => ⟨h1, h4⟩
  | x :: l, (a, b), h1, h2, h0, h3, h4 => by
    obtain ⟨h2a, h2b⟩ := List.pairwise_cons.1 h2
    have hx := h0 x List.mem_cons_self
    have e3 : ∀ y ∈ a, y.1 < x.1 := fun y hy => h3 y hy x List.mem_cons_self
    have e4 : ∀ y ∈ a, ∀ z ∈ l, y.1 < z.1 := fun y hy z hz => h3 y hy z (List.mem_cons_of_mem _ hz)
    rw [List.foldl_cons]
    have ha : UpL (if b = false ∧ r.1 < x.1 then a ++ [r] else a) := by
      split
      · rename_i hb
        exact List.pairwise_append.2 ⟨h1, List.pairwise_singleton _ _, fun y hy z hz => by rw [List.mem_singleton.1 hz]; exact h4 hb.1 y hy⟩
      · exact h1
    have hm : ∀ y ∈ (if b = false ∧ r.1 < x.1 then a ++ [r] else a), y ∈ a ∨ y = r ∧ r.1 < x.1 := fun y hy => by
      split at hy
      · rename_i hb
        rcases List.mem_append.1 hy with h | h
        · exact .inl h
        · exact .inr ⟨List.mem_singleton.1 h, hb.2⟩
      · exact .inl hy
    refine upl_fold r l _ ?_ h2b (fun y hy => h0 y (List.mem_cons_of_mem _ hy)) ?_ ?_
    · refine List.pairwise_append.2 ⟨ha, List.pairwise_singleton _ _, fun y hy z hz => ?_⟩
      rw [List.mem_singleton.1 hz]
      rcases hm y hy with h | ⟨h, h'⟩
      · exact e3 y h
      · rw [h]; exact h'
    · intro y hy z hz
      have hxz := h2a z hz
      rcases List.mem_append.1 hy with h | h
      · rcases hm y h with h | ⟨h, h'⟩
        · exact e4 y h z hz
        · rw [h]; omega
      · rw [List.mem_singleton.1 h]; exact hxz
    · intro hb0 y hy
      have hb : (b || decide (r.1 < x.1)) = false := hb0
      simp only [Bool.or_eq_false_iff, decide_eq_false_iff_not] at hb
      rcases List.mem_append.1 hy with h | h
      · rcases hm y h with h | ⟨h, h'⟩
        · exact h4 hb.1 y h
        · omega
      · rw [List.mem_singleton.1 h]; omega
theorem upl_with {l : List (Int × Int)} (h : UpL l) {r : Int × Int} (h0 : ∀ y ∈ l, y.1 ≠ r.1) : UpL (withLease l r) := by
  have k := upl_fold r l ([], false) List.Pairwise.nil h h0 (fun x hx => by cases hx) (fun _ x hx => by cases hx)
  unfold withLease
  split
  · exact k.1
  · rename_i hb
    exact List.pairwise_append.2 ⟨k.1, List.pairwise_singleton _ _, fun y hy z hz => by rw [List.mem_singleton.1 hz]; exact k.2 (Bool.eq_false_iff.2 hb) y hy⟩

theorem rise_first {t : Tb} (h : tableOk t = true) : Rise 0 t := by
  refine ⟨base_first h, List.pairwise_iff_getElem.2 fun i j hi hj hij => ?_, fun r hr => List.pairwise_iff_getElem.2 fun i j hi hj hij => ?_⟩
  · have := keys_rise h i j hij hj
    simpa [List.getD, hi, hj] using this
  · simp only [tableOk, Bool.and_eq_true] at h
    have h3 := h.2
    rw [allTo, List.all_eq_true] at h3
    obtain ⟨q, hq, e⟩ := List.mem_iff_getElem.1 hr
    have h4 := h3 q (List.mem_range.2 hq)
    have e2 : t.rows.getD q noRow = r := by simp [List.getD, hq, e]
    simp only [Frame.rowAt, e2, Bool.and_eq_true, rowOk] at h4
    have h5 := h4.1.2
    rw [allTo, List.all_eq_true] at h5
    have step : ∀ j, 0 < j → j < r.out.length → (r.out.getD (j - 1) (0, 0)).1 < (r.out.getD j (0, 0)).1 := fun j h0 hj => by
      have h6 := h5 j (List.mem_range.2 hj)
      simp only [leaseAt, Bool.and_eq_true, Bool.or_eq_true, beq_iff_eq, decide_eq_true_eq] at h6
      rcases h6.2 with h7 | h7
      · omega
      · exact h7
    have key : ∀ d, i + 1 + d < r.out.length → (r.out.getD i (0, 0)).1 < (r.out.getD (i + 1 + d) (0, 0)).1 := by
      intro d
      induction d with
      | zero => intro hd; have := step (i + 1) (by omega) hd; simpa using this
      | succ d ih =>
        intro hd
        have := step (i + 1 + (d + 1)) (by omega) hd
        rw [show i + 1 + (d + 1) - 1 = i + 1 + d by omega] at this
        have := ih (by omega)
        omega
    have := key (j - i - 1) (by omega)
    rw [show i + 1 + (j - i - 1) = j by omega] at this
    simpa [List.getD, hi, hj] using this
theorem upl_find {n : Nat} {t : Tb} (h : Rise n t) (key : Int) : UpL (findRow t key).out := by
  rcases find_in t key with e | e
  · rw [e]; exact List.Pairwise.nil
  · exact h.ups _ e
theorem ups_set {t : Tb} (h : ∀ r ∈ t.rows, UpL r.out) {r : Rw} (hr : UpL r.out) : ∀ x ∈ setRows t.rows r, UpL x.out := fun x hx => by
  rcases setRows_mem hx with e | e
  · rw [e]; exact hr
  · exact h x e
theorem rise_sweep {n : Nat} {t : Tb} (h : Rise n t) (now : Int) (f : Cf) : Rise n (sweep t now f) :=
  ⟨base_sweep h.base now f, List.Pairwise.sublist List.filter_sublist h.up, fun r hr => h.ups r (sweep_mem hr)⟩
theorem rise_mint {n : Nat} {t : Tb} (h : Rise n t) {key now : Int} (hk : Num key) (hn : Num now) (f : Cf) : Rise (n + 1) (mint t key now f).1 := by
  refine ⟨base_mint h.base hk hn f, ?_, ?_⟩
  all_goals
    unfold mint
    split
    · first | exact h.up | exact h.ups
    · split
      · first | exact up_set h.up _ | exact ups_set h.ups (upl_find h key)
      · split
        · first | exact h.up | exact h.ups
        · first | exact up_set (rise_sweep h now f).up _ | exact ups_set (rise_sweep h now f).ups (upl_find (rise_sweep h now f) key)
theorem rise_settle {n : Nat} {t : Tb} (h : Rise n t) {key : Int} (hk : Num key) (node spent : Int) : Rise (n + 1) (settle t key node spent).1 := by
  refine ⟨base_settle h.base hk node spent, ?_, ?_⟩
  all_goals
    unfold settle
    split
  · exact up_set h.up _
  · exact h.up
  · exact ups_set h.ups (List.Pairwise.sublist (List.eraseIdx_sublist _ _) (upl_find h key))
  · exact h.ups
theorem out_none {l : List (Int × Int)} {node : Int} (h : outAt l node < 0) : ∀ y ∈ l, y.1 ≠ node := by
  rcases spot_cases (fun x : Int × Int => x.1 == node) (0, 0) l with ⟨-, h2⟩ | ⟨j, h1, -⟩
  · intro y hy
    obtain ⟨i, hi, e⟩ := List.mem_iff_getElem.1 hy
    have h3 := h2 i hi
    have e2 : l.getD i (0, 0) = y := by simp [List.getD, hi, e]
    rw [e2] at h3
    simpa using h3
  · unfold outAt at h
    omega
theorem rise_grant {n : Nat} {t : Tb} (h : Rise n t) {key : Int} (hk : Num key) (node want : Int) : Rise (n + 1) (grant t key node want).1 := by
  refine ⟨base_grant h.base hk node want, ?_, ?_⟩
  all_goals
    unfold grant
    split
  · exact up_set h.up _
  · exact h.up
  · rename_i hm
    simp only [mayGrant, Bool.and_eq_true, decide_eq_true_eq] at hm
    exact ups_set h.ups (upl_with (upl_find h key) (out_none hm.2))
  · exact h.ups
theorem inv_rise : Inv Rise := ⟨Rise.base, rise_first, fun f h hk hn _ => rise_mint h hk hn f, fun node spent h hk => rise_settle h hk node spent, fun node want h hk => rise_grant h hk node want, fun now f h => rise_sweep h now f⟩
/-! Rows and leases that rise: where one goes. -/
theorem fold_lo (r : Rw) : ∀ (A a : List Rw), (∀ x ∈ A, x.key < r.key) → A.foldl (setStep r) (a, false) = (a ++ A, false)
  | [], a, _ => by simp
  | x :: A, a, h => by
    have hx := h x List.mem_cons_self
    have e : setStep r (a, false) x = (a ++ [x], false) := by
      simp only [setStep, Bool.false_or]
      rw [if_neg (by omega), if_neg (by omega), decide_eq_false (by omega)]
    rw [List.foldl_cons, e, fold_lo r A _ fun y hy => h y (List.mem_cons_of_mem _ hy)]
    simp
theorem fold_hi (r : Rw) : ∀ (B a : List Rw), (∀ x ∈ B, r.key < x.key) → B.foldl (setStep r) (a, true) = (a ++ B, true)
  | [], a, _ => by simp
  | x :: B, a, h => by
    have hx := h x List.mem_cons_self
    have e : setStep r (a, true) x = (a ++ [x], true) := by
      simp only [setStep, Bool.true_or]
      rw [if_neg (by simp), if_neg (by omega)]
    rw [List.foldl_cons, e, fold_hi r B _ fun y hy => h y (List.mem_cons_of_mem _ hy)]
    simp
theorem setRows_put {A B : List Rw} {r : Rw} (hA : ∀ x ∈ A, x.key < r.key) (hB : ∀ x ∈ B, r.key < x.key) : setRows (A ++ B) r = A ++ r :: B := by
  have e : setTo r (A ++ B) = B.foldl (setStep r) (A, false) := by
    unfold setTo
    rw [List.foldl_append, fold_lo r A [] hA]
    rfl
  unfold setRows
  rw [e]
  cases B with
  | nil => simp
  | cons y B =>
    have hy := hB y List.mem_cons_self
    have e : setStep r (A, false) y = (A ++ [r, y], true) := by
      simp only [setStep, Bool.false_or, true_and]
      rw [if_pos (by omega), if_neg (by omega), decide_eq_true (by omega)]
      simp
    rw [List.foldl_cons, e, fold_hi r B _ fun z hz => hB z (List.mem_cons_of_mem _ hz)]
    simp
theorem setRows_in {A B : List Rw} {r y : Rw} (hA : ∀ x ∈ A, x.key < r.key) (he : y.key = r.key) (hB : ∀ x ∈ B, r.key < x.key) : setRows (A ++ y :: B) r = A ++ r :: B := by
  have e : setStep r (A, false) y = (A ++ [r], true) := by
    simp only [setStep, Bool.false_or, true_and]
    rw [if_pos (by omega), if_pos he, decide_eq_true (by omega), List.append_nil]
  unfold setRows setTo
  rw [List.foldl_append, fold_lo r A [] hA, List.nil_append, List.foldl_cons, e, fold_hi r B _ hB]
  simp
theorem lease_lo (r : Int × Int) : ∀ (A a : List (Int × Int)), (∀ x ∈ A, x.1 < r.1) → A.foldl (leaseStep r) (a, false) = (a ++ A, false)
  | [], a, _ => by simp
  | x :: A, a, h => by
    have hx := h x List.mem_cons_self
    have e : leaseStep r (a, false) x = (a ++ [x], false) := by
      simp only [leaseStep, Bool.false_or]
      rw [if_neg (by omega), decide_eq_false (by omega)]
    rw [List.foldl_cons, e, lease_lo r A _ fun y hy => h y (List.mem_cons_of_mem _ hy)]
    simp
theorem lease_hi (r : Int × Int) : ∀ (B a : List (Int × Int)), B.foldl (leaseStep r) (a, true) = (a ++ B, true)
  | [], a => by simp
  | x :: B, a => by
    have e : leaseStep r (a, true) x = (a ++ [x], true) := by
      simp only [leaseStep, Bool.true_or]
      rw [if_neg (by simp)]
    rw [List.foldl_cons, e, lease_hi r B _]
    simp
theorem withLease_put {A B : List (Int × Int)} {r : Int × Int} (hA : ∀ x ∈ A, x.1 < r.1) (hB : ∀ x ∈ B, r.1 < x.1) : withLease (A ++ B) r = A ++ r :: B := by
  have e : leaseTo r (A ++ B) = B.foldl (leaseStep r) (A, false) := by
    unfold leaseTo
    rw [List.foldl_append, lease_lo r A [] hA]
    rfl
  unfold withLease
  rw [e]
  cases B with
  | nil => simp
  | cons y B =>
    have hy := hB y List.mem_cons_self
    have e : leaseStep r (A, false) y = (A ++ [r, y], true) := by
      simp only [leaseStep, Bool.false_or, true_and]
      rw [if_pos hy, decide_eq_true hy]
      simp
    rw [List.foldl_cons, e, lease_hi r B _]
    simp
/-- A search that stops at the first key that isn't below. -/
theorem place_stop {l : List Rw} (h : Up l) {key : Int} {j : Nat} (hlo : ∀ i, i < j → (l.getD i noRow).key < key) (hhi : j < l.length → key < (l.getD j noRow).key) : place l key = -1 := by
  refine spot_none _ noRow l fun i hi => ?_
  simp only [beq_eq_false_iff_ne]
  rcases Nat.lt_trichotomy i j with h1 | h1 | h1
  · have := hlo i h1
    omega
  · subst h1
    have := hhi hi
    omega
  · have h2 := List.pairwise_iff_getElem.1 h j i (by omega) hi h1
    have h3 := hhi (by omega)
    simp only [List.getD, hi, show j < l.length by omega, List.getElem?_eq_getElem, Option.getD_some] at h3 ⊢
    omega
end Go.Proofs.Ytcnnepmhdccipaa.Ledger
