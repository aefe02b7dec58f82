/-
  The document's Bytes, of any frame that may be, joined: a new row of the frame's bytes, as the plain function says; of what lay when the call began nothing has turned.
-/
import Derived.Test.YtnogfhjeckkckaaFrameBytes
import Derived.Test.YtnogfhjeckkckaaFrameRight
namespace Go.Proofs.Ytnogfhjeckkckaa.Frame
open Go.RowKit Codec

theorem allTo_out {f : Nat → Bool} {n : Nat} (h : allTo f n = true) (j : Nat) (hj : j < n) : f j = true := List.all_eq_true.1 h j (List.mem_range.2 hj)
theorem goods_append (a b : List Int) : goods (a ++ b) = (goods a && goods b) := by simp [goods]
theorem good_in {x lo hi : Int} (h : isIn x lo hi = true) (h0 : 0 ≤ lo) (h1 : hi ≤ 4611686018427387904) : good x = true := by
  obtain ⟨a, b⟩ := isIn_yes h
  simp [good]
  omega
theorem at_mem {α : Type} (l : List α) (d : α) (x : α) (h : x ∈ l) : ∃ j, j < l.length ∧ l.getD j d = x := by
  obtain ⟨j, hj, e⟩ := List.getElem_of_mem h
  exact ⟨j, hj, by simp [List.getD, hj, e]⟩

theorem goods_leases (l : List (Int × Int)) (h : ∀ x ∈ l, isIn x.1 0 63 = true ∧ isIn x.2 1 2147483648 = true) : goods (leaseNums l) = true := by
  induction l with
  | nil => rfl
  | cons x l ih =>
    have hx := h x (by simp)
    have e : leaseNums (x :: l) = [x.1, x.2] ++ leaseNums l := by simp [leaseNums]
    rw [e, goods_append, ih (fun y hy => h y (by simp [hy]))]
    simp [goods, good_in hx.1 (by omega) (by omega), good_in hx.2 (by omega) (by omega)]
theorem goods_row (r : Rw) (s : Int) (hs : 0 ≤ s) (h : rowOk r s = true) : goods (rowNums r) = true ∧ r.out.length ≤ 64 := by
  simp only [rowOk, Bool.and_eq_true, decide_eq_true_eq] at h
  obtain ⟨⟨⟨⟨hk, ha⟩, hm⟩, hl⟩, ho⟩ := h
  refine ⟨?_, hl⟩
  have h1 : good r.key = true := by simp [isKey] at hk; simp [good]; omega
  have h2 := good_in ha (by omega) (by omega)
  have h3 := good_in hm hs (by omega)
  have h4 : good (r.out.length : Int) = true := by simp [good]; omega
  have h5 := goods_leases r.out (fun x hx => by
    obtain ⟨j, hj, rfl⟩ := at_mem r.out (0, 0) x hx
    have := allTo_out ho j hj
    simp only [leaseAt, Bool.and_eq_true] at this
    exact this.1)
  rw [rowNums, goods_append, h5]
  simp [goods, h1, h2, h3, h4]
theorem goods_rows (l : List Rw) (h : ∀ r ∈ l, goods (rowNums r) = true) : goods (l.flatMap rowNums) = true := by
  induction l with
  | nil => rfl
  | cons r l ih =>
    rw [List.flatMap_cons, goods_append, h r (by simp), ih (fun x hx => h x (by simp [hx]))]
    rfl
theorem goods_stamps (l : List Int) (h : ∀ x ∈ l, -1 ≤ x ∧ x ≤ 4611686018427387903) : goods (l.map (· + 1)) = true := by
  rw [goods, List.all_eq_true]
  intro y hy
  obtain ⟨x, hx, rfl⟩ := List.mem_map.1 hy
  have := h x hx
  simp [good]
  omega

/-- What a token that may be gives. -/
theorem token_gives (t : Tk) (h : tokenOk t = true) : goods (tokenNums t) = true ∧ t.stamps.length ≤ 64 ∧ t.table.rows.length ≤ 16 ∧ (∀ r ∈ t.table.rows, r.out.length ≤ 64) ∧ (∀ x ∈ t.stamps, -1 ≤ x ∧ x ≤ 4611686018427387903) ∧ (tokenNums t).length ≤ 90000 := by
  simp only [tokenOk, tokenHead, tableOk, Bool.and_eq_true, decide_eq_true_eq] at h
  obtain ⟨⟨⟨⟨hg, hh⟩, hn⟩, hst⟩, ⟨hs, hr⟩, hrow⟩ := h
  have hsv : ∀ x ∈ t.stamps, -1 ≤ x ∧ x ≤ 4611686018427387903 := fun x hx => by
    obtain ⟨j, hj, rfl⟩ := at_mem t.stamps 0 x hx
    exact isIn_yes (allTo_out hst j hj)
  have hrs : ∀ r ∈ t.table.rows, goods (rowNums r) = true ∧ r.out.length ≤ 64 := fun r hr => by
    obtain ⟨j, hj, rfl⟩ := at_mem t.table.rows noRow r hr
    have := allTo_out hrow j hj
    simp only [rowAt, Bool.and_eq_true] at this
    exact goods_row _ _ (isIn_yes hs).1 this.1
  have hno : ∀ r ∈ t.table.rows, r.out.length ≤ 64 := fun r hr => (hrs r hr).2
  have hns : t.stamps.length ≤ 64 := by have := isIn_yes hn; omega
  refine ⟨?_, hns, hr, hno, hsv, ?_⟩
  · rw [tokenNums, goods_append, goods_append, goods_append, goods_stamps _ hsv, goods_rows _ (fun r hr => (hrs r hr).1)]
    have h1 := good_in hg (by omega) (by omega)
    have h2 := good_in hh (by omega) (by omega)
    have h3 : good (t.stamps.length : Int) = true := by simp [good]; omega
    have h4 := good_in hs (by omega) (by omega)
    have h5 : good (t.table.rows.length : Int) = true := by simp [good]; omega
    simp [headNums, goods, h1, h2, h3, h4, h5]
  · have := len_rows_flat t.table.rows hno
    simp only [tokenNums, headNums, List.length_append, List.length_map, List.length_cons, List.length_nil]
    omega

/-- A frame's numbers, and bytes. -/
def frameNums (f : Fr) : List Int := if f.kind = 0 then [0, f.src, f.dst] ++ tokenNums f.token else if f.kind = 1 then [1, f.src, f.dst, f.gen, f.hop] else if f.kind = 2 then [2, f.src, f.dst, f.gen] else [3, f.src, f.dst]
def frameBytes (f : Fr) : List Int := if f.kind = 2 then puts (frameNums f) ++ eight f.bits else puts (frameNums f)

theorem bytes_any (f : Fr) (ps p : Option Addr) (cs c : Nat) (w : World) (h : Lying w f ps p) (hf : frameOk f = true) :
    Calls Try.prog 22 #[frameVal f ps p cs c] w (Made 5 w (frameBytes f) id) := by
  obtain ⟨kind, src, dst, gen, hop, bits, t⟩ := f
  simp only [frameOk, Bool.and_eq_true] at hf
  obtain ⟨⟨h1, h2⟩, hk⟩ := hf
  have g1 := good_in h1 (by omega) (by omega)
  have g2 := good_in h2 (by omega) (by omega)
  by_cases k0 : kind = 0
  · subst k0
    simp only [if_true, Bool.and_eq_true] at hk
    obtain ⟨gt, hns, hnr, hno, hsv, hln⟩ := token_gives t hk.1.1.1
    have e : frameBytes ⟨0, src, dst, gen, hop, bits, t⟩ = puts ([0, src, dst] ++ tokenNums t) := by simp [frameBytes, frameNums]
    rw [e]
    exact bytes_pass src dst gen hop bits t ps p cs c w h.stamps h.rows hns hnr hno hsv hln (by rw [goods_append, gt]; simp [goods, g1, g2, show good 0 = true by decide])
  · rw [if_neg k0] at hk
    by_cases k1 : kind = 1
    · subst k1
      simp only [if_true, Bool.and_eq_true] at hk
      have g3 := good_in hk.1.1.2 (by omega) (by omega)
      have g4 := good_in hk.1.2 (by omega) (by omega)
      have e : frameBytes ⟨1, src, dst, gen, hop, bits, t⟩ = puts [1, src, dst, gen, hop] := by simp [frameBytes, frameNums]
      rw [e]
      exact bytes_ack _ _ _ _ _ _ _ _ _ _ _ _ _ _ _ (by simp [goods, g1, g2, g3, g4, show good 1 = true by decide])
    · rw [if_neg k1] at hk
      by_cases k2 : kind = 2
      · subst k2
        simp only [if_true, Bool.and_eq_true] at hk
        have g3 := good_in hk.1.2 (by omega) (by omega)
        have e : frameBytes ⟨2, src, dst, gen, hop, bits, t⟩ = puts [2, src, dst, gen] ++ eight bits := by simp [frameBytes, frameNums]
        rw [e]
        exact bytes_elect _ _ _ _ _ _ _ _ _ _ _ _ _ _ _ (by simp [goods, g1, g2, g3, show good 2 = true by decide])
      · rw [if_neg k2] at hk
        by_cases k3 : kind = 3
        · subst k3
          have e : frameBytes ⟨3, src, dst, gen, hop, bits, t⟩ = puts [3, src, dst] := by simp [frameBytes, frameNums]
          rw [e]
          exact bytes_beat _ _ _ _ _ _ _ _ _ _ _ _ _ _ _ (by simp [goods, g1, g2, show good 3 = true by decide])
        · rw [if_neg k3] at hk
          cases hk
end Go.Proofs.Ytnogfhjeckkckaa.Frame
