/-
  The document's Drop, of any wallet of up to 1000 leases.
-/
import Derived.Test.YtlipepbemofihaaLeaseLeft
namespace Go.Proofs.Ytlipepbemofihaa.Lease
open Go.RowKit
open _root_.Go.Proofs.Ytlipepbemofihaa.Codec (lt_of_heap frozen_of heap_set below_new)

/-- What is left, and how many are gone, behind those from j on. -/
def kept (l : List Lz) (g : Int) (j : Nat) : List Lz := l.take j ++ (l.drop j).filter fun x => !elder g x
def gones (l : List Lz) (g : Int) (j : Nat) : Nat := (l.drop j).countP (elder g)
theorem drop_at {l : List Lz} {j : Nat} (h : j < l.length) : l.drop j = l.getD j z :: l.drop (j + 1) := by
  rw [List.drop_eq_getElem_cons h]
  simp [List.getD, h]
theorem kept_get {l : List Lz} {g : Int} {j : Nat} (h : j < l.length) : (kept l g (j + 1)).getD j z = l.getD j z ∧ j < (kept l g (j + 1)).length := by
  have hl : (l.take (j + 1)).length = j + 1 := by simp; omega
  unfold kept
  refine ⟨?_, by simp; omega⟩
  simp only [List.getD]
  rw [List.getElem?_append_left (by omega)]
  simp
theorem kept_yes {l : List Lz} {g : Int} {j : Nat} (h : j < l.length) (e : elder g (l.getD j z) = true) : kept l g j = (kept l g (j + 1)).eraseIdx j ∧ gones l g j = gones l g (j + 1) + 1 := by
  have hl : (l.take j).length = j := by simp; omega
  unfold kept gones
  rw [drop_at h, take_snoc h, List.append_assoc, List.eraseIdx_append_of_length_le (by omega), hl, Nat.sub_self]
  generalize l.getD j z = x at *
  simp [e]
theorem kept_no {l : List Lz} {g : Int} {j : Nat} (h : j < l.length) (e : elder g (l.getD j z) = false) : kept l g j = kept l g (j + 1) ∧ gones l g j = gones l g (j + 1) := by
  unfold kept gones
  rw [drop_at h, take_snoc h]
  generalize l.getD j z = x at *
  simp [e]
theorem kept_len (l : List Lz) (g : Int) (j : Nat) : (kept l g j).length ≤ l.length := by
  unfold kept
  rw [List.length_append]
  have := List.length_filter_le (fun x => !elder g x) (l.drop j)
  simp only [List.length_take, List.length_drop] at *
  omega
theorem gones_len (l : List Lz) (g : Int) (j : Nat) : gones l g j ≤ l.length := by
  unfold gones
  have := List.countP_le_length (p := elder g) (l := l.drop j)
  simp only [List.length_drop] at this
  omega

set_option maxRecDepth 100000 in
set_option maxHeartbeats 4000000 in
theorem rdrop_any {B v : Nat} {l : List Lz} {w : World} (h : Wl B w v l) (hB : B ≤ w.heap.size) (hl : l.length ≤ 1000) (gen : Int) :
    Calls Try.prog 20 #[.pointer (some ⟨v, 0, none⟩), .int .i64 gen] w fun e w' => e = .returned (.int .i64 (drop l gen).2) ∧ Step B w v (drop l gen).1 w' := by
  have HBB := Lib.hid hB
  have S0 := Lib.hid (show Step B w v (kept l gen l.length) w by
    have : kept l gen l.length = l := by simp [kept]
    rw [this]
    exact Step.same h hB (Below.refl _ _))
  have HD := Lib.hid (show drop l gen = (kept l gen 0, ((gones l gen 0 : Nat) : Int)) by simp [drop, kept, gones])
  generalize drop l gen = R at *
  obtain ⟨p0, q0, c0, -⟩ := h.cell
  clear h
  have hw1 : IntKind.i64.wrap ((l.length : Int) - 1) = (l.length : Int) - 1 := IntWalk.i64_in _ (by omega)
  go_enter Try.func20, Try.ntmps20
  go_wp2
  go_loopw [5, 6] (fun n i wr => ∃ (j : Nat), j ≤ l.length ∧ i = .int .i64 ((j : Int) - 1) ∧ n = .int .i64 (gones l gen j : Int) ∧ Hid (Step B w v (kept l gen j) wr)) (fun _ i _ => (intOf i + 1).toNat)
  case atStart => exact ⟨l.length, by omega, by go_num, by simp [gones], S0⟩
  case round =>
    obtain ⟨j, hj, rfl, rfl, hst⟩ := hrel
    clear S0 c0
    obtain ⟨p, c, c1, hr⟩ := hst.out.wl.cell
    have HR := Lib.hid hr
    clear hr
    by_cases hlt : 0 < j
    · obtain ⟨k, rfl⟩ : ∃ k, j = k + 1 := ⟨j - 1, by omega⟩
      have hk : k < l.length := by omega
      obtain ⟨e1, e2⟩ := kept_get (g := gen) hk
      obtain ⟨b, o, rfl, x0, x1, x2, x3, x4⟩ := lies_at HR.out e2
      rw [e1] at x0 x1 x2 x3 x4
      have hi : ((k + 1 : Nat) : Int) - 1 = (k : Int) := by omega
      rw [hi]
      have hlk := kept_len l gen (k + 1)
      have hgk := gones_len l gen (k + 1)
      have HG := Lib.hid (fun u (hu : Below wr.heap.size wr u) => rgone_any (hst.out.wl.below hu) (Nat.le_trans HBB.out (Nat.le_trans hst.out.below.size hu.size)) (by omega) k)
      have e2' : (k : Int) < ((kept l gen (k + 1)).length : Int) := by omega
      by_cases he : elder gen (l.getD k z) = true
      · obtain ⟨f1, f2⟩ := kept_yes hk he
        have hlt2 : (l.getD k z).gen < gen := by simpa [elder] using he
        have HF1 := Lib.hid f1
        have HF2 := Lib.hid f2
        generalize l.getD k z = x at *
        generalize kept l gen (k + 1) = L at *
        generalize gones l gen (k + 1) = G at *
        clear f1 f2 he e1 HR hi
        go_wp2_with (go_at_call 31; (with_reducible refine (HG.out _ (Below.refl _ _)).mono ?_); rintro e w2 ⟨rfl, hs⟩; have S2 := Lib.hid (Step.trans hst.out hs); clear hs)
        go_roundw
        case rel => exact ⟨k, by omega, by go_num, by rw [HF2.out]; go_num, by rw [HF1.out]; exact S2⟩
        case measure => simp only [intOf]; omega
      · have he : elder gen (l.getD k z) = false := by simpa using he
        obtain ⟨f1, f2⟩ := kept_no hk he
        have hlt2 : ¬ (l.getD k z).gen < gen := by simpa [elder] using he
        have HF1 := Lib.hid f1
        have HF2 := Lib.hid f2
        generalize l.getD k z = x at *
        generalize kept l gen (k + 1) = L at *
        generalize gones l gen (k + 1) = G at *
        clear f1 f2 he e1 HR hi HG
        go_wp2
        go_roundw
        case rel => exact ⟨k, by omega, by go_num, by rw [HF2.out], by rw [HF1.out]; exact hst⟩
        case measure => simp only [intOf]; omega
    · obtain rfl : j = 0 := by omega
      clear HR c1
      go_wp2
      go_ret
      exact ⟨by rw [HD.out]; rfl, by rw [HD.out]; exact hst.out⟩
end Go.Proofs.Ytlipepbemofihaa.Lease
