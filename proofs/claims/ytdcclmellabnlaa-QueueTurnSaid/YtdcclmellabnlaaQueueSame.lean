/-
  The document's Same, of two lists of items that are one; the law's Of; the document's Sum.
-/
import Derived.Test.YtdcclmellabnlaaQueueAt
import Derived.Test.YtdcclmellabnlaaSatRef
import Derived.Laws.StructEq
namespace Go.Proofs.Ytdcclmellabnlaa.Queue
open Go.RowKit
open _root_.Go.Proofs.Ytdcclmellabnlaa.Codec (lt_of_heap frozen_of heap_set below_new own_below)
open _root_.Go.Proofs.Ytdcclmellabnlaa.Kit (Enc Lies Own At Kept Laid cell_on lt_heap take_snoc below_drewN box5)

/-- Are they the same? -/
def same5 (a b : It) : Bool := a.id == b.id && (a.key == b.key && (a.cost == b.cost && (a.cls == b.cls && a.til == b.til)))
theorem same5_iff {a b : It} : same5 a b = true ↔ a = b := by
  obtain ⟨a1, a2, a3, a4, a5⟩ := a
  obtain ⟨b1, b2, b3, b4, b5⟩ := b
  simp [same5]
theorem eq5 (a b : It) (w : World) : (Op.equalIn 10000 49 (val a) (val b)).run Try.prog w = .ok (same5 a b) w := by
  obtain ⟨a1, a2, a3, a4, a5⟩ := a
  obtain ⟨b1, b2, b3, b4, b5⟩ := b
  unfold val same5
  rw [run_equalIn_agg w 9999 _ _ _ (by kernel_rfl) (by kernel_rfl)]
  have e : ∀ (a b : Int) (w : World), (Op.equalIn 9999 3 (.int .i64 a) (.int .i64 b)).run Try.prog w = .ok (a == b) w := fun a b w => run_equalIn_int w 9998 _ _ _ a b Try.underlying3
  by_cases h1 : a1 = b1
  · by_cases h2 : a2 = b2
    · by_cases h3 : a3 = b3
      · by_cases h4 : a4 = b4
        · by_cases h5 : a5 = b5
          · simp [Program.fieldsOf, Try.underlying49, Op.eqFields, part, isAgg, run_underlying Try.underlying3, e, h1, h2, h3, h4, h5]
          · simp [Program.fieldsOf, Try.underlying49, Op.eqFields, part, isAgg, run_underlying Try.underlying3, e, h1, h2, h3, h4, h5]
        · simp [Program.fieldsOf, Try.underlying49, Op.eqFields, part, isAgg, run_underlying Try.underlying3, e, h1, h2, h3, h4]
      · simp [Program.fieldsOf, Try.underlying49, Op.eqFields, part, isAgg, run_underlying Try.underlying3, e, h1, h2, h3]
    · simp [Program.fieldsOf, Try.underlying49, Op.eqFields, part, isAgg, run_underlying Try.underlying3, e, h1, h2]
  · simp [Program.fieldsOf, Try.underlying49, Op.eqFields, part, isAgg, run_underlying Try.underlying3, e, h1]
theorem neq5 (a b : It) (w : World) : (binOp .neq 49 (val a) (val b)).run Try.prog w = .ok (.bool (!same5 a b)) w := by
  have := eq5 a b w
  unfold val at this ⊢
  rw [run_neq_struct, this]; rfl
theorem eql5 (a b : It) (w : World) : (binOp .eql 49 (val a) (val b)).run Try.prog w = .ok (.bool (same5 a b)) w := by
  have := eq5 a b w
  unfold val at this ⊢
  rw [run_eql_struct, this]; rfl

/-- Two lists that lie are the same list: Same says so. -/
theorem rsame_any {l : List It} {p q : Option Addr} {c d : Nat} {w : World} (h : Lies item w p l) (h' : Lies item w q l) (hl : l.length ≤ 1000) :
    Calls Try.prog 9 #[.slice p l.length c, .slice q l.length d] w fun e w' => e = .returned (.bool true) ∧ Below w.heap.size w w' := by
  have HB := Lib.hid (Below.refl w.heap.size w)
  have HL := Lib.hid h
  have HM := Lib.hid h'
  clear h h'
  have hne : ((l.length : Int) != (l.length : Int)) = false := by simp
  go_enter Try.func9, Try.ntmps9
  go_wp2
  go_loopw [5] (fun i wr => ∃ j : Nat, j ≤ l.length ∧ i = .int .i64 (j : Int) ∧ Hid (Below w.heap.size w wr)) (fun i _ => l.length - (intOf i).toNat)
  case atStart => exact ⟨0, by omega, rfl, HB⟩
  case round =>
    obtain ⟨j, hj, rfl, hbw⟩ := hrel
    by_cases hlt : j < l.length
    · obtain ⟨b, o, rfl, ha⟩ := lies_at (HL.out.below hbw.out) hlt
      obtain ⟨k0, k1, k2, k3, k4⟩ := at5 ha
      obtain ⟨b', o', rfl, ha'⟩ := lies_at (HM.out.below hbw.out) hlt
      obtain ⟨x0, x1, x2, x3, x4⟩ := at5 ha'
      have hlt' : (j : Int) < (l.length : Int) := by omega
      have heq := fun i => neq5 (l.getD j z) (l.getD j z) (wr.drewN i)
      rw [same5_iff.2 rfl] at heq
      clear HL HM ha ha'
      generalize l.getD j z = x at *
      obtain ⟨xi, xk, xc, xs, xt⟩ := x
      simp only [val, Bool.not_true] at heq k0 k1 k2 k3 k4 x0 x1 x2 x3 x4
      go_wp2
      go_quiet (fail)
      go_wp2
      go_roundw
      case rel => exact ⟨j + 1, by omega, by go_num, Lib.hid (hbw.out.trans ((below_drewN _ _).mono hbw.out.size))⟩
      case measure => simp only [intOf]; omega
    · have hlt' : ¬ (j : Int) < (l.length : Int) := by omega
      clear HL HM
      go_wp2
      go_ret
      exact ⟨rfl, hbw.out⟩

set_option maxRecDepth 100000 in
set_option maxHeartbeats 4000000 in
/-- Of: the program's items, as the document has them. -/
theorem of_any {l : List It} {p : Option Addr} {c : Nat} {w : World} (h : Lies item w p l) (hl : l.length ≤ 1000) :
    Calls Try.prog 10 #[.slice p l.length c] w fun e w' => ∃ q d, e = .returned (.slice q l.length d) ∧ Lies item w' q l ∧ Below w.heap.size w w' := by
  have HL := Lib.hid h
  clear h
  go_enter Try.func10, Try.ntmps10
  go_wp2
  go_loopw [3, 4] (fun y i wr => ∃ (j : Nat) (q : Option Addr) (d : Nat), j ≤ l.length ∧ i = .int .i64 (j : Int) ∧ y = .slice q j d ∧ Hid (Own item 49 w.heap.size wr y (l.take j)) ∧ Below w.heap.size w wr) (fun _ i _ => l.length - (intOf i).toNat)
  case atStart => exact ⟨0, none, 0, by omega, rfl, rfl, Lib.hid (Own.none _ _ _ _), Below.refl _ _⟩
  case round =>
    obtain ⟨j, q, d, hj, rfl, rfl, hown, hbw⟩ := hrel
    have HBW := Lib.hid hbw
    by_cases hlt : j < l.length
    · obtain ⟨b, o, rfl, ha⟩ := lies_at (HL.out.below hbw) hlt
      obtain ⟨k0, k1, k2, k3, k4⟩ := at5 ha
      have hlt' : (j : Int) < (l.length : Int) := by omega
      have HT := Lib.hid (take_snoc z hlt)
      have HN := Lib.hid (show (l.take j).length = j by simp; omega)
      clear hbw ha HL
      generalize l.getD j z = x at *
      generalize l.take j = L at *
      obtain ⟨xi, xk, xc, xs, xt⟩ := x
      simp only at k0 k1 k2 k3 k4
      have HU := Lib.hid (fun (o : Obj) => (Below.refl wr.heap.size wr).alloc (Nat.le_refl _) o)
      have HG := Lib.hid (fun (o o' : Obj) => show ((wr.alloc o).alloc o').heap[wr.heap.size + 1]? = some o' from by have := heap_alloc_new (wr.alloc o) o'; simpa using this)
      go_wp2_with (at_builtin; refine Kit.push laidR rfl _ _ rfl w wr (.slice q j d) rfl L j HN.out hown.out HBW.out ((HU.out _).alloc (HU.out _).size _) (wr.heap.size + 1) ⟨xi, xk, xc, xs, xt⟩ rfl (HG.out _ _) (by omega) ?_; intro p4 c4 w4 R4 B4)
      go_roundw
      case rel => exact ⟨j + 1, p4, c4, by omega, by go_num, rfl, by rw [HT.out]; exact R4, B4⟩
      case measure => simp only [intOf]; omega
    · have hlt' : ¬ (j : Int) < (l.length : Int) := by omega
      have e : j = l.length := by omega
      have hw := hown.out
      rw [List.take_of_length_le (by omega)] at hw
      obtain ⟨q', d', hq, hlies⟩ := hw.lies
      simp only [Value.slice.injEq] at hq
      obtain ⟨rfl, -, rfl⟩ := hq
      have HQ := Lib.hid hlies
      clear hlies hw hown
      go_wp2
      subst e
      refine bodyPost_ret (v := .slice q l.length d) (by simp [results, Try.results10, go_sem]) rfl ⟨q, ⟨d, rfl⟩, HQ.out, HBW.out⟩
theorem sums_at {l : List It} {j : Nat} (h : j < l.length) : sums (l.take (j + 1)) = Sat.add [sums (l.take j), (l.getD j z).cost] := by
  rw [take_snoc z h, sums_snoc]
set_option maxRecDepth 100000 in
set_option maxHeartbeats 4000000 in
theorem rsum_any {B v : Nat} {room : Int} {l : List It} {w : World} (h : Qu B w v room l) (hl : l.length ≤ 1000) (key : Int) :
    Calls Try.prog 19 #[.pointer (some ⟨v, 0, none⟩), .int .i64 key] w fun e w' => e = .returned (.int .i64 (sum l key)) ∧ Below w.heap.size w w' := by
  have HO := rof_any h hl key
  have HM := Lib.hid (show sum l key = sums (of l key) from rfl)
  have hm : (of l key).length ≤ 1000 := Nat.le_trans (of_len l key) hl
  generalize of l key = m at *
  have HS := Lib.hid (fun (j : Nat) (hj : j < m.length) => sums_at hj)
  have H0 := Lib.hid (show sums [] = 0 from rfl)
  generalize sums = SU at *
  generalize sum l key = R at *
  have ct := _root_.Go.Proofs.Ytdcclmellabnlaa.Sat.rtwo_any
  clear h
  go_enter Try.func19, Try.ntmps19
  go_wp2_with (go_at_call 13; (with_reducible refine HO.mono ?_); rintro e w1 ⟨p, c, rfl, hp, hb⟩; have HP := Lib.hid hp; have HB1 := Lib.hid hb; clear hp hb HO)
  go_loopw [6, 7] (fun s i wr => ∃ j : Nat, j ≤ m.length ∧ i = .int .i64 (j : Int) ∧ s = .int .i64 (SU (m.take j)) ∧ w1 = wr) (fun _ i _ => m.length - (intOf i).toNat)
  case atStart => exact ⟨0, by omega, rfl, by rw [List.take_zero, H0.out], rfl⟩
  case round =>
    obtain ⟨j, hj, rfl, rfl, rfl⟩ := hrel
    by_cases hlt : j < m.length
    · obtain ⟨b, o, rfl, ha⟩ := lies_at HP.out hlt
      obtain ⟨k0, k1, k2, k3, k4⟩ := at5 ha
      have hlt' : (j : Int) < (m.length : Int) := by omega
      have HE := Lib.hid (HS.out j hlt)
      clear ha HS
      generalize l.getD j z = x at *
      generalize (m.getD j z).cost = xc at *
      generalize SU (m.take j) = s0 at *
      have ct2 := ct s0 xc
      go_wp2_with (go_at_call 37; (with_reducible refine (ct2 _).mono ?_); rintro e w2 ⟨rfl, rfl⟩)
      go_roundw
      case rel => exact ⟨j + 1, by omega, by go_num, by rw [HE.out], trivial⟩
      case measure => simp only [intOf]; omega
    · have hlt' : ¬ (j : Int) < (m.length : Int) := by omega
      have HE := Lib.hid (show SU (m.take j) = R by rw [List.take_of_length_le (by omega), HM.out])
      generalize SU (m.take j) = s0 at *
      go_wp2
      go_ret
      exact ⟨by simp; exact HE.out, HB1.out⟩
end Go.Proofs.Ytdcclmellabnlaa.Queue
