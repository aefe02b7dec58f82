/-
  The document's at and Of, of any queue of up to 1000 items; of what lay when the call began nothing has turned.
-/
import Derived.Test.YtdcclmellabnlaaQueueWords
namespace Go.Proofs.Ytdcclmellabnlaa.Queue
open Go.RowKit
open _root_.Go.Proofs.Ytdcclmellabnlaa.Codec (lt_of_heap frozen_of heap_set below_new)
open _root_.Go.Proofs.Ytdcclmellabnlaa.Ledger (spot spot_at spot_none)
open _root_.Go.Proofs.Ytdcclmellabnlaa.Kit (Enc Lies Own At Kept Laid cell_on lt_heap take_snoc below_drewN)

set_option maxRecDepth 100000 in
theorem rat_any {B v : Nat} {room : Int} {l : List It} {w : World} (h : Qu B w v room l) (hl : l.length ≤ 1000) (id : Int) :
    Calls Try.prog 43 #[.pointer (some ⟨v, 0, none⟩), .int .i64 id] w fun e w' => e = .returned (.int .i64 (place l id)) ∧ Below w.heap.size w w' := by
  obtain ⟨p, c, c1, hr, -⟩ := h.cell
  have HPL := Lib.hid (show place l id = spot (fun x => x.id == id) l from rfl)
  generalize place l id = R at HPL ⊢
  have HR := Lib.hid hr
  have HB := Lib.hid (Below.refl w.heap.size w)
  clear hr h
  go_enter Try.func43, Try.ntmps43
  go_wp2
  go_loop [5] (fun i => ∃ j : Nat, j ≤ l.length ∧ i = .int .i64 (j : Int) ∧ Hid (∀ i, i < j → (l.getD i z).id ≠ id)) (fun i => l.length - (intOf i).toNat)
  case atStart => exact ⟨0, by omega, rfl, fun i hi => by omega⟩
  case round =>
    obtain ⟨j, hj, rfl, hne⟩ := hrel
    by_cases hlt : j < l.length
    · obtain ⟨b, o, rfl, hat⟩ := lies_at HR.out hlt
      obtain ⟨k0, -⟩ := at5 hat
      have hlt' : (j : Int) < (l.length : Int) := by omega
      by_cases hk : (l.getD j z).id = id
      · have HE := Lib.hid (show R = (j : Int) by rw [HPL.out]; exact spot_at _ z l j hlt (fun i hi => by simpa using hne.out i hi) (by simpa using hk))
        rw [hk] at k0
        clear hne HPL HR hk hat
        go_wp2
        go_ret
        exact ⟨by rw [HE.out]; rfl, HB.out⟩
      · have HN : Hid (∀ i, i < j + 1 → (l.getD i z).id ≠ id) := fun i hi => by
          by_cases e : i = j
          · rw [e]; exact hk
          · exact hne.out i (by omega)
        generalize (l.getD j z).id = q at k0 hk
        clear hne HPL HR hat
        go_wp2
        go_round
        case rel => exact ⟨j + 1, by omega, by go_num, HN⟩
        case measure => simp only [intOf]; omega
    · have hlt' : ¬ (j : Int) < (l.length : Int) := by omega
      have HE := Lib.hid (show R = -1 by rw [HPL.out]; exact spot_none _ z l (fun i hi => by simpa using hne.out i (by omega)))
      clear hne HPL HR
      go_wp2
      go_ret
      exact ⟨by rw [HE.out]; rfl, HB.out⟩

theorem filter_yes {f : It → Bool} {l : List It} {j : Nat} (h : j < l.length) (e : f (l.getD j z) = true) : (l.take (j + 1)).filter f = (l.take j).filter f ++ [l.getD j z] := by
  rw [take_snoc z h, List.filter_append]
  simp only [List.filter_cons, e, if_true, List.filter_nil]
theorem filter_no {f : It → Bool} {l : List It} {j : Nat} (h : j < l.length) (e : f (l.getD j z) = false) : (l.take (j + 1)).filter f = (l.take j).filter f := by
  rw [take_snoc z h, List.filter_append]
  simp only [List.filter_cons, e, Bool.false_eq_true, if_false, List.filter_nil, List.append_nil]
/-- What was found in the classes ahead of one. -/
def ahead (l : List It) (k : Int) : Nat → List It
  | 0 => []
  | 1 => ofc l k 0
  | 2 => ofc l k 0 ++ ofc l k 1
  | _ => of l k
theorem ahead_succ (l : List It) (k : Int) {c : Nat} (h : c < 3) : ahead l k (c + 1) = ahead l k c ++ ofc l k (c : Int) := by
  match c, h with
  | 0, _ => simp [ahead]
  | 1, _ => simp [ahead]
  | 2, _ => simp [ahead, of]
theorem ahead_len (l : List It) (k : Int) (c : Nat) : (ahead l k c).length ≤ 3 * l.length := by
  have h0 := ofc_len l k 0
  have h1 := ofc_len l k 1
  have h2 := ofc_len l k 2
  unfold ahead
  split <;> simp [of] <;> omega
set_option maxRecDepth 100000 in
set_option maxHeartbeats 4000000 in
theorem rof_any {B v : Nat} {room : Int} {l : List It} {w : World} (h : Qu B w v room l) (hl : l.length ≤ 1000) (key : Int) :
    Calls Try.prog 13 #[.pointer (some ⟨v, 0, none⟩), .int .i64 key] w fun e w' => ∃ p c, e = .returned (.slice p (of l key).length c) ∧ Lies item w' p (of l key) ∧ Below w.heap.size w w' := by
  have HV := Lib.hid h
  have HD := Lib.hid (show ahead l key 3 = of l key from rfl)
  have HS := Lib.hid (fun (c : Nat) (h : c < 3) => ahead_succ l key h)
  have HL := Lib.hid (ahead_len l key)
  have H0 := Lib.hid (show ahead l key 0 = [] from rfl)
  generalize of l key = R at HD ⊢
  generalize ahead l key = AH at *
  clear h
  go_enter Try.func13, Try.ntmps13
  go_wp2
  go_loopw [5, 6] (fun y k wr => ∃ (c : Nat) (p : Option Addr) (d n : Nat), c ≤ 3 ∧ k = .int .i64 (c : Int) ∧ y = .slice p n d ∧ Hid (Own item 49 w.heap.size wr y (AH c)) ∧ Hid ((AH c).length = n) ∧ Below w.heap.size w wr) (fun _ k _ => 3 - (intOf k).toNat)
  case atStart => exact ⟨0, none, 0, 0, by omega, rfl, rfl, by rw [H0.out]; exact Lib.hid (Own.none _ _ _ _), by rw [H0.out]; exact Lib.hid rfl, Below.refl _ _⟩
  case round =>
    obtain ⟨c, p, d, n, hc, rfl, rfl, hown, hn, hbw⟩ := hrel
    by_cases hlt : c < 3
    · have hlt' : (c : Int) < 3 := by omega
      have HC := Lib.hid (HS.out c hlt)
      have HN := Lib.hid (HL.out c)
      generalize AH c = A0 at *
      have HBW := Lib.hid hbw
      clear hbw
      go_wp2
      go_loopw [5, 7] (fun y k wu => ∃ (j : Nat) (p : Option Addr) (d n : Nat), j ≤ l.length ∧ k = .int .i64 (j : Int) ∧ y = .slice p n d ∧ Hid (Own item 49 w.heap.size wu y (A0 ++ (l.take j).filter (isOf key (c : Int)))) ∧ Hid ((A0 ++ (l.take j).filter (isOf key (c : Int))).length = n) ∧ Hid (Below w.heap.size w wu)) (fun _ k _ => l.length - (intOf k).toNat)
      case atStart => exact ⟨0, p, d, n, by omega, rfl, rfl, by simpa using hown, by simpa using hn, HBW⟩
      case round =>
        obtain ⟨j, p1, d1, n1, hj, rfl, rfl, hown1, hn1, hbw1⟩ := hrel
        obtain ⟨q, cq, c1, hr, -⟩ := (HV.out.below hbw1.out).cell
        have HR := Lib.hid hr
        clear hr hown hn HBW
        by_cases hlj : j < l.length
        · have hlj' : (j : Int) < (l.length : Int) := by omega
          obtain ⟨b, o, rfl, hat⟩ := lies_at HR.out hlj
          obtain ⟨k0, k1, k2, k3, k4⟩ := at5 hat
          have hn2 : n1 ≤ 5000 := by
            have := hn1.out
            have h5 : ((l.take j).filter (isOf key (c : Int))).length ≤ l.length := Nat.le_trans (List.length_filter_le _ _) (by simp; omega)
            rw [List.length_append] at this
            have := HN.out
            omega
          have HY := Lib.hid (filter_yes (f := isOf key (c : Int)) hlj)
          have HO := Lib.hid (filter_no (f := isOf key (c : Int)) hlj)
          have HA := Lib.hid hat
          generalize l.getD j z = x at *
          generalize hF : (l.take j).filter (isOf key (c : Int)) = F at *
          clear hF hat
          have hdec : isOf key (c : Int) x = (x.key == key && x.cls == (c : Int)) := rfl
          obtain ⟨xi, xk, xc, xs, xt⟩ := x
          simp only at k0 k1 k2 k3 k4 hdec
          by_cases hk : xk = key
          · by_cases hs : xs = (c : Int)
            · have HE := Lib.hid (HY.out (by rw [hdec]; simp [hk, hs]))
              subst hk hs
              clear hdec HY HO HR
              go_wp2_with (at_builtin; refine Kit.push laidR rfl _ _ rfl w wr (.slice p1 n1 d1) rfl (A0 ++ F) n1 hn1.out hown1.out hbw1.out ((Below.refl _ _).alloc (Nat.le_refl _) _) wr.heap.size ⟨xi, xk, xc, c, xt⟩ rfl (heap_alloc_new _ _) (by omega) ?_; intro p4 c4 w4 R4 B4)
              go_roundw
              case rel => exact ⟨j + 1, p4, c4, n1 + 1, by omega, by go_num, rfl, by rw [HE.out, ← List.append_assoc]; exact R4, Lib.hid (by rw [HE.out, ← List.append_assoc, List.length_append, hn1.out]; rfl), Lib.hid B4⟩
              case measure => simp only [intOf]; omega
            · have HE := Lib.hid (HO.out (by rw [hdec]; simp [hs]))
              subst hk
              clear hdec HY HO HR
              go_wp2
              go_roundw
              case rel => exact ⟨j + 1, p1, d1, n1, by omega, by go_num, rfl, by rw [HE.out]; exact hown1, by rw [HE.out]; exact hn1, hbw1⟩
              case measure => simp only [intOf]; omega
          · have HE := Lib.hid (HO.out (by rw [hdec]; simp [hk]))
            clear hdec HY HO HR
            go_wp2
            go_roundw
            case rel => exact ⟨j + 1, p1, d1, n1, by omega, by go_num, rfl, by rw [HE.out]; exact hown1, by rw [HE.out]; exact hn1, hbw1⟩
            case measure => simp only [intOf]; omega
        · have hlj' : ¬ (j : Int) < (l.length : Int) := by omega
          rw [List.take_of_length_le (by omega)] at hown1 hn1
          rw [show A0 ++ l.filter (isOf key (c : Int)) = A0 ++ ofc l key (c : Int) from rfl, ← HC.out] at hown1 hn1
          clear HR
          go_wp2
          go_roundw
          case rel => exact ⟨c + 1, p1, d1, n1, by omega, by go_num, rfl, hown1, hn1, hbw1.out⟩
          case measure => simp only [intOf]; omega
    · have hlt' : ¬ (c : Int) < 3 := by omega
      obtain rfl : c = 3 := by omega
      rw [HD.out] at hown hn
      have hw := hown.out
      have hnn := hn.out
      subst hnn
      obtain ⟨q', d', hq, hlies⟩ := hw.lies
      simp only [Value.slice.injEq] at hq
      obtain ⟨rfl, -, rfl⟩ := hq
      have HQ := Lib.hid hlies
      have HBW := Lib.hid hbw
      clear hlies hw hown hn hbw
      go_wp2
      refine bodyPost_ret (v := .slice p R.length d) (by simp [results, Try.results13, go_sem]) rfl ⟨p, ⟨d, rfl⟩, HQ.out, HBW.out⟩
end Go.Proofs.Ytdcclmellabnlaa.Queue
