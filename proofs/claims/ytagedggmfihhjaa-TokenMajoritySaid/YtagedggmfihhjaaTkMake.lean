/-
  The program's Fresh (package token), of any numbers.
-/
import Derived.Test.YtagedggmfihhjaaTkFresh
import Derived.Test.YtagedggmfihhjaaTkStamp
import Derived.Deep.QuietTactic
import Derived.BigQuiet
import Derived.Deep.RegionHeld3
namespace Go.Proofs.Ytagedggmfihhjaa.Token
open Go.RowKit
open _root_.Go.Proofs.Ytagedggmfihhjaa.Frame (Rw Tb Tk noRow LeasesAt RowAt RowsAt cell_on Asked tokenOk ptoken_any)
open _root_.Go.Proofs.Ytagedggmfihhjaa.Codec (Ints lt_of_heap frozen_of heap_set)
open _root_.Go.Proofs.Ytagedggmfihhjaa.Range (Lay Fill)
open _root_.Go.Proofs.Ytagedggmfihhjaa.Ring (has all all_any has_any has_all okRing)

theorem five_below {w u : World} (h : Below w.heap.size w u) (v0 v1 v2 v3 v4 : Value) : Below w.heap.size w (((((u.setCell ⟨w.heap.size, 0, none⟩ v0).setCell ⟨w.heap.size, 1, none⟩ v1).setCell ⟨w.heap.size, 2, none⟩ v2).setCell ⟨w.heap.size, 3, none⟩ v3).setCell ⟨w.heap.size, 4, none⟩ v4) :=
  ((((h.setCell (Nat.le_refl _) _).setCell (Nat.le_refl _) _).setCell (Nat.le_refl _) _).setCell (Nat.le_refl _) _).setCell (Nat.le_refl _) _
theorem five_ints {u : World} {g B : Nat} {l : List Int} (h : Ints u (some ⟨g, 0, none⟩) l) (hne : g ≠ B) (v0 v1 v2 v3 v4 : Value) : Ints (((((u.setCell ⟨B, 0, none⟩ v0).setCell ⟨B, 1, none⟩ v1).setCell ⟨B, 2, none⟩ v2).setCell ⟨B, 3, none⟩ v3).setCell ⟨B, 4, none⟩ v4) (some ⟨g, 0, none⟩) l := by
  rcases h with h | ⟨b, o, e, hc⟩
  · exact .inl h
  · simp only [Option.some.injEq, Addr.mk.injEq, and_true] at e
    obtain ⟨rfl, rfl⟩ := e
    have he : ∀ i, (((((u.setCell ⟨B, 0, none⟩ v0).setCell ⟨B, 1, none⟩ v1).setCell ⟨B, 2, none⟩ v2).setCell ⟨B, 3, none⟩ v3).setCell ⟨B, 4, none⟩ v4).cell? ⟨g, i, none⟩ = u.cell? ⟨g, i, none⟩ := fun i =>
      World.cell?_of_block (w := u) ((Below.heap_setCell _ _ _ _ hne).trans ((Below.heap_setCell _ _ _ _ hne).trans ((Below.heap_setCell _ _ _ _ hne).trans ((Below.heap_setCell _ _ _ _ hne).trans (Below.heap_setCell _ _ _ _ hne)))))
    exact .inr ⟨g, 0, rfl, fun j hj => by rw [he]; exact hc j hj⟩
set_option maxRecDepth 100000 in
theorem make_core (gen n node now : Int) (a : Int) (has1 : Bool) (w : World)
    (ha : ∀ u, Calls Try.prog 12 #[.int .i64 n] u fun e w' => e = .returned (.int .u64 a) ∧ u = w')
    (hh : ∀ u, Calls Try.prog 13 #[.int .u64 a, .int .i64 node] u fun e w' => e = .returned (.bool has1) ∧ u = w')
    (h0 : has1 = false) :
    Calls Try.prog 6 #[.int .i64 gen, .int .i64 n, .int .i64 node, .int .i64 now] w (TellsNew w noTk (fun v => .tuple #[v, .int .i64 1])) := by
  subst h0
  have M0 := Lib.hid ((Mem.start w).box #[.int .i64 0, .int .i64 0, .slice none 0 0, .int .i64 0, .slice none 0 0] 29)
  go_enter Try.func6, Try.ntmps6
  go_wp2_with (first | (go_at_call 12; (with_reducible refine (ha _).mono ?_); rintro e w1 ⟨rfl, rfl⟩) | (go_at_call 13; (with_reducible refine (hh _).mono ?_); rintro e w1 ⟨rfl, rfl⟩))
  obtain ⟨d0, d1, d2, d3, d4⟩ := box5 (M0.out.boxes 0 _ _ _ rfl)
  refine bodyPost_ret (v := .tuple #[.agg #[.int .i64 0, .int .i64 0, .slice none 0 0, .int .i64 0, .slice none 0 0], .int .i64 1]) (by simp [results, Try.results6, go_sem, d0, d1, d2, d3, d4]) rfl ?_
  exact ⟨none, 0, 0, rfl, .inl rfl, .inl rfl, rfl, M0.out.below⟩
set_option maxRecDepth 100000 in
theorem make_in (gen now : Int) (n j : Nat) (a : Int) (ok : Bool) (w : World) (h1 : 1 ≤ n) (hn : n ≤ 64) (hj : j < n)
    (ha : ∀ u, Calls Try.prog 12 #[.int .i64 (n : Int)] u fun e w' => e = .returned (.int .u64 a) ∧ u = w')
    (hh : ∀ u, Calls Try.prog 13 #[.int .u64 a, .int .i64 (j : Int)] u fun e w' => e = .returned (.bool true) ∧ u = w')
    (ht : ∀ (u : World) (p : Option Addr) (c : Nat), Ints u p (firsts n j now) → Calls Try.prog 21 #[.agg #[.int .i64 gen, .int .i64 0, .slice p n c, .int .i64 now, .slice none 0 0]] u (Asked u ok)) :
    Calls Try.prog 6 #[.int .i64 gen, .int .i64 (n : Int), .int .i64 (j : Int), .int .i64 now] w (TellsNew w (if ok then freshTk gen n j now else noTk) (fun v => .tuple #[v, .int .i64 (if ok then 0 else 1)])) := by
  have hr := fun (u : World) (b : Nat) (hx : u.cell? ⟨b, 0, none⟩ = some (.int .i64 (-1))) => repeat_any (-1) n b u h1 hn hx
  have M0 := Lib.hid ((Mem.start w).box #[.int .i64 0, .int .i64 0, .slice none 0 0, .int .i64 0, .slice none 0 0] 29)
  go_enter Try.func6, Try.ntmps6
  have M1 := Lib.hid (M0.out.box #[.int .i64 (-1)] 3)
  simp only [size_alloc] at M1
  have c0 : ((w.alloc (.cells #[.int .i64 0, .int .i64 0, .slice none 0 0, .int .i64 0, .slice none 0 0] 29)).alloc (.cells #[.int .i64 (-1)] 3)).cell? ⟨w.heap.size + 1, 0, none⟩ = some (.int .i64 (-1)) := by rw [cell_of_row _ _ 0 _ _ (0, 0) (M1.out.boxes 0 _ _ _ rfl)]; rfl
  go_upto_region 5 with (first
    | (go_at_call 12; (with_reducible refine (ha _).mono ?_); rintro e w1 ⟨rfl, rfl⟩)
    | (go_at_call 13; (with_reducible refine (hh _).mono ?_); rintro e w1 ⟨rfl, rfl⟩)
    | (go_at_call 20; (with_reducible refine (hr _ _ c0).mono ?_); rintro e w2 ⟨g, rfl, hF⟩; have F0 := Lib.hid hF; clear hF; obtain ⟨z, hz, fz⟩ := F0.out.cell hj))
  have hge : w.heap.size + 1 + 1 ≤ g := by have := F0.out.ge; simpa using this
  have M3 := Lib.hid (M1.out.on (F0.out.below.setCell (p := ⟨g, j, none⟩) F0.out.ge (.int .i64 now)))
  have hI : Ints (w2.setCell ⟨g, j, none⟩ (.int .i64 now)) (some ⟨g, 0, none⟩) (firsts n j now) := .inr ⟨g, 0, rfl, fun k hk => by
    rw [firsts_len] at hk
    rw [Nat.zero_add]
    by_cases hkj : k = j
    · subst hkj
      rw [World.cell?_setCell_same _ _ _ hz]
      simp [firsts, List.getD, hk]
    · rw [World.cell?_setCell_other _ _ _ _ (by intro e; simp only [Addr.mk.injEq] at e; omega)]
      have h := F0.out.has k (.int .i64 (-1)) (by simp [hk])
      rw [Nat.zero_add] at h
      rw [h]
      simp [firsts, List.getD, hk, Int.ofNat_inj, hkj]⟩
  have HI := Lib.hid hI
  clear c0 F0 hz fz hI M0 M1 ha hh hr
  generalize w2.setCell ⟨g, j, none⟩ (.int .i64 now) = V at *
  have M4 := Lib.hid (M3.out.box #[.int .i64 gen, .int .i64 0, .slice (some ⟨g, 0, none⟩) n n, .int .i64 now, .slice none 0 0] 29)
  have HI4 := Lib.hid (HI.out.below ((Below.refl _ _).alloc (Nat.le_refl _) (.cells #[.int .i64 gen, .int .i64 0, .slice (some ⟨g, 0, none⟩) n n, .int .i64 now, .slice none 0 0] 29)))
  clear M3 HI
  have HT := Lib.hid ht
  clear ht
  have hlen := Lib.hid (firsts_len n (j : Int) now)
  cases ok
  all_goals
    go_wp2_with (go_at_call 21; (with_reducible refine (HT.out _ _ _ HI4.out).mono ?_); rintro e u5 ⟨rfl, hb⟩; have M5 := Lib.hid (M4.out.on hb); have HI5 := Lib.hid (HI4.out.below hb); clear hb M4 HI4 HT; obtain ⟨d0, d1, d2, d3, d4, ff⟩ := box5f (M5.out.boxes 2 _ _ _ rfl); obtain ⟨b0, b1, b2, b3, b4⟩ := box5 (M5.out.boxes 0 _ _ _ rfl); have f0 := ff 0; have f1 := ff 1; have f2 := ff 2; have f3 := ff 3; have f4 := ff 4; clear ff)
  · refine bodyPost_ret (v := .tuple #[.agg #[.int .i64 0, .int .i64 0, .slice none 0 0, .int .i64 0, .slice none 0 0], .int .i64 1]) (by simp [results, Try.results6, go_sem, d0, d1, d2, d3, d4]) rfl ?_
    exact ⟨none, 0, 0, rfl, .inl rfl, .inl rfl, rfl, five_below M5.out.below _ _ _ _ _⟩
  · refine bodyPost_ret (v := .tuple #[.agg #[.int .i64 gen, .int .i64 0, .slice (some ⟨g, 0, none⟩) n n, .int .i64 now, .slice none 0 0], .int .i64 0]) (by simp [results, Try.results6, go_sem, d0, d1, d2, d3, d4]) rfl ?_
    exact ⟨some ⟨g, 0, none⟩, n, 0, by simp only [tokVal, freshTk, hlen.out]; rfl, five_ints HI5.out (by omega) _ _ _ _ _, .inr ⟨g, 0, rfl, by omega⟩, rfl, five_below M5.out.below _ _ _ _ _⟩
theorem start_ok {t : Tk} (h : tokenOk t = true) : 0 ≤ t.table.start := by
  unfold tokenOk Frame.tableOk at h
  simp only [Bool.and_eq_true] at h
  exact (Frame.isIn_yes h.2.1.1).1
theorem pfresh_any (gen n node now : Int) (w : World) : Calls Try.prog 6 #[.int .i64 gen, .int .i64 n, .int .i64 node, .int .i64 now] w (TellsNew w (fresh gen n node now).1 (fun v => .tuple #[v, .int .i64 (fresh gen n node now).2])) := by
  have ha := fun u => all_any n u
  have hh := fun u => has_any (all n) node u (Ring.all_lo n) (Ring.all_hi n)
  unfold fresh
  by_cases h : n < 1 ∨ 64 < n ∨ node < 0 ∨ n ≤ node
  · rw [if_pos h]
    refine make_core gen n node now (all n) (has (all n) node) w ha hh ?_
    rw [has_all]
    unfold okRing
    simp only [Bool.and_eq_false_iff, decide_eq_false_iff_not]
    omega
  · rw [if_neg h]
    obtain ⟨m, rfl⟩ : ∃ m : Nat, n = (m : Int) := ⟨n.toNat, by omega⟩
    obtain ⟨j, rfl⟩ : ∃ j : Nat, node = (j : Int) := ⟨node.toNat, by omega⟩
    have e : has (all (m : Int)) (j : Int) = true := by
      rw [has_all]
      unfold okRing
      simp only [Bool.and_eq_true, decide_eq_true_eq]
      omega
    rw [e] at hh
    have key := make_in gen now m j (all (m : Int)) (tokenOk (freshTk gen m j now)) w (by omega) (by omega) (by omega) ha hh (fun u p c hi => by
      have hp := ptoken_any (freshTk gen m j now) p none c 0 u (by simp only [freshTk, firsts_len]; omega) hi (.inl rfl) (fun r hr => by cases hr)
      simpa only [freshTk, firsts_len, List.length_nil] using hp)
    simp only [Int.toNat_natCast]
    cases hok : tokenOk (freshTk gen m j now)
    · rw [hok] at key
      rw [if_neg (fun h => by simp at h)]
      exact key
    · rw [hok] at key
      rw [if_pos ⟨rfl, start_ok hok⟩]
      exact key
end Go.Proofs.Ytagedggmfihhjaa.Token
