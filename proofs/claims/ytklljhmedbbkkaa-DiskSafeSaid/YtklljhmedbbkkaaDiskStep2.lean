/-
  One act, on the program's disk and on the document's: Replace: step returns true, and leaves both as the document says; any such act, any disk.
-/
import Derived.Test.YtklljhmedbbkkaaDiskBoth
namespace Go.Proofs.Ytklljhmedbbkkaa.Disk
open Go.RowKit Codec

section
variable {B d m : Nat} {room : Int} {s : Sl} {x : Option Nat} {w : World}

set_option maxRecDepth 100000 in
set_option maxHeartbeats 1000000 in
theorem step_replace (k n : Int) (q : Option Addr) (c : Nat) (b : List Int) (h : Pair 44 37 5 B w d m room s s x) (hr : Holds room s) (hm : room ≤ 16777216) (hBw : B ≤ w.heap.size)
    (hk : k % 5 = 4) (k0 : 0 ≤ k) (k1 : k < 256) (hbc : ∀ u, Below B w u → Cel u q b) (hq : q = none → b = [] ∧ c = 0) (hl : (b.length : Int) ≤ 3000) :
    Calls Try.prog 15 #[.pointer (some ⟨d, 0, none⟩), .pointer (some ⟨m, 0, none⟩), .agg #[.int .u8 k, .slice q b.length c, .int .i64 n]] w fun e w' => e = .returned (.bool true) ∧ Both B w d m room (dReplace room s b) w' := by
  have hb0 : Below w.heap.size w (w.alloc (.cells #[.int .u8 k, .slice q b.length c, .int .i64 n] 40)) := (Below.refl _ _).alloc (Nat.le_refl _) _
  have gb : (w.alloc (.cells #[.int .u8 k, .slice q b.length c, .int .i64 n] 40)).cell? ⟨w.heap.size, 1, none⟩ = some (.slice q b.length c) := by
    rw [cell_of_row _ _ 1 _ _ (0, 0) (heap_alloc_new _ _)]; rfl
  have hd : w.heap.size ≠ d := fun e => Nat.lt_irrefl d (e ▸ h.1.lt)
  have hxb : some w.heap.size ≠ x := fun e => Nat.lt_irrefl _ (h.own_lt _ e.symm)
  have P0 := h.below hb0
  have hr1 : Holds room (dReplace room s b) := holds_replace b hr
  have hB0 : B ≤ (w.alloc (.cells #[.int .u8 k, .slice q b.length c, .int .i64 n] 40)).heap.size := Nat.le_trans hBw hb0.size
  have hstep := replace_any P0.1 hB0 q c b (hbc _ (hb0.mono hBw)) hq hl
  have PP := Lib.hid P0
  clear h P0 hB0
  obtain ⟨s1, hs1⟩ : ∃ s1, s1 = dReplace room s b := ⟨_, rfl⟩
  rw [← hs1] at hr1 ⊢
  have HS := Lib.hid hs1
  clear hs1
  go_enter Try.func15, Try.ntmps15
  go_wp2_with (first
    | (go_at_call 10; refine hstep.mono ?_; rintro e w1 ⟨rfl, hl1⟩; obtain ⟨x1, P1, hb1, hbx⟩ := PP.out.left (by decide) (by decide) (by decide) hl1; have P1H := Lib.hid P1; have B1 := Lib.hid ((hb0.mono hBw).trans hb1); have gb1 : w1.cell? ⟨w.heap.size, 1, none⟩ = some (.slice q b.length c) := (World.cell?_of_block (a := ⟨w.heap.size, 1, none⟩) (hbx w.heap.size (by simp) hd hxb).1).trans gb; clear gb hbx; clear hstep hl1 PP P1 hb1 hb0)
    | (go_at_call 21; refine (rreplace_any P1H.out.2 P1H.out.own_lt q c b (hbc _ B1.out) hq hl).mono ?_; rintro e w2 ⟨rfl, hl2⟩; obtain ⟨P2, hb2, -⟩ := P1H.out.right (by decide) (by decide) hl2; rw [← HS.out] at P2; have P2H := Lib.hid P2; have B2 := Lib.hid (B1.out.trans hb2); obtain ⟨p, c', -, -, -, g1, -⟩ := P2.2.cells; clear hl2 P1H P2 hb2 B1 gb1))
  have T0 := Lib.hid (P2H.out.below (Below.refl _ _).drew)
  have K0 := Lib.hid B2.out.drew
  have g0 : w2.drew.cell? ⟨m, 1, none⟩ = some (.slice p s1.1.length c') := g1
  clear P2H B2 HS
  go_region_held (fun u => u.cell? ⟨m, 1, none⟩ = some (.slice p s1.1.length c')) (first | assumption | exact g0) (first
    | (go_at_call 14; (with_reducible refine (file_any T0.out.1 hr1 hm).mono ?_); rintro e u1 ⟨v1, rfl, ho1, hb1⟩; have T1 := Lib.hid (T0.out.below hb1); have K1 := Lib.hid (K0.out.trans (hb1.mono (Nat.le_trans hBw K0.out.size))); have l1 : u1.cell? ⟨m, 1, none⟩ = some (.slice p s1.1.length c') := T0.out.2.keep1 hb1 g0; have O1 := Lib.hid ho1; have t1 := text_any ho1; clear ho1 hb1)
    | (go_at_call 22; (with_reducible refine (rfile_any T1.out.2 hr1 hm).mono ?_); rintro e u2 ⟨v2, rfl, ho2, hb2⟩; have T2 := Lib.hid (T1.out.below hb2); have K2 := Lib.hid (K1.out.trans (hb2.mono (Nat.le_trans hBw K1.out.size))); have l2 : u2.cell? ⟨m, 1, none⟩ = some (.slice p s1.1.length c') := T1.out.2.keep1 hb2 l1; have t2 := text_any ho2; have t3 := text_any (own_below O1.out hb2); clear ho2 hb2)
    | (go_at_call 13; (with_reducible refine (safe_any T2.out.1).mono ?_); rintro e u3 ⟨rfl, rfl⟩))
  all_goals go_wp2
  all_goals go_ret
  all_goals exact ⟨rfl, ⟨x1, T2.out⟩, K2.out⟩
end
end Go.Proofs.Ytklljhmedbbkkaa.Disk
