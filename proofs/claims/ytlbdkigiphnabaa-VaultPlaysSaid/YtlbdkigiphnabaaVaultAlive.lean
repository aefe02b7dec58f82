/-
  The live question of layer 7 returns true, whatever the program's vault is, if its calls do what is asked of them; of what lay when the call began nothing has turned.
-/
import Derived.Test.YtlbdkigiphnabaaVaultWay
namespace Go.Proofs.Ytlbdkigiphnabaa.Vault
open Go.RowKit
open _root_.Go.Proofs.Ytlbdkigiphnabaa.Codec (IsBytes)
open _root_.Go.Proofs.Ytlbdkigiphnabaa.Disk (Sl Ref Dsk Holds all dCrash over dWrite eWrite dSync stay gone)

/-- New. -/
theorem new7 (room : Int) (w : World) (h0 : 0 ≤ room) (h1 : room ≤ 16777216) :
    Calls Try.prog 7 #[.int .i64 room] w fun e w' => e = .returned (.tuple #[.pointer (some ⟨w.heap.size, 0, none⟩), .int .i64 0]) ∧ Dsk 65 5 w.heap.size w' w.heap.size room ([], []) none ∧ Below w.heap.size w w' := by
  have hd : Dsk 65 5 w.heap.size (w.alloc (.cells #[.int .i64 room, .slice none 0 0, .int .i64 0] 65)) w.heap.size room ([], []) none := ⟨Nat.le_refl _, none, 0, heap_alloc_new _ _, World.ownsRow_nil _ _ _ _, rfl⟩
  have hb : Below w.heap.size w (w.alloc (.cells #[.int .i64 room, .slice none 0 0, .int .i64 0] 65)) := (Below.refl _ _).alloc (Nat.le_refl _) _
  have HD := Lib.hid hd
  have HB := Lib.hid hb
  clear hd hb
  go_enter Try.func7, Try.ntmps7
  go_wp2
  go_ret2
  exact ⟨rfl, HD.out, HB.out⟩

def s1 : Sv := ⟨5, 5, 0, 2⟩
def s2 : Sv := ⟨7, 5, 3, 2⟩
def s3 : Sv := ⟨6, 6, 0, 2⟩
def y0 : Vs := (([], []), [])
def y1 : Vs := (([], rec s1), [s1])
def y2 : Vs := ((rec s1, []), [s1])
def y3 : Vs := ((rec s1, rec s2), [s1, s2])
theorem over1 : over 200 ([], []) (rec s1) = false := by simp [over, len_rec]
theorem over2 : over 200 (rec s1, []) (rec s2) = false := by simp [over, len_rec]
theorem p1 : ePut 200 y0 s1 = 0 ∧ vPut 200 y0 s1 = y1 := by
  have hr : right s1 = true := by decide
  have hs : rises (last []) s1 = true := by decide
  simp [ePut, vPut, y0, y1, hr, hs, eWrite, dWrite, over1]
theorem p2 : vSync 200 y1 = y2 := by simp [vSync, y1, y2, dSync, all]
theorem p3 : ePut 200 y2 s2 = 0 ∧ vPut 200 y2 s2 = y3 := by
  have hr : right s2 = true := by decide
  have hs : rises (last [s1]) s2 = true := by decide
  simp [ePut, vPut, y2, y3, hr, hs, eWrite, dWrite, over2]
theorem p4 : ePut 200 y3 s3 = 7 ∧ vPut 200 y3 s3 = y3 := by
  have hr : right s3 = true := by decide
  have hs : rises (last [s1, s2]) s3 = false := by decide
  simp [ePut, vPut, y3, hr, hs]
theorem g0 : Good 200 y0 := good_none (by omega)
theorem g1 : Good 200 y1 := p1.2 ▸ good_put g0 s1
theorem g2 : Good 200 y2 := p2 ▸ good_sync g1
theorem g3 : Good 200 y3 := p3.2 ▸ good_put g2 s2
theorem p5 : states (all (dCrash 31 y3.1)) = some [s1] ∧ (cut 200 (dCrash 31 y3.1)).1.length = 32 := by
  obtain ⟨n, hn, -, h1, h2⟩ := good_open g3 31
  have e : n = 1 := by
    rw [hn]
    have : stay 31 y3.1 = 31 := by simp [stay, y3, len_rec]
    rw [this]
    simp [y3, len_rec]
  subst e
  refine ⟨h1, ?_⟩
  have hl : (all (dCrash 31 y3.1)).length = 63 := by
    rw [all_crash]
    simp [y3, all, stay, len_rec]
  have h3 := congrArg List.length h2.file
  unfold cut at h3 ⊢
  rw [hl] at h3 ⊢
  rw [if_pos (by decide)] at h3 ⊢
  have hm : Disk.much 200 ((all (dCrash 31 y3.1)).take (32 * (63 / 32))) = false := by
    simp only [Disk.much, decide_eq_false_iff_not, List.length_take]
    omega
  simp only [Disk.dReplace, hm, Bool.false_eq_true, if_false, List.length_take, hl]
  decide
theorem bytes3 : IsBytes (all (dCrash 31 y3.1)) := by rw [all_crash, g3.file]; exact (recs_bytes _).take _
theorem hold3 : Holds 200 (dCrash 31 y3.1) := Disk.holds_crash _ g3.holds

variable {PV : Nat → World → Nat → Nat → Int → Vs → Option Nat → Prop}
/-- The vault, and all that has been. -/
def Now (PV : Nat → World → Nat → Nat → Int → Vs → Option Nat → Prop) (W : World) (q : Nat) (y : Vs) (w : World) : Prop := (∃ x, PV W.heap.size w q W.heap.size 200 y x) ∧ Below W.heap.size W w
theorem Now.below {W w w' : World} {q : Nat} {y : Vs} (P : Way PV) (h : Now PV W q y w) (hb : Below w.heap.size w w') : Now PV W q y w' := by
  obtain ⟨⟨x, h1⟩, h2⟩ := h
  exact ⟨⟨x, P.below h1 hb⟩, h2.trans (hb.mono h2.size)⟩
theorem now_put {W w : World} {q : Nat} {y y' : Vs} (P : Way PV) (h : Now PV W q y w) (hg : Good 200 y) (s : Sv) (hn : Nums s) (e0 : Int) (he : ePut 200 y s = e0 ∧ vPut 200 y s = y') :
    Calls Try.prog 11 #[.pointer (some ⟨q, 0, none⟩), val s] w fun e w' => e = .returned (.int .i64 e0) ∧ Now PV W q y' w' := by
  obtain ⟨⟨x, h1⟩, h2⟩ := h
  obtain ⟨rfl, rfl⟩ := he
  refine (P.put h1 h2.size hg (by omega) s hn).mono ?_
  rintro e w' ⟨rfl, x', h3, -, h4⟩
  exact ⟨rfl, ⟨x', h3⟩, h2.trans h4⟩
theorem now_sync {W w : World} {q : Nat} {y y' : Vs} (P : Way PV) (h : Now PV W q y w) (hg : Good 200 y) (he : vSync 200 y = y') :
    Calls Try.prog 14 #[.pointer (some ⟨q, 0, none⟩)] w fun e w' => e = .returned (.tuple #[]) ∧ Now PV W q y' w' := by
  obtain ⟨⟨x, h1⟩, h2⟩ := h
  subst he
  refine (P.sync h1 h2.size hg (by omega)).mono ?_
  rintro e w' ⟨rfl, x', h3, -, h4⟩
  exact ⟨rfl, ⟨x', h3⟩, h2.trans h4⟩
/-- The disk alone, and all that has been. -/
def Dnow (W : World) (s : Sl) (w : World) : Prop := (∃ x, Dsk 65 5 W.heap.size w W.heap.size 200 s x) ∧ Below W.heap.size W w
theorem now_crash {W w : World} {q : Nat} {y : Vs} (P : Way PV) (h : Now PV W q y w) (hg : Good 200 y) (keep : Int) (k0 : -9223372036854775808 ≤ keep) (k1 : keep ≤ 9223372036854775807) :
    Calls Try.prog 16 #[.pointer (some ⟨W.heap.size, 0, none⟩), .int .i64 keep] w fun e w' => e = .returned (.int .i64 (gone keep y.1)) ∧ Dnow W (dCrash keep y.1) w' := by
  obtain ⟨⟨x, h1⟩, h2⟩ := h
  refine (Disk.crash_any (P.dsk h1) hg.holds (by omega) h2.size keep k0 k1).mono ?_
  rintro e w' ⟨rfl, x', h3, -, h4⟩
  exact ⟨rfl, ⟨x', h3⟩, h2.trans h4⟩
theorem now_open {W w : World} {s : Sl} {l : List Sv} (P : Way PV) (h : Dnow W s w) (hh : Holds 200 s) (hy : IsBytes (all s)) (hs : states (all s) = some l) :
    Calls Try.prog 8 #[.pointer (some ⟨W.heap.size, 0, none⟩)] w fun e w' => ∃ q, e = .returned (.tuple #[.pointer (some ⟨q, 0, none⟩), .int .i64 0]) ∧ Now PV W q (cut 200 s, l) w' := by
  obtain ⟨⟨x, h1⟩, h2⟩ := h
  refine (P.opens h1 h2.size hh (by omega) hy).mono ?_
  rintro e w' (⟨h3, -⟩ | ⟨l', q, h3, rfl, x', h4, -, h5⟩)
  · rw [hs] at h3; cases h3
  · rw [hs] at h3
    simp only [Option.some.injEq] at h3
    subst h3
    exact ⟨q, rfl, ⟨x', h4⟩, h2.trans h5⟩
theorem now_state {W w : World} {q : Nat} {y : Vs} (P : Way PV) (h : Now PV W q y w) (a : Sv) (ha : last y.2 = a) :
    Calls Try.prog 21 #[.pointer (some ⟨q, 0, none⟩)] w fun e w' => e = .returned (val a) ∧ Now PV W q y w' := by
  have h' := h
  obtain ⟨⟨x, h1⟩, h2⟩ := h
  subst ha
  refine (P.state h1).mono ?_
  rintro e w' ⟨rfl, hb⟩
  exact ⟨rfl, h'.below P hb⟩
theorem now_recs {W w : World} {q : Nat} {y : Vs} (P : Way PV) (h : Now PV W q y w) (n : Int) (hn : (y.2.length : Int) = n) :
    Calls Try.prog 22 #[.pointer (some ⟨q, 0, none⟩)] w fun e w' => e = .returned (.int .i64 n) ∧ Now PV W q y w' := by
  have h' := h
  obtain ⟨⟨x, h1⟩, h2⟩ := h
  subst hn
  refine (P.recs h1).mono ?_
  rintro e w' ⟨rfl, hb⟩
  exact ⟨rfl, h'.below P hb⟩
theorem now_safe {W w : World} {q : Nat} {y : Vs} (P : Way PV) (h : Now PV W q y w) (n : Int) (hn : (y.1.1.length : Int) = n) :
    Calls Try.prog 25 #[.pointer (some ⟨W.heap.size, 0, none⟩)] w fun e w' => e = .returned (.int .i64 n) ∧ w = w' := by
  obtain ⟨⟨x, h1⟩, h2⟩ := h
  subst hn
  exact Disk.safe_any (P.dsk h1)
theorem dnow_new {W w : World} (h : Dsk 65 5 W.heap.size w W.heap.size 200 ([], []) none) (hb : Below W.heap.size W w) : Dnow W y0.1 w := ⟨⟨none, h⟩, hb⟩
theorem n1 : Nums s1 := by simp [Nums, Num, s1]
theorem n2 : Nums s2 := by simp [Nums, Num, s2]
theorem n3 : Nums s3 := by simp [Nums, Num, s3]
theorem o0 : states (all y0.1) = some [] := rfl
theorem b0 : IsBytes (all y0.1) := by intro x hx; cases hx
theorem c0 : (cut 200 y0.1, ([] : List Sv)) = y0 := rfl
theorem l1 : last [s1] = s1 := rfl

set_option maxRecDepth 100000 in
set_option maxHeartbeats 2000000 in
theorem alive_way (P : Way PV) (w : World) : Calls Try.prog 6 #[] w fun e w' => e = .returned (.bool true) ∧ Below w.heap.size w w' := by
  have heq := fun (u : World) => eql_own s1 s1 u
  rw [same4_refl] at heq
  have P4 := Lib.hid p5.1
  have P5 := Lib.hid (show ((cut 200 (dCrash 31 y3.1)).1.length : Int) = 32 by rw [p5.2]; rfl)
  have hnew := new7 200 w (by omega) (by omega)
  have hput1 := fun (u : World) (q : Nat) (h : Now PV w q y0 u) => now_put P h g0 s1 n1 0 p1
  have hput2 := fun (u : World) (q : Nat) (h : Now PV w q y2 u) => now_put P h g2 s2 n2 0 p3
  have hput3 := fun (u : World) (q : Nat) (h : Now PV w q y3 u) => now_put P h g3 s3 n3 7 p4
  have hopen1 := fun (u : World) (h : Dnow w y0.1 u) => now_open P h g0.holds b0 o0
  rw [c0] at hopen1
  have hopen2 := fun (u : World) (h : Dnow w (dCrash 31 y3.1) u) => now_open P h hold3 bytes3 P4.out
  have hstate := fun (u : World) (q : Nat) (h : Now PV w q (cut 200 (dCrash 31 y3.1), [s1]) u) => now_state P h s1 l1
  simp only [val, s1, s2, s3] at heq hput1 hput2 hput3 hstate
  go_enter Try.func6, Try.ntmps6
  go_wp2_with (first
    | (go_at_call 7; (with_reducible refine hnew.mono ?_); rintro e u1 ⟨rfl, hd, hb⟩; have N1 := Lib.hid (dnow_new hd hb); clear hnew hd hb)
    | (go_at_call 8; (with_reducible refine (hopen1 _ N1.out).mono ?_); rintro e u2 ⟨q1, rfl, hn⟩; have N2 := Lib.hid hn; clear hn N1 hopen1)
    | (go_at_call 11; (with_reducible refine (hput1 _ _ N2.out).mono ?_); rintro e u3 ⟨rfl, hn⟩; have N3 := Lib.hid hn; clear hn N2 hput1)
    | (go_at_call 14; (with_reducible refine (now_sync P N3.out g1 p2).mono ?_); rintro e u4 ⟨rfl, hn⟩; have N4 := Lib.hid hn; clear hn N3)
    | (go_at_call 11; (with_reducible refine (hput2 _ _ N4.out).mono ?_); rintro e u5 ⟨rfl, hn⟩; have N5 := Lib.hid hn; clear hn N4 hput2)
    | (go_at_call 11; (with_reducible refine (hput3 _ _ N5.out).mono ?_); rintro e u6 ⟨rfl, hn⟩; have N6 := Lib.hid hn; clear hn N5 hput3)
    | (go_at_call 16; (with_reducible refine (now_crash P N6.out g3 31 (by omega) (by omega)).mono ?_); rintro e u7 ⟨rfl, hn⟩; have N7 := Lib.hid hn; clear hn N6)
    | (go_at_call 8; (with_reducible refine (hopen2 _ N7.out).mono ?_); rintro e u8 ⟨q2, rfl, hn⟩; have N8 := Lib.hid hn; clear hn N7 hopen2)
    | (go_at_call 21; (with_reducible refine (hstate _ _ N8.out).mono ?_); rintro e u9 ⟨rfl, hn⟩; have N9 := Lib.hid hn; clear hn N8 hstate)
    | (go_at_call 22; (with_reducible refine (now_recs P N9.out 1 rfl).mono ?_); rintro e u10 ⟨rfl, hn⟩; have N10 := Lib.hid hn; clear hn N9)
    | (go_at_call 25; (with_reducible refine (now_safe P N10.out 32 P5.out).mono ?_); rintro e u11 ⟨rfl, rfl⟩))
  go_ret
  exact ⟨rfl, N10.out.2⟩
end Go.Proofs.Ytlbdkigiphnabaa.Vault
