/-
  VaultKeeps, what lies while states are put: the vault, what is safe, the boxes of the safe state and of the last one; what each call leaves of it.
-/
import Derived.Test.YtlbdkigiphnabaaVpOpen
namespace Go.Proofs.Ytlbdkigiphnabaa.Vault
open Go.RowKit
open _root_.Go.Proofs.Ytlbdkigiphnabaa.Codec (IsBytes lt_of_heap frozen_of heap_set grown_set)
open _root_.Go.Proofs.Ytlbdkigiphnabaa.Disk (Sl Dsk Holds all dCrash stay gone over eWrite dWrite)

/-- The two boxes. -/
structure Bx (W : World) (b1 b2 : Nat) (ta la : Sv) (u : World) : Prop where
  box1 : u.heap[b1]? = some (.cells #[.int .i64 ta.p, .int .i64 ta.g, .int .i64 ta.h, .int .i64 ta.r] 25 (0, 0))
  box2 : u.heap[b2]? = some (.cells #[.int .i64 la.p, .int .i64 la.g, .int .i64 la.h, .int .i64 la.r] 25 (0, 0))
  below : Below W.heap.size W u
  ge1 : W.heap.size ≤ b1
  ge2 : W.heap.size ≤ b2
  ne : b1 ≠ b2
/-- .. and the vault: its states are all of l, of which t is safe. -/
structure Kst (W : World) (q b1 b2 : Nat) (l : List Sv) (y : Vs) (t ta la : Sv) (u : World) : Prop where
  pv : ∃ x, Pv W.heap.size u q W.heap.size 65536 y x
  bx : Bx W b1 b2 ta la u
  safe : Safe 65536 y t
  sub : ∀ s ∈ y.2, s ∈ l
  safe_in : t = zero ∨ t ∈ l
section
variable {W u u' : World} {q b1 b2 : Nat} {l : List Sv} {y : Vs} {t ta la : Sv} {B d : Nat} {room : Int} {s : Sl} {x x' : Option Nat}
theorem Bx.on (h : Bx W b1 b2 ta la u) (hb : Below u.heap.size u u') : Bx W b1 b2 ta la u' :=
  ⟨(hb.block _ (lt_of_heap h.box1)).trans h.box1, (hb.block _ (lt_of_heap h.box2)).trans h.box2, h.below.trans (hb.mono h.below.size), h.ge1, h.ge2, h.ne⟩
theorem Bx.off (h : Bx W b1 b2 ta la u) (hd : Dsk 65 5 B u d room s x) (ho : Off u u' x x') (hb : Below W.heap.size u u') : Bx W b1 b2 ta la u' :=
  ⟨ho.box hd h.box1 (by decide) (by decide) (by decide), ho.box hd h.box2 (by decide) (by decide) (by decide), h.below.trans hb, h.ge1, h.ge2, h.ne⟩
theorem Bx.set1 (h : Bx W b1 b2 ta la u) (p g k r : Int) : Bx W b1 b2 ⟨p, g, k, r⟩ la ((((u.setCell ⟨b1, 0, none⟩ (.int .i64 p)).setCell ⟨b1, 1, none⟩ (.int .i64 g)).setCell ⟨b1, 2, none⟩ (.int .i64 k)).setCell ⟨b1, 3, none⟩ (.int .i64 r)) := by
  have k1 := heap_set _ 0 _ (.int .i64 p) h.box1
  have k2 := heap_set _ 1 _ (.int .i64 g) k1
  have k3 := heap_set _ 2 _ (.int .i64 k) k2
  refine ⟨by rw [heap_set _ 3 _ _ k3]; rfl, ?_, ?_, h.ge1, h.ge2, h.ne⟩
  · exact (Below.heap_setCell _ _ _ _ h.ne.symm).trans ((Below.heap_setCell _ _ _ _ h.ne.symm).trans ((Below.heap_setCell _ _ _ _ h.ne.symm).trans ((Below.heap_setCell _ _ _ _ h.ne.symm).trans h.box2)))
  · exact (((h.below.setCell h.ge1 _).setCell h.ge1 _).setCell h.ge1 _).setCell h.ge1 _
theorem Bx.set2 (h : Bx W b1 b2 ta la u) (p g k r : Int) : Bx W b1 b2 ta ⟨p, g, k, r⟩ ((((u.setCell ⟨b2, 0, none⟩ (.int .i64 p)).setCell ⟨b2, 1, none⟩ (.int .i64 g)).setCell ⟨b2, 2, none⟩ (.int .i64 k)).setCell ⟨b2, 3, none⟩ (.int .i64 r)) := by
  have k1 := heap_set _ 0 _ (.int .i64 p) h.box2
  have k2 := heap_set _ 1 _ (.int .i64 g) k1
  have k3 := heap_set _ 2 _ (.int .i64 k) k2
  refine ⟨?_, by rw [heap_set _ 3 _ _ k3]; rfl, ?_, h.ge1, h.ge2, h.ne⟩
  · exact (Below.heap_setCell _ _ _ _ h.ne).trans ((Below.heap_setCell _ _ _ _ h.ne).trans ((Below.heap_setCell _ _ _ _ h.ne).trans ((Below.heap_setCell _ _ _ _ h.ne).trans h.box1)))
  · exact (((h.below.setCell h.ge2 _).setCell h.ge2 _).setCell h.ge2 _).setCell h.ge2 _
/-- What is neither a disk's, nor a vault's, nor bytes turns: the vault stays. -/
theorem Half.kept {a : Sv} {n : Int} {ts : List TypeId} (h : Half B u q d room a n s x) (hk : Kept ts u u') (h1 : 70 ∉ ts) (h2 : 65 ∉ ts) (h3 : 5 ∉ ts) : Half B u' q d room a n s x :=
  ⟨h.ge, hk.block _ _ _ _ h.blk h1, dsk_kept h.dsk h2 h3 hk⟩
theorem kept_box {b : Nat} {cs : Array Value} (h : u.heap[b]? = some (.cells cs 25 (0, 0))) (z1 z2 z3 z4 : Value) : Kept [25] u ((((u.setCell ⟨b, 0, none⟩ z1).setCell ⟨b, 1, none⟩ z2).setCell ⟨b, 2, none⟩ z3).setCell ⟨b, 3, none⟩ z4) := by
  have k1 := heap_set _ 0 _ z1 h
  have k2 := heap_set _ 1 _ z2 k1
  have k3 := heap_set _ 2 _ z3 k2
  exact (((Kept.grown h (by decide) (grown_set b 0 z1)).trans (.grown k1 (by decide) (grown_set b 1 z2))).trans (.grown k2 (by decide) (grown_set b 2 z3))).trans (.grown k3 (by decide) (grown_set b 3 z4))
theorem Kst.on (h : Kst W q b1 b2 l y t ta la u) (hb : Below u.heap.size u u') : Kst W q b1 b2 l y t ta la u' := by
  obtain ⟨x, h1⟩ := h.pv
  exact ⟨⟨x, Half.below h1 hb⟩, h.bx.on hb, h.safe, h.sub, h.safe_in⟩
theorem Kst.set1 (h : Kst W q b1 b2 l y t ta la u) (p g k r : Int) : Kst W q b1 b2 l y t ⟨p, g, k, r⟩ la ((((u.setCell ⟨b1, 0, none⟩ (.int .i64 p)).setCell ⟨b1, 1, none⟩ (.int .i64 g)).setCell ⟨b1, 2, none⟩ (.int .i64 k)).setCell ⟨b1, 3, none⟩ (.int .i64 r)) := by
  obtain ⟨x, h1⟩ := h.pv
  exact ⟨⟨x, Half.kept h1 (kept_box h.bx.box1 _ _ _ _) (by decide) (by decide) (by decide)⟩, h.bx.set1 p g k r, h.safe, h.sub, h.safe_in⟩
theorem Kst.set2 (h : Kst W q b1 b2 l y t ta la u) (p g k r : Int) : Kst W q b1 b2 l y t ta ⟨p, g, k, r⟩ ((((u.setCell ⟨b2, 0, none⟩ (.int .i64 p)).setCell ⟨b2, 1, none⟩ (.int .i64 g)).setCell ⟨b2, 2, none⟩ (.int .i64 k)).setCell ⟨b2, 3, none⟩ (.int .i64 r)) := by
  obtain ⟨x, h1⟩ := h.pv
  exact ⟨⟨x, Half.kept h1 (kept_box h.bx.box2 _ _ _ _) (by decide) (by decide) (by decide)⟩, h.bx.set2 p g k r, h.safe, h.sub, h.safe_in⟩

theorem eput_cases (room : Int) (y : Vs) (s : Sv) : (ePut room y s = 0 ∧ right s = true ∧ rises (last y.2) s = true ∧ over room y.1 (rec s) = false) ∨ 0 < ePut room y s := by
  unfold ePut eWrite
  cases right s with
  | false => exact .inr (by simp)
  | true =>
    cases rises (last y.2) s with
    | false => exact .inr (by simp)
    | true =>
      cases over room y.1 (rec s) with
      | false => exact .inl ⟨by simp, rfl, rfl, rfl⟩
      | true => exact .inr (by simp)
theorem vput_ok {room : Int} {y : Vs} {s : Sv} (h : right s = true ∧ rises (last y.2) s = true ∧ over room y.1 (rec s) = false) : (vPut room y s).2 = y.2 ++ [s] := by
  unfold vPut
  rw [if_pos h]
theorem kput_no (h : Kst W q b1 b2 l y t ta la u) (a : Sv) (hn : Nums a) (e0 : Int) (he : ePut 65536 y a = e0) :
    Calls Try.prog 11 #[.pointer (some ⟨q, 0, none⟩), val a] u fun e w' => e = .returned (.int .i64 e0) ∧ Below W.heap.size W w' := by
  subst he
  obtain ⟨x, h1⟩ := h.pv
  refine (way.put h1 h.bx.below.size h.safe.good (by omega) a hn).mono ?_
  rintro e w' ⟨rfl, x', -, -, h3⟩
  exact ⟨rfl, h.bx.below.trans h3⟩
theorem kput_yes (h : Kst W q b1 b2 l y t ta la u) (a : Sv) (hn : Nums a) (ha : a ∈ l) (he : ePut 65536 y a = 0) (hok : right a = true ∧ rises (last y.2) a = true ∧ over 65536 y.1 (rec a) = false) :
    Calls Try.prog 11 #[.pointer (some ⟨q, 0, none⟩), val a] u fun e w' => e = .returned (.int .i64 0) ∧ Kst W q b1 b2 l (vPut 65536 y a) t ta la w' := by
  obtain ⟨x, h1⟩ := h.pv
  have := way.put h1 h.bx.below.size h.safe.good (by omega) a hn
  rw [he] at this
  refine this.mono ?_
  rintro e w' ⟨rfl, x', h2, h3, h4⟩
  refine ⟨rfl, ⟨x', h2⟩, h.bx.off (way.dsk h1) h3 h4, safe_put h.safe a, ?_, h.safe_in⟩
  rw [vput_ok hok]
  intro s hs
  rcases List.mem_append.1 hs with hs | hs
  · exact h.sub s hs
  · simp only [List.mem_singleton] at hs
    exact hs ▸ ha
theorem last_sync (room : Int) (y : Vs) : last (vSync room y).2 = last y.2 := by
  unfold vSync
  split
  · rfl
  · rfl
theorem ksync (h : Kst W q b1 b2 l y t ta la u) (hl : last y.2 ∈ l) :
    Calls Try.prog 14 #[.pointer (some ⟨q, 0, none⟩)] u fun e w' => e = .returned (.tuple #[]) ∧ Kst W q b1 b2 l (vSync 65536 y) (last y.2) ta la w' := by
  obtain ⟨x, h1⟩ := h.pv
  refine (way.sync h1 h.bx.below.size h.safe.good (by omega)).mono ?_
  rintro e w' ⟨rfl, x', h2, h3, h4⟩
  refine ⟨rfl, ⟨x', h2⟩, h.bx.off (way.dsk h1) h3 h4, safe_sync h.safe, ?_, .inr hl⟩
  unfold vSync
  split
  · intro s hs
    simp only [List.mem_singleton] at hs
    exact hs ▸ hl
  · exact h.sub

/-- Behind the crash. -/
structure Cst (W : World) (b1 b2 : Nat) (s : Sl) (ta la : Sv) (u : World) : Prop where
  dsk : ∃ x, Dsk 65 5 W.heap.size u W.heap.size 65536 s x
  bx : Bx W b1 b2 ta la u
theorem kcrash (h : Kst W q b1 b2 l y t ta la u) (keep : Int) (hk : Num keep) :
    Calls Try.prog 16 #[.pointer (some ⟨W.heap.size, 0, none⟩), .int .i64 keep] u fun e w' => e = .returned (.int .i64 (gone keep y.1)) ∧ Cst W b1 b2 (dCrash keep y.1) ta la w' := by
  obtain ⟨x, h1⟩ := h.pv
  have hd := way.dsk h1
  refine (Disk.crash_any hd h.safe.good.holds (by omega) h.bx.below.size keep hk.1 hk.2).mono ?_
  rintro e w' ⟨rfl, x', h2, h3, h4⟩
  exact ⟨rfl, ⟨x', h2⟩, h.bx.off hd (.aside hd h3) h4⟩
theorem kopen (h : Cst W b1 b2 s ta la u) (hh : Holds 65536 s) (hy : IsBytes (all s)) (l' : List Sv) (hs : states (all s) = some l') :
    Calls Try.prog 8 #[.pointer (some ⟨W.heap.size, 0, none⟩)] u fun e w' => ∃ q, e = .returned (.tuple #[.pointer (some ⟨q, 0, none⟩), .int .i64 0]) ∧ (∃ x, Pv W.heap.size w' q W.heap.size 65536 (cut 65536 s, l') x) ∧ Bx W b1 b2 ta la w' := by
  obtain ⟨x, h1⟩ := h.dsk
  refine (popen_yes h1 h.bx.below.size hh (by omega) hy hs).mono ?_
  rintro e w' ⟨q, rfl, x', h2, h3, h4⟩
  exact ⟨q, rfl, ⟨x', h2⟩, h.bx.off h1 h3 h4⟩
/-- What is asked at the end. -/
theorem keeps_end (h : Safe 65536 y t) (hsub : ∀ s ∈ y.2, s ∈ l) (keep : Int) : ∃ l', states (all (dCrash keep y.1)) = some l' ∧ Holds 65536 (dCrash keep y.1) ∧ IsBytes (all (dCrash keep y.1)) ∧ rises t (last l') = true ∧ rises (last l') (last y.2) = true ∧ (keep ≤ 0 → same4 (last l') t = true) ∧
    (same4 (last l') t || l.any (same4 (last l'))) = true := by
  obtain ⟨n, hn, h1, h2, h3⟩ := good_open h.good keep
  obtain ⟨k1, k2, k3, k4⟩ := never_back h keep n hn
  refine ⟨_, h2, Disk.holds_crash _ h.good.holds, ?_, k1, k2, fun hk => same4_iff.2 (k3 hk), ?_⟩
  · rw [all_crash, h.good.file]
    exact (recs_bytes _).take _
  · rcases k4 with k4 | k4
    · rw [same4_iff.2 k4]; rfl
    · rw [Bool.or_eq_true]
      exact .inr (List.any_eq_true.2 ⟨_, hsub _ k4, same4_refl _⟩)
end
end Go.Proofs.Ytlbdkigiphnabaa.Vault
