/-
  The program's disk: bytes.Clone; loose, Safe, File, Sync, Crash, Write, Replace, of any disk's block whose file it owns, and of none: each tells and leaves what the document says; of what lay beside the disk's own block and its file's nothing has turned; any bytes, any number.
-/
import Derived.Test.YtlbdkigiphnabaaChecked
import Derived.Test.YtlbdkigiphnabaaDiskWords
import Derived.Laws.AppendOwnNone
import Derived.Outline
import Derived.WalkSpells
import Derived.BigQuiet
import Derived.Deep.RegionHeld3
namespace Go.Proofs.Ytlbdkigiphnabaa.Disk
open Go.RowKit Codec

theorem info8 : (Try.prog.info? 5).map (fun i => (i.zero, i.size, i.bytes)) = some (some (.int .u8 0), 1, 1) := by kernel_rfl
theorem eq_nil (w : World) (a : Option Addr) (n c n' c' : Nat) : (binOp .eql 39 (.slice a n c) (.slice none n' c')).run Try.prog w = .ok (.bool a.isNone) w := Lib.run_eql_slice_nil w _ _ a n c n' c' Try.underlying39

set_option maxRecDepth 100000 in
theorem clone_nil (n c : Nat) (w : World) : Calls Try.prog 41 #[.slice none n c] w fun e w' => e = .returned (.slice none 0 0) ∧ w = w' := by
  have hq := fun (w : World) a n c n' c' => eq_nil w a n c n' c'
  go_enter Try.func41, Try.ntmps41
  go_wp2
  go_ret
  exact ⟨rfl, rfl⟩

set_option maxRecDepth 100000 in
theorem clone_some (a : Addr) (c : Nat) (xs : List Int) (w : World) (hl : (xs.length : Int) ≤ 16777216) (hc : Cel w (some a) xs) :
    Calls Try.prog 41 #[.slice (some a) xs.length c] w (Made 5 w xs id) := by
  obtain ⟨i0, hi, hz0, hz1, hz2⟩ := info_parts info8
  have hb : Below w.heap.size w (w.alloc (.cells #[] 5)) := (Below.refl _ _).alloc (Nat.le_refl _) _
  have HC := Lib.hid (hc.at_ hb); clear hc
  have hown : (w.alloc (.cells #[] 5)).ownsRow w.heap.size 5 1 (.slice (some ⟨w.heap.size, 0, none⟩) 0 0) 0 [] := World.ownsRow_made w #[] 0 (Nat.le_refl _) (Nat.zero_le _) rfl
  have hq := fun (w : World) a n c n' c' => eq_nil w a n c n' c'
  go_enter Try.func41, Try.ntmps41
  go_wp2_with (at_builtin; refine wpList_append_own _ rfl (.tmp 5) (.tmp 6) 39 rfl w.heap.size 5 i0 (.int .u8 0) 1 1 Try.underlying39 hi hz0 hz1 hz2 rfl (by decide) _ _ _ rfl hown a xs.length c (cells8 xs) rfl (by rw [len_cells8, Nat.mul_one]) HC.out (cells8_one xs) (by unfold maxLen; omega) (by omega) (by simp) ?_)
  intro v w1 ho hg _
  have hb1 := hb.grown hg (by simp) (fun k hk => by simp [Value.ownBlock] at hk; omega)
  clear hg hown HC
  go_wp2
  go_ret
  exact ⟨v, rfl, ho, hb1⟩

/-- bytes.Clone, of any slice. -/
theorem clone_any (p : Option Addr) (c : Nat) (xs : List Int) (w : World) (hl : (xs.length : Int) ≤ 16777216) (hc : Cel w p xs) (hp : p = none → xs = []) :
    Calls Try.prog 41 #[.slice p xs.length c] w (Made 5 w xs id) := by
  cases p with
  | none =>
    obtain rfl := hp rfl
    refine (clone_nil 0 c w).mono ?_
    rintro e w' ⟨rfl, rfl⟩
    exact ⟨_, rfl, World.ownsRow_nil _ _ _ _, Below.refl _ _⟩
  | some a => exact clone_some a c xs w hl hc

section
variable {B d : Nat} {room : Int} {s : Sl} {x : Option Nat} {w : World}

/-- loose. -/
theorem loose_any (h : Dsk 65 5 B w d room s x) (hr : Holds room s) (hm : room ≤ 16777216) :
    Calls Try.prog 39 #[.pointer (some ⟨d, 0, none⟩)] w fun e w' => e = .returned (.int .i64 (s.2.length : Int)) ∧ Below w.heap.size w w' := by
  obtain ⟨p, c, c0, c1, c2, -⟩ := h.cells
  clear h c0
  have hn : ((all s).length : Int) = (s.1.length : Int) + (s.2.length : Int) := by simp [all]
  simp only [Holds] at hr
  generalize (all s).length = n at *
  generalize s.1.length = k at *
  generalize s.2.length = l at *
  have h1 : (k : Int) ≤ (n : Int) := by omega
  have h2 : (n : Int) ≤ 16777216 := by omega
  have HN := Lib.hid hn
  clear hn hr hm
  go_enter Try.func39, Try.ntmps39
  go_wp2
  go_quiet (fail)
  go_wp2
  go_ret
  refine ⟨?_, rfl, rfl, rfl, Nat.le_refl _, fun _ _ => rfl⟩
  have := HN.out
  show Ending.returned (Value.int IntKind.i64 ((n : Int) - (k : Int))) = _
  rw [show (n : Int) - (k : Int) = (l : Int) by omega]

/-- Safe. -/
theorem safe_any (h : Dsk 65 5 B w d room s x) :
    Calls Try.prog 25 #[.pointer (some ⟨d, 0, none⟩)] w fun e w' => e = .returned (.int .i64 (s.1.length : Int)) ∧ w = w' := by
  obtain ⟨p, c, c0, c1, c2, -⟩ := h.cells
  clear h c0 c1
  go_enter Try.func25, Try.ntmps25
  go_wp2
  go_ret
  exact ⟨rfl, rfl⟩
theorem safe_nil (w : World) : Calls Try.prog 25 #[.pointer none] w fun e w' => e = .returned (.int .i64 0) ∧ w = w' := by
  go_enter Try.func25, Try.ntmps25
  go_wp2
  go_ret
  exact ⟨rfl, rfl⟩

/-- File. -/
theorem file_any (h : Dsk 65 5 B w d room s x) (hr : Holds room s) (hm : room ≤ 16777216) :
    Calls Try.prog 24 #[.pointer (some ⟨d, 0, none⟩)] w (Made 5 w (all s) id) := by
  obtain ⟨p, c, c0, c1, c2, -, -, -, -, hcel, hp, -⟩ := h.cells
  have hn : ((all s).length : Int) = (s.1.length : Int) + (s.2.length : Int) := by simp [all]
  simp only [Holds] at hr
  have hclone := clone_any p c (all s) w (by omega) hcel hp
  clear h c0 c2 hcel hp hn hr hm
  go_enter Try.func24, Try.ntmps24
  go_wp2_with (go_at_call 41; refine hclone.mono ?_; rintro e w1 ⟨v, rfl, ho, hb⟩; have HO := Lib.hid ho; clear hclone ho)
  go_ret
  exact ⟨v, rfl, HO.out, hb⟩
theorem file_nil (w : World) : Calls Try.prog 24 #[.pointer none] w fun e w' => e = .returned (.slice none 0 0) ∧ w = w' := by
  go_enter Try.func24, Try.ntmps24
  go_wp2
  go_ret
  exact ⟨rfl, rfl⟩

/-- Sync. -/
theorem sync_any (h : Dsk 65 5 B w d room s x) (hr : Holds room s) (hm : room ≤ 16777216) (hBw : B ≤ w.heap.size) :
    Calls Try.prog 37 #[.pointer (some ⟨d, 0, none⟩)] w fun e w' => e = .returned (.int .i64 (s.2.length : Int)) ∧ Left 65 5 B w d room (dSync s) x w' := by
  have hloose := loose_any h hr hm
  have R : Hid (∀ u, Below w.heap.size w u → Left 65 5 B w d room (dSync s) x (u.setCell ⟨d, 2, none⟩ (.int .i64 ((all s).length : Int)))) :=
    fun u hu => Left.after hu hBw ⟨x, (h.below hu).safe_all (by decide), .set _ _, below_set h.1 _ _⟩
  have H := Lib.hid h
  clear h hr hm
  generalize hn : (all s).length = n at R
  have HN := Lib.hid hn
  clear hn
  go_enter Try.func37, Try.ntmps37
  go_wp2_with (go_at_call 39; refine hloose.mono ?_; rintro e w1 ⟨rfl, hb⟩; obtain ⟨p, c, -, c1, c2, -, f2, -⟩ := (H.out.below hb).cells; rw [HN.out] at c1; have HB := Lib.hid hb; clear hloose hb H HN)
  go_ret
  exact ⟨rfl, R.out _ HB.out⟩
theorem sync_nil (w : World) : Calls Try.prog 37 #[.pointer none] w fun e w' => e = .returned (.int .i64 0) ∧ w = w' := by
  go_enter Try.func37, Try.ntmps37
  go_wp2
  go_ret
  exact ⟨rfl, rfl⟩

/-- Crash. -/
theorem crash_any (h : Dsk 65 5 B w d room s x) (hr : Holds room s) (hm : room ≤ 16777216) (hBw : B ≤ w.heap.size) (keep : Int) (hk0 : -9223372036854775808 ≤ keep) (hk1 : keep ≤ 9223372036854775807) :
    Calls Try.prog 16 #[.pointer (some ⟨d, 0, none⟩), .int .i64 keep] w fun e w' => e = .returned (.int .i64 (gone keep s)) ∧ Left 65 5 B w d room (dCrash keep s) x w' := by
  have hloose := fun (u : World) (hu : Below w.heap.size w u) => loose_any (h.below hu) hr hm
  have R : Hid (∀ u p n c, Below w.heap.size w u → u.cell? ⟨d, 1, none⟩ = some (.slice p n c) → Left 65 5 B w d room (dCrash keep s) x ((u.setCell ⟨d, 1, none⟩ (.slice p (s.1.length + stay keep s) c)).setCell ⟨d, 2, none⟩ (.int .i64 ((s.1.length + stay keep s : Nat) : Int)))) := by
    intro u p n c hu hp
    have h1 := (h.below hu).file_cut (by decide) (stay keep s) (stay_le _ _) p n c hp
    have h2 := h1.safe_all (by decide)
    have e : (all (s.1, s.2.take (stay keep s))).length = s.1.length + stay keep s := by have := stay_le keep s; simp [all]; omega
    rw [e] at h2
    exact Left.after hu hBw ⟨x, h2, (Aside.set _ _).trans (Aside.set _ _) (fun g e => (h1.2.choose_spec.choose_spec.2.1.lt g (h1.2.choose_spec.choose_spec.2.2.trans e)).2), (below_set h.1 _ _).trans (below_set h.1 _ _)⟩
  have hst : (keep < 0 ∧ (stay keep s : Int) = 0) ∨ (0 ≤ keep ∧ keep ≤ (s.2.length : Int) ∧ (stay keep s : Int) = keep) ∨ (0 ≤ keep ∧ (s.2.length : Int) < keep ∧ (stay keep s : Int) = (s.2.length : Int)) := by unfold stay; omega
  have hgo : gone keep s = (s.2.length : Int) - (stay keep s : Int) := rfl
  have hn : (all s).length = s.1.length + s.2.length := by simp [all]
  have hle := stay_le keep s
  have H := Lib.hid h
  simp only [Holds] at hr
  clear h
  rw [hgo]
  clear hgo
  generalize stay keep s = st at *
  generalize hK : s.1.length = k at *
  generalize s.2.length = l at *
  generalize hL : (all s).length = n at *
  have EK := Lib.hid hK
  have EN := Lib.hid hL
  clear hK hL
  rcases hst with ⟨h0, hst⟩ | ⟨h0, h1, hst⟩ | ⟨h0, h1, hst⟩
  all_goals
    have HN := Lib.hid hn
    have HST := Lib.hid hst
    have hk : k ≤ n := by omega
    have hkl : (k : Int) + (l : Int) ≤ 16777216 := by omega
    clear hn hst hr
    go_enter Try.func16, Try.ntmps16
    go_wp2_with (first
    | (go_at_call 39; (with_reducible refine (hloose w (Below.refl _ _)).mono ?_); rintro e w1 ⟨rfl, hb1⟩; have HB1 := Lib.hid hb1; clear hb1)
    | (go_at_call 39; (with_reducible refine (hloose _ HB1.out).mono ?_); rintro e w2 ⟨rfl, hb2⟩; have HB2 := Lib.hid (HB1.out.trans (hb2.mono HB1.out.size)); obtain ⟨p, c, -, c1, c2, f1, f2, hlc, hcm, -⟩ := (H.out.below HB2.out).cells; rw [EN.out] at c1 hlc; rw [EK.out] at c2; unfold maxLen at hcm; have hkst : (k : Int) + (l : Int) ≤ (c : Int) := (by have := HN.out; omega); clear hloose hb2 HB1 H EN EK))
  all_goals go_region
  all_goals go_wp2
  all_goals go_ret
  all_goals
    have RR := R.out w2.drew p n c HB2.out.drew c1
    have hst := HST.out
    clear R HB2 HN HST c1 c2 f1 f2
  · obtain rfl : st = 0 := by omega
    exact ⟨by simp, RR⟩
  · subst hst
    refine ⟨rfl, ?_⟩
    rw [show ((k : Int) + (st : Int)).toNat = k + st by omega, show max ((k : Int) + (st : Int)) 0 = ((k + st : Nat) : Int) by omega]
    exact RR
  · obtain rfl : st = l := by omega
    refine ⟨by simp, ?_⟩
    rw [Int.natCast_add] at RR
    exact RR
theorem crash_nil (keep : Int) (w : World) : Calls Try.prog 16 #[.pointer none, .int .i64 keep] w fun e w' => e = .returned (.int .i64 0) ∧ w = w' := by
  go_enter Try.func16, Try.ntmps16
  go_wp2
  go_ret
  exact ⟨rfl, rfl⟩

/-- Write. -/
theorem write_any (h : Dsk 65 5 B w d room s x) (hr : Holds room s) (h0 : 0 ≤ room) (hm : room ≤ 16777216) (hBw : B ≤ w.heap.size) (q : Option Addr) (k : Nat) (b : List Int) (hb : Cel w q b) (hq : q = none → b = [] ∧ k = 0) (hl : (b.length : Int) ≤ 16777216) :
    Calls Try.prog 23 #[.pointer (some ⟨d, 0, none⟩), .slice q b.length k] w fun e w' => e = .returned (.int .i64 (eWrite room s b)) ∧ Left 65 5 B w d room (dWrite room s b) x w' := by
  obtain ⟨p, c, c0, c1, c2, f1, -, hlc, hcm, -, -, hown, hx⟩ := h.cells
  have hn : ((all s).length : Int) = (s.1.length : Int) + (s.2.length : Int) := by simp [all]
  simp only [Holds] at hr
  by_cases hov : room < (s.1.length : Int) + (s.2.length : Int) + (b.length : Int)
  · have e1 : eWrite room s b = 3 := by simp [eWrite, over, hov]
    have e2 : dWrite room s b = s := by simp [dWrite, over, hov]
    rw [e1, e2]
    have R : Hid (∀ u, Below w.heap.size w u → Left 65 5 B w d room s x u) := fun u hu => Left.after hu hBw (Left.same (h.below hu))
    have hov' : room - ((all s).length : Int) < (b.length : Int) := by omega
    have hn1 : ((all s).length : Int) ≤ 16777216 := by omega
    clear h hb e1 e2 hown hx hov hn hr
    generalize (all s).length = n at *
    go_enter Try.func23, Try.ntmps23
    go_wp2
    go_quiet (fail)
    go_wp2
    go_ret
    exact ⟨rfl, R.out _ ⟨rfl, rfl, rfl, Nat.le_refl _, fun _ _ => rfl⟩⟩
  · have e1 : eWrite room s b = 0 := by simp [eWrite, over, hov]
    have e2 : dWrite room s b = (s.1, s.2 ++ b) := by simp [dWrite, over, hov]
    rw [e1, e2]
    obtain ⟨i0, hi, hz0, hz1, hz2⟩ := info_parts info8
    have hov' : (b.length : Int) ≤ room - ((all s).length : Int) := by omega
    have hn1 : ((all s).length : Int) ≤ 16777216 := by omega
    have H := Lib.hid h
    have HB := Lib.hid hb
    have HOWN := Lib.hid hown
    clear h hb e1 e2 hov hn hr hown hx
    generalize hN : (all s).length = n at *
    have hb0 : ∀ m, Below w.heap.size w (w.drewN m) := fun m => ⟨rfl, rfl, rfl, Nat.le_refl _, fun _ _ => rfl⟩
    have hdec : decide (room - (n : Int) < (b.length : Int)) = false := by simp; omega
    have hB2 : n + b.length ≤ maxLen := by unfold maxLen; omega
    have hB3 : (n + b.length) * 1 ≤ 140737488355328 := by omega
    have HQ0 := Lib.hid hov'
    clear hov'
    cases q with
    | none =>
      obtain ⟨rfl, rfl⟩ := hq rfl
      have hdec0 : decide (room - (n : Int) < 0) = false := hdec
      have R : ∀ m, Hid (Left 65 5 B w d room (s.1, s.2 ++ []) x ((w.drewN m).setCell ⟨d, 1, none⟩ (.slice p n c))) := by
        intro m
        have ho : (w.drewN m).ownsRow B 5 1 (.slice p n c) (n + ([] : List Int).length) (cells8 (all s) ++ cells8 []) := by
          have h5 : (w.drewN m).ownsRow B 5 1 (.slice p n c) n (cells8 (all s)) := HOWN.out
          simpa [cells8] using h5
        exact Left.after (hb0 m) hBw ((H.out.below (hb0 m)).push (by decide) hBw c1 ho ⟨rfl, rfl, rfl, Nat.le_refl _, fun _ _ _ => rfl⟩ (.inl rfl)).2.2
      go_enter Try.func23, Try.ntmps23
      go_wp2
      go_quiet (fail)
      go_wp2_with (at_builtin; refine wpList_append_own_none rfl (.tmp 26) (.tmp 27) 39 rfl B 5 i0 1 Try.underlying39 hi (.slice p n c) n (cells8 (all s)) rfl HOWN.out rfl ?_)
      go_ret
      exact ⟨rfl, R _⟩
    | some a =>
      have HQ := fun m => Lib.hid (HB.out.at_ (hb0 m))
      go_enter Try.func23, Try.ntmps23
      go_wp2
      go_quiet (fail)
      go_wp2_with (at_builtin; refine wpList_append_own_at _ rfl (.tmp 26) (.tmp 27) 39 rfl B 5 i0 (.int .u8 0) 1 1 Try.underlying39 hi hz0 hz1 hz2 rfl (by decide) (.slice p n c) n (cells8 (all s)) rfl HOWN.out a b.length k (cells8 b) rfl (by rw [len_cells8, Nat.mul_one]) (HQ _).out (cells8_one b) hB2 hB3 hBw ?_; intro v w1 ho hg _ hat; obtain ⟨f1, g1, R⟩ := (H.out.below (hb0 _)).push (by decide) hBw c1 ho hg hat; obtain ⟨pv, cv, rfl⟩ := own_form ho; clear ho hg hat H HQ HOWN HB c1)
      go_ret
      exact ⟨rfl, Left.after (hb0 _) hBw R.out⟩
theorem write_nil (n k : Nat) (q : Option Addr) (w : World) : Calls Try.prog 23 #[.pointer none, .slice q n k] w fun e w' => e = .returned (.int .i64 1) ∧ w = w' := by
  go_enter Try.func23, Try.ntmps23
  go_wp2
  go_ret
  exact ⟨rfl, rfl⟩

/-- Replace. -/
theorem replace_any (h : Dsk 65 5 B w d room s x) (hBw : B ≤ w.heap.size) (q : Option Addr) (k : Nat) (b : List Int) (hb : Cel w q b) (hq : q = none → b = [] ∧ k = 0) (hl : (b.length : Int) ≤ 16777216) :
    Calls Try.prog 27 #[.pointer (some ⟨d, 0, none⟩), .slice q b.length k] w fun e w' => e = .returned (.int .i64 (eReplace room b)) ∧ Left 65 5 B w d room (dReplace room s b) x w' := by
  obtain ⟨p, c, c0, c1, c2, f1, f2, -⟩ := h.cells
  by_cases hov : room < (b.length : Int)
  · have e1 : eReplace room b = 3 := by simp [eReplace, much, hov]
    have e2 : dReplace room s b = s := by simp [dReplace, much, hov]
    rw [e1, e2]
    have R : Hid (Left 65 5 B w d room s x w) := Left.same h
    clear h hb e1 e2
    go_enter Try.func27, Try.ntmps27
    go_wp2
    go_ret
    exact ⟨rfl, R.out⟩
  · have e1 : eReplace room b = 0 := by simp [eReplace, much, hov]
    have e2 : dReplace room s b = (b, []) := by simp [dReplace, much, hov]
    rw [e1, e2]
    have hclone := clone_any q k b w (by omega) hb (fun e => (hq e).1)
    have H := Lib.hid h
    clear h hb e1 e2 hq f1 f2 c1 c2
    go_enter Try.func27, Try.ntmps27
    go_wp2_with (go_at_call 41; refine hclone.mono ?_; rintro e w1 ⟨v, rfl, ho, hb1⟩; obtain ⟨f1, f2, ⟨u1, g1⟩, ⟨u2, g2⟩, R⟩ := H.out.anew (by decide) hBw hb1 ho; obtain ⟨pv, cv, rfl, -⟩ := own_lies ho; clear hclone ho hb1 H)
    go_ret
    exact ⟨rfl, R.out⟩
theorem replace_nil (n k : Nat) (q : Option Addr) (w : World) : Calls Try.prog 27 #[.pointer none, .slice q n k] w fun e w' => e = .returned (.int .i64 1) ∧ w = w' := by
  go_enter Try.func27, Try.ntmps27
  go_wp2
  go_ret
  exact ⟨rfl, rfl⟩
end
end Go.Proofs.Ytlbdkigiphnabaa.Disk
