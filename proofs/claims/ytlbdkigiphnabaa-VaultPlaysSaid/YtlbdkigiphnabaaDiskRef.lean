/-
  The document's disk: Right; File, Write, Sync, Replace, Crash, of any disk's block: each tells and leaves what the document says, turns the disk's own block alone, and makes memory; any bytes, any number.
-/
import Derived.Test.YtlbdkigiphnabaaDiskMeths
namespace Go.Proofs.Ytlbdkigiphnabaa.Disk
open Go.RowKit Codec

/-- append of any slice of bytes, nil or not, onto what the call owns. -/
theorem app_any {w : World} {ops : Array Oper} {rest : List Oper} {o : Oper} {a : Act} {Q : Exit → Act → World → Prop} (hgd : o.guard = none) (s y : Operand)
    (ho : o.op = .call { callee := .builtin .append, args := #[s, y], argTypes := #[39, 39] })
    (base : Nat) (v : Value) (n : Nat) (xs : List Value) (hs : a.eval s = v) (hown : w.ownsRow base 5 1 v n xs)
    (q : Option Addr) (c : Nat) (b : List Int) (hy : a.eval y = .slice q b.length c) (hq : q = none → b = [] ∧ c = 0) (hb : Cel w q b)
    (h63 : n + b.length ≤ 100000000) (hbase : base ≤ w.heap.size)
    (h : ∀ v' w', w'.ownsRow base 5 1 v' (n + b.length) (xs ++ cells8 b) → w.grownBy w' v.ownBlock → wpList Try.prog ops Q rest (a.put o.dst v') w') : wpList Try.prog ops Q (o :: rest) a w := by
  obtain ⟨i0, hi, hz0, hz1, hz2⟩ := info_parts info8
  cases q with
  | none =>
    obtain ⟨rfl, rfl⟩ := hq rfl
    refine wpList_append_own_none hgd s y 39 ho base 5 i0 1 Try.underlying39 hi v n xs hs hown hy (h v w ?_ ⟨rfl, rfl, rfl, Nat.le_refl _, fun _ _ _ => rfl⟩)
    simpa [cells8] using hown
  | some ad =>
    exact wpList_append_own w hgd s y 39 ho base 5 i0 (.int .u8 0) 1 1 Try.underlying39 hi hz0 hz1 hz2 rfl (by decide) v n xs hs hown ad b.length c (cells8 b) hy (by rw [len_cells8, Nat.mul_one]) (hb.at_ (Below.refl _ _)) (cells8_one b) (by unfold maxLen; omega) (by omega) hbase (fun v' w' h1 h2 _ => h v' w' h1 h2)


section
variable {B m : Nat} {room : Int} {s : Sl} {x : Option Nat} {w : World}

set_option maxRecDepth 100000 in
/-- File. -/
theorem rfile_any (h : Ref 41 5 B w m room s x) (hr : Holds room s) (hm : room ≤ 16777216) :
    Calls Try.prog 28 #[.pointer (some ⟨m, 0, none⟩)] w (Made 5 w (all s) id) := by
  obtain ⟨p, c, q, k, -, c1, c2, -, -, s1, s2⟩ := h.cells
  simp only [Holds] at hr
  have hb : Below w.heap.size w (w.alloc (.cells #[] 5)) := (Below.refl _ _).alloc (Nat.le_refl _) _
  have hown : (w.alloc (.cells #[] 5)).ownsRow w.heap.size 5 1 (.slice (some ⟨w.heap.size, 0, none⟩) 0 0) 0 [] := World.ownsRow_made w #[] 0 (Nat.le_refl _) (Nat.zero_le _) rfl
  have hlt : m < w.heap.size := h.lt
  have n1 : (s.1.length : Int) ≤ 16777216 := by omega
  have n2 : (s.1.length : Int) + (s.2.length : Int) ≤ 16777216 := by omega
  have L1 := s1.2.2.1
  have L2 := s2.2.2.1
  have C1 := Lib.hid (s1.cel.below hb)
  have C2 := Lib.hid s2.cel
  have HO := Lib.hid hown
  clear h hr hm s1 s2 hown
  obtain ⟨S1, S2⟩ := s
  simp only at *
  go_enter Try.func28, Try.ntmps28
  go_wp2_with (first
    | (at_builtin; refine app_any rfl (.tmp 4) (.tmp 8) rfl w.heap.size (.slice (some ⟨w.heap.size, 0, none⟩) 0 0) 0 [] rfl HO.out p c S1 rfl L1 C1.out (by omega) (by simp) ?_; intro v1 w1 ho hg; rw [Nat.zero_add, List.nil_append] at ho; obtain ⟨p1, k1, rfl⟩ := own_form ho; have hb1 := hb.grown hg (by simp) (fun k hk => (by simp [Value.ownBlock] at hk; omega)); have c2' : w1.cell? ⟨m, 2, none⟩ = some (.slice q S2.length k) := (hb1.cell (p := ⟨m, 2, none⟩) hlt).trans c2; have HO1 := Lib.hid ho; clear hg ho HO C1 c1 c2)
    | (at_builtin; refine app_any rfl (.tmp 10) (.tmp 14) rfl w.heap.size (.slice p1 S1.length k1) S1.length (cells8 S1) rfl HO1.out q k S2 rfl L2 (C2.out.below hb1) (by omega) hb1.size ?_; intro v2 w2 ho2 hg2; obtain ⟨p2, k2, rfl⟩ := own_form ho2; have hb2 := hb1.grown hg2 hb1.size (fun k hk => (HO1.out.lt k hk).1); have HO2 := Lib.hid ho2; clear hg2 ho2 HO1 C2 c2'))
  go_ret
  refine ⟨.slice p2 (S1.length + S2.length) k2, rfl, ?_, hb2⟩
  have := HO2.out
  simpa [all, cells8_append] using this

set_option maxRecDepth 100000 in
/-- Write. -/
theorem rwrite_any (h : Ref 41 5 B w m room s x) (hx : ∀ g, x = some g → g < w.heap.size) (hr : Holds room s) (h0 : 0 ≤ room) (hm : room ≤ 16777216) (q' : Option Addr) (k' : Nat) (b : List Int) (hbc : Cel w q' b) (hq : q' = none → b = [] ∧ k' = 0) (hl : (b.length : Int) ≤ 16777216) :
    Calls Try.prog 35 #[.pointer (some ⟨m, 0, none⟩), .slice q' b.length k'] w fun e w' => e = .returned (.int .i64 (eWrite room s b)) ∧ Made2 41 5 B w m room (dWrite room s b) x w' := by
  obtain ⟨p, c, q, k, c0, c1, c2, -, -, s1, s2⟩ := h.cells
  simp only [Holds] at hr
  have hlt : m < w.heap.size := h.lt
  by_cases hov : room < (s.1.length : Int) + (s.2.length : Int) + (b.length : Int)
  · have e1 : eWrite room s b = 3 := by simp [eWrite, over, hov]
    have e2 : dWrite room s b = s := by simp [dWrite, over, hov]
    rw [e1, e2]
    have R : Hid (∀ n, Made2 41 5 B w m room s x (w.drewN n)) := fun n => have hbn : Below w.heap.size w (w.drewN n) := ⟨rfl, rfl, rfl, Nat.le_refl _, fun _ _ => rfl⟩; Made2.after hbn (Made2.same (h.below hbn))
    have hdec : decide (room < (s.1.length : Int) + (s.2.length : Int) + (b.length : Int)) = true := decide_eq_true hov
    have n2 : (s.1.length : Int) + (s.2.length : Int) ≤ 16777216 := by omega
    clear h hbc e1 e2 s1 s2 hr hx hov
    generalize s.1.length = l1 at *
    generalize s.2.length = l2 at *
    go_enter Try.func35, Try.ntmps35
    go_wp2
    go_quiet (fail)
    go_wp2
    go_ret
    exact ⟨rfl, R.out _⟩
  · have e1 : eWrite room s b = 0 := by simp [eWrite, over, hov]
    have e2 : dWrite room s b = (s.1, s.2 ++ b) := by simp [dWrite, over, hov]
    rw [e1, e2]
    have hdec : decide (room < (s.1.length : Int) + (s.2.length : Int) + (b.length : Int)) = false := decide_eq_false hov
    have n2 : (s.1.length : Int) + (s.2.length : Int) ≤ 16777216 := by omega
    have hb : ∀ n, Below w.heap.size w ((w.drewN n).alloc (.cells #[] 5)) := fun n => (show Below w.heap.size w (w.drewN n) from ⟨rfl, rfl, rfl, Nat.le_refl _, fun _ _ => rfl⟩).alloc (Nat.le_refl _) _
    have HO : ∀ n, Hid (((w.drewN n).alloc (.cells #[] 5)).ownsRow w.heap.size 5 1 (.slice (some ⟨w.heap.size, 0, none⟩) 0 0) 0 []) := fun n => World.ownsRow_made (w.drewN n) #[] 0 (Nat.le_refl _) (Nat.zero_le _) rfl
    have c2n : ∀ n, ((w.drewN n).alloc (.cells #[] 5)).cell? ⟨m, 2, none⟩ = some (.slice q s.2.length k) := fun n => ((hb n).cell (p := ⟨m, 2, none⟩) hlt).trans c2
    have L2 := s2.2.2.1
    have C2 := fun n => Lib.hid (s2.cel.below (hb n))
    have CB := Lib.hid hbc
    have H := Lib.hid h
    clear h hbc e1 e2 s1 s2 hr hov
    obtain ⟨S1, S2⟩ := s
    simp only at *
    generalize hl1 : S1.length = l1 at *
    have n3 : (S2.length : Int) ≤ 16777216 := by omega
    go_enter Try.func35, Try.ntmps35
    go_wp2
    go_quiet (fail)
    go_wp2_with (first
      | (at_builtin; refine app_any rfl (.tmp 25) (.tmp 29) rfl w.heap.size (.slice (some ⟨w.heap.size, 0, none⟩) 0 0) 0 [] rfl (HO _).out q k S2 rfl L2 (C2 _).out (by omega) (by simp) ?_; intro v1 w1 ho hg; rw [Nat.zero_add, List.nil_append] at ho; obtain ⟨p1, k1, rfl⟩ := own_form ho; have hb1 := (hb _).grown hg (by simp) (fun k hk => (by simp [Value.ownBlock] at hk; omega)); have HO1 := Lib.hid ho; clear hg ho HO C2)
      | (at_builtin; refine app_any rfl (.tmp 31) (.tmp 32) rfl w.heap.size (.slice p1 S2.length k1) S2.length (cells8 S2) rfl HO1.out q' k' b rfl hq (CB.out.below hb1) (by omega) hb1.size ?_; intro v2 w2 ho2 hg2; have hb2 := hb1.grown hg2 hb1.size (fun k hk => (HO1.out.lt k hk).1); rw [← List.length_append, ← cells8_append] at ho2; obtain ⟨f2, ⟨u, g2⟩, R⟩ := H.out.set2 (by decide) hx hb2 ho2; obtain ⟨p2, k2, rfl⟩ := own_form ho2; clear hg2 ho2 HO1 CB H hb1 hb2))
    go_ret
    have RR := R.out
    rw [List.length_append] at RR
    exact ⟨rfl, RR⟩

set_option maxRecDepth 100000 in
/-- Sync. -/
theorem rsync_any (h : Ref 41 5 B w m room s x) (hx : ∀ g, x = some g → g < w.heap.size) (hr : Holds room s) (hm : room ≤ 16777216) :
    Calls Try.prog 38 #[.pointer (some ⟨m, 0, none⟩)] w fun e w' => e = .returned (.int .i64 (s.2.length : Int)) ∧ Made2 41 5 B w m room (dSync s) x w' := by
  obtain ⟨p, c, q, k, -, -, c2, -, -, -, -⟩ := h.cells
  have hfile := rfile_any h hr hm
  have H := Lib.hid h
  clear h hr
  go_enter Try.func38, Try.ntmps38
  go_wp2_with (go_at_call 28; refine hfile.mono ?_; rintro e w1 ⟨v, rfl, ho, hb⟩; obtain ⟨f1, f2, ⟨u1, g1⟩, ⟨u2, g2⟩, R⟩ := H.out.both (by decide) hx hb ho; obtain ⟨p1, k1, rfl⟩ := own_form ho; clear hfile ho hb H)
  go_ret
  exact ⟨rfl, R.out⟩

set_option maxRecDepth 100000 in
/-- Replace. -/
theorem rreplace_any (h : Ref 41 5 B w m room s x) (hx : ∀ g, x = some g → g < w.heap.size) (q' : Option Addr) (k' : Nat) (b : List Int) (hbc : Cel w q' b) (hq : q' = none → b = [] ∧ k' = 0) (hl : (b.length : Int) ≤ 16777216) :
    Calls Try.prog 32 #[.pointer (some ⟨m, 0, none⟩), .slice q' b.length k'] w fun e w' => e = .returned (.int .i64 (eReplace room b)) ∧ Made2 41 5 B w m room (dReplace room s b) x w' := by
  obtain ⟨p, c, q, k, c0, c1, c2, -, -, -, -⟩ := h.cells
  by_cases hov : room < (b.length : Int)
  · have e1 : eReplace room b = 3 := by simp [eReplace, much, hov]
    have e2 : dReplace room s b = s := by simp [dReplace, much, hov]
    rw [e1, e2]
    have R : Hid (Made2 41 5 B w m room s x w) := Made2.same h
    clear h hbc e1 e2
    go_enter Try.func32, Try.ntmps32
    go_wp2
    go_ret
    exact ⟨rfl, R.out⟩
  · have e1 : eReplace room b = 0 := by simp [eReplace, much, hov]
    have e2 : dReplace room s b = (b, []) := by simp [dReplace, much, hov]
    rw [e1, e2]
    have hb : Below w.heap.size w (w.alloc (.cells #[] 5)) := (Below.refl _ _).alloc (Nat.le_refl _) _
    have HO : Hid ((w.alloc (.cells #[] 5)).ownsRow w.heap.size 5 1 (.slice (some ⟨w.heap.size, 0, none⟩) 0 0) 0 []) := World.ownsRow_made w #[] 0 (Nat.le_refl _) (Nat.zero_le _) rfl
    have CB := Lib.hid (hbc.below hb)
    have H := Lib.hid h
    clear h hbc e1 e2 c1 c2
    go_enter Try.func32, Try.ntmps32
    go_wp2_with (at_builtin; refine app_any rfl (.tmp 13) (.tmp 14) rfl w.heap.size (.slice (some ⟨w.heap.size, 0, none⟩) 0 0) 0 [] rfl HO.out q' k' b rfl hq CB.out (by omega) (by simp) ?_; intro v1 w1 ho hg; rw [Nat.zero_add, List.nil_append] at ho; have hb1 := hb.grown hg (by simp) (fun k hk => (by simp [Value.ownBlock] at hk; omega)); obtain ⟨f1, f2, ⟨u1, g1⟩, ⟨u2, g2⟩, R⟩ := H.out.both (by decide) hx hb1 ho; obtain ⟨p1, k1, rfl⟩ := own_form ho; clear hg ho HO CB H hb hb1)
    go_ret
    exact ⟨rfl, R.out⟩

set_option maxRecDepth 100000 in
/-- Crash. -/
theorem rcrash_any (h : Ref 41 5 B w m room s x) (hx : ∀ g, x = some g → g < w.heap.size) (hr : Holds room s) (hm : room ≤ 16777216) (keep : Int) (hk0 : -9223372036854775808 ≤ keep) (hk1 : keep ≤ 9223372036854775807) :
    Calls Try.prog 17 #[.pointer (some ⟨m, 0, none⟩), .int .i64 keep] w fun e w' => e = .returned (.int .i64 (gone keep s)) ∧ Made2 41 5 B w m room (dCrash keep s) x w' := by
  obtain ⟨p, c, q, k, -, -, c2, -, f2, s1, s2⟩ := h.cells
  have hl : s.2.length ≤ k := s2.1
  have hk : k ≤ maxLen := s2.2.1
  have hst : (keep < 0 ∧ (stay keep s : Int) = 0) ∨ (0 ≤ keep ∧ keep ≤ (s.2.length : Int) ∧ (stay keep s : Int) = keep) ∨ (0 ≤ keep ∧ (s.2.length : Int) < keep ∧ (stay keep s : Int) = (s.2.length : Int)) := by unfold stay; omega
  have hcut := h.cut2 (by decide) (stay keep s) (stay_le _ _) q _ k c2
  have hh : Holds room (s.1, s.2.take (stay keep s)) := by simp only [Holds, List.length_take] at hr ⊢; omega
  have hsync := rsync_any hcut.1 (fun g e => Nat.lt_of_lt_of_le (hx g e) hcut.2.size) hh hm
  have hgo : gone keep s = (s.2.length : Int) - (stay keep s : Int) := rfl
  have hle := stay_le keep s
  have hn : (s.2.length : Int) ≤ 16777216 := by simp only [Holds] at hr; omega
  have G := Lib.hid hcut.2
  have HD : dSync (s.1, s.2.take (stay keep s)) = dCrash keep s := rfl
  rw [HD] at hsync
  rw [hgo]
  clear h hr hgo s1 s2 hcut hx hh HD hm
  unfold maxLen at hk
  generalize hS : stay keep s = st at *
  clear hS
  generalize s.2.length = l at *
  have HST := Lib.hid hst
  clear hst
  go_enter Try.func17, Try.ntmps17
  go_wp2
  go_loopw [6] (fun i wr => ∃ j : Nat, j ≤ st ∧ i = .int .i64 (j : Int) ∧ wr = w) (fun i _ => st - (intOf i).toNat)
  case atStart => exact ⟨0, by omega, rfl, rfl⟩
  case round =>
    obtain ⟨j, hj, rfl, rfl⟩ := hrel
    have hst := HST.out
    by_cases hlt : j < st
    · have h1 : (j : Int) < (l : Int) := by omega
      have h2 : (j : Int) < keep := by omega
      clear hst HST hsync
      go_wp2
      go_roundw
      case rel => exact ⟨j + 1, by omega, by go_num, trivial⟩
      case measure => simp [intOf]; omega
    · obtain rfl : j = st := by omega
      by_cases h1 : j < l
      · have h2 : keep ≤ (j : Int) := by omega
        have h3 : (j : Int) < (l : Int) := by omega
        have hjk : (j : Int) ≤ (k : Int) := by omega
        clear hst HST hlt h1 hj
        go_wp2_with (go_at_call 38; refine hsync.mono ?_; rintro e w1 ⟨rfl, hR⟩; have R := Lib.hid (Made2.then G.out hR); clear hsync hR)
        go_ret
        exact ⟨rfl, R.out⟩
      · have h3 : (l : Int) ≤ (j : Int) := by omega
        have hjk : (j : Int) ≤ (k : Int) := by omega
        clear hst HST hlt h1 hj
        go_wp2_with (go_at_call 38; refine hsync.mono ?_; rintro e w1 ⟨rfl, hR⟩; have R := Lib.hid (Made2.then G.out hR); clear hsync hR)
        go_ret
        exact ⟨rfl, R.out⟩
end
end Go.Proofs.Ytlbdkigiphnabaa.Disk
