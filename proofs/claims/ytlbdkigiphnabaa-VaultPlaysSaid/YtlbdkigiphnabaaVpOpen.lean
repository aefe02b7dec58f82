/-
  The program's Open, of any disk: the vault of its bytes, or the error, and nothing; and of no disk.
-/
import Derived.Test.YtlbdkigiphnabaaVpLast
import Derived.Test.YtlbdkigiphnabaaVpSync
namespace Go.Proofs.Ytlbdkigiphnabaa.Vault
open Go.RowKit
open _root_.Go.Proofs.Ytlbdkigiphnabaa.Codec (IsBytes Cel Lies cells8 Made own_below own_lies lt_of_heap frozen_of heap_set grown_set)
open _root_.Go.Proofs.Ytlbdkigiphnabaa.Disk (Sl Dsk Holds all Aside dReplace)

theorem popen_nil (w : World) : Calls Try.prog 8 #[.pointer none] w fun e w' => e = .returned (.tuple #[.pointer none, .int .i64 1]) ∧ Below w.heap.size w w' := by
  go_enter Try.func8, Try.ntmps8
  go_wp2
  go_ret2
  exact ⟨rfl, Below.refl _ _⟩

/-- A disk behind a step. -/
def Dgone (B : Nat) (w : World) (d : Nat) (room : Int) (t : Sl) (x : Option Nat) (w' : World) : Prop := ∃ x', Dsk 65 5 B w' d room t x' ∧ Off w w' x x' ∧ Below B w w'
section
variable {B d q n : Nat} {room : Int} {s t : Sl} {x : Option Nat} {w u u' : World} {a : Sv}
theorem Dgone.same (h : Dsk 65 5 B w d room s x) (hB : B ≤ w.heap.size) (hb : Below w.heap.size w u) : Dgone B w d room s x u := ⟨x, h.below hb, .below hb, hb.mono hB⟩
theorem Dgone.made (h : Dgone B w d room s x u) (hB : B ≤ w.heap.size) (p g k r m : Int) : Gone B w u.heap.size d room ⟨p, g, k, r⟩ m s x (u.alloc (.cells #[.int .i64 p, .int .i64 g, .int .i64 k, .int .i64 r, .pointer (some ⟨d, 0, none⟩), .int .i64 m] 70)) := by
  obtain ⟨x', h1, h2, h3⟩ := h
  have hb : Below u.heap.size u (u.alloc (.cells #[.int .i64 p, .int .i64 g, .int .i64 k, .int .i64 r, .pointer (some ⟨d, 0, none⟩), .int .i64 m] 70)) := (Below.refl _ _).alloc (Nat.le_refl _) _
  exact ⟨x', ⟨Nat.le_trans hB h2.size, heap_alloc_new _ _, h1.below hb⟩, h2.trans (.below hb), h3.trans (hb.mono (Nat.le_trans hB h2.size))⟩
/-- The file is cut. -/
theorem replace_cut (h : Dsk 65 5 B w d room s x) (hB : B ≤ w.heap.size) (hb : Below w.heap.size w u) (p : Option Addr) (c m : Nat) (bs : List Int) (hm : bs.length = m) (hl : (m : Int) ≤ 16777216) (hc : Cel u p bs) (hp : p = none → bs = [] ∧ c = 0) :
    Calls Try.prog 27 #[.pointer (some ⟨d, 0, none⟩), .slice p m c] u fun e w' => ∃ y, e = .returned (.int .i64 y) ∧ Dgone B w d room (dReplace room s bs) x w' ∧
      ∀ (b : Nat) (cs : Array Value), u.heap[b]? = some (Obj.cells cs 25 (0, 0)) → w'.heap[b]? = some (Obj.cells cs 25 (0, 0)) := by
  subst hm
  have hk := h.below hb
  refine (Disk.replace_any hk (Nat.le_trans hB hb.size) p c bs hc hp hl).mono ?_
  rintro e w' ⟨rfl, x', h1, h2, h3⟩
  have ho := Off.aside hk h2
  exact ⟨_, rfl, ⟨x', h1, (Off.below hb).trans ho, (hb.mono hB).trans h3⟩, fun b cs hbk => ho.box hk hbk (by decide) (by decide) (by decide)⟩
/-- last, the length a letter. -/
theorem last_no {p : Option Addr} {c m : Nat} {D : List Int} (hq : D.length / 32 = q) (hs : states D = none) (hm : D.length ≤ 16777216) (hmq : m = 32 * q) (hc : Cel w p D) (hp : p = none → D = [] ∧ c = 0) (hy : IsBytes D) :
    Calls Try.prog 26 #[.slice p m c] w fun e w' => e = .returned (.tuple #[val zero, .int .i64 2]) ∧ Below w.heap.size w w' := by
  subst hmq
  have hl : (D.take (32 * q)).length = 32 * q := by rw [List.length_take]; omega
  refine (last_any p c q (D.take (32 * q)) w hl (by omega) (hc.take _) (fun e => by rw [(hp e).1]; simp) (hy.take _)).mono ?_
  rintro e w' ⟨h, hb⟩
  rw [states_whole D q hq, hs] at h
  rcases h with ⟨_, rfl⟩ | ⟨l, h, _⟩
  · exact ⟨rfl, hb⟩
  · cases h
theorem last_yes {p : Option Addr} {c m : Nat} {D : List Int} {l : List Sv} (hq : D.length / 32 = q) (hs : states D = some l) (hm : D.length ≤ 16777216) (hmq : m = 32 * q) (hc : Cel w p D) (hp : p = none → D = [] ∧ c = 0) (hy : IsBytes D) :
    Calls Try.prog 26 #[.slice p m c] w fun e w' => e = .returned (.tuple #[val (last l), .int .i64 0]) ∧ Below w.heap.size w w' := by
  subst hmq
  have hl : (D.take (32 * q)).length = 32 * q := by rw [List.length_take]; omega
  refine (last_any p c q (D.take (32 * q)) w hl (by omega) (hc.take _) (fun e => by rw [(hp e).1]; simp) (hy.take _)).mono ?_
  rintro e w' ⟨h, hb⟩
  rw [states_whole D q hq, hs] at h
  rcases h with ⟨h, _⟩ | ⟨l', h, rfl⟩
  · cases h
  · simp only [Option.some.injEq] at h
    subst h
    exact ⟨rfl, hb⟩

set_option maxRecDepth 100000 in
set_option maxHeartbeats 1000000 in
theorem popen_no (h : Dsk 65 5 B w d room s x) (hh : Holds room s) (hm : room ≤ 16777216) (hy : IsBytes (all s)) (hs : states (all s) = none) :
    Calls Try.prog 8 #[.pointer (some ⟨d, 0, none⟩)] w fun e w' => e = .returned (.tuple #[.pointer none, .int .i64 2]) ∧ Below w.heap.size w w' := by
  have hfile := Disk.file_any h hh hm
  have hD : (all s).length ≤ 16777216 := by simp only [Holds] at hh; simp [all]; omega
  clear h hh hm
  generalize all s = D at *
  have hlast : ∀ u p c m, m = 32 * (D.length / 32) → Cel u p D → (p = none → D = [] ∧ c = 0) → Calls Try.prog 26 #[.slice p m c] u fun e w' => e = .returned (.tuple #[val zero, .int .i64 2]) ∧ Below u.heap.size u w' :=
    fun u p c m h1 h2 h3 => last_no rfl hs hD h1 h2 h3 hy
  generalize hDl : D.length = n at *
  have HN := Lib.hid hDl
  clear hDl hs hy
  simp only [val, zero] at hlast
  go_enter Try.func8, Try.ntmps8
  go_wp2_with (first
    | (go_at_call 24; (with_reducible refine hfile.mono ?_); rintro e w1 ⟨vf, rfl, ho, hb⟩; obtain ⟨pf, cf, rfl, hcf, hcm, hlf, hpf⟩ := own_lies ho; have hpn := file_nil2 ho; have B1 := Lib.hid hb; rw [HN.out] at hcf ⊢; have HF := Lib.hid hlf.cel; have HPF := Lib.hid hpn; unfold maxLen at hcm; clear hfile ho hb hlf hpn hpf)
    | (go_at_call 26; (with_reducible refine (hlast _ _ _ _ (by omega) HF.out HPF.out).mono ?_); rintro e w2 ⟨rfl, hb⟩; have B2 := Lib.hid (B1.out.trans (hb.mono B1.out.size)); clear hlast hb))
  go_ret2
  exact ⟨rfl, B2.out.alloc B2.out.size _⟩

set_option maxRecDepth 100000 in
set_option maxHeartbeats 1000000 in
theorem popen_yes (h : Dsk 65 5 B w d room s x) (hB : B ≤ w.heap.size) (hh : Holds room s) (hm : room ≤ 16777216) (hy : IsBytes (all s)) {l : List Sv} (hs : states (all s) = some l) :
    Calls Try.prog 8 #[.pointer (some ⟨d, 0, none⟩)] w fun e w' => ∃ q, e = .returned (.tuple #[.pointer (some ⟨q, 0, none⟩), .int .i64 0]) ∧ Moved Pv B w q d room (cut room s, l) x w' := by
  have hfile := Disk.file_any h hh hm
  have hD : (all s).length ≤ 16777216 := by simp only [Holds] at hh; simp [all]; omega
  have hlen := states_len hs
  have hcut : Hid (cut room s = if 32 * ((all s).length / 32) < (all s).length then dReplace room s ((all s).take (32 * ((all s).length / 32))) else s) := rfl
  have H := Lib.hid h
  clear h hh hm
  generalize all s = D at *
  have hlast : ∀ u p c m, m = 32 * (D.length / 32) → Cel u p D → (p = none → D = [] ∧ c = 0) → Calls Try.prog 26 #[.slice p m c] u fun e w' => e = .returned (.tuple #[val (last l), .int .i64 0]) ∧ Below u.heap.size u w' :=
    fun u p c m h1 h2 h3 => last_yes rfl hs hD h1 h2 h3 hy
  generalize hDl : D.length = n at *
  have HN := Lib.hid hDl
  have HLEN := Lib.hid hlen
  clear hDl hs hy hlen
  have hmv : ∀ (q : Nat) (u : World) (t : Sl), Gone B w q d room (last l) ((n : Int) / 32) t x u → t = cut room s → Moved Pv B w q d room (cut room s, l) x u := by
    rintro q u t ⟨x', h1, h2, h3⟩ rfl
    refine ⟨x', ?_, h2, h3⟩
    unfold Pv
    rw [show (((cut room s, l) : Vs).2.length : Int) = (n : Int) / 32 by simp only; have := HLEN.out; omega]
    exact h1
  generalize cut room s = t at hcut hmv ⊢
  generalize last l = a at hlast hmv
  obtain ⟨p, g, k, r⟩ := a
  simp only [val] at hlast
  by_cases hr : n / 32 * 32 < n
  · have hr2 : ((n / 32 * 32 : Nat) : Int) < (n : Int) := by omega
    have ht := hcut.out
    rw [if_pos (by omega)] at ht
    have HT := Lib.hid ht
    clear ht hcut
    go_enter Try.func8, Try.ntmps8
    go_wp2_with (first
      | (go_at_call 24; (with_reducible refine hfile.mono ?_); rintro e w1 ⟨vf, rfl, ho, hb⟩; obtain ⟨pf, cf, rfl, hcf, hcm, hlf, hpf⟩ := own_lies ho; have hpn := file_nil2 ho; have B1 := Lib.hid hb; rw [HN.out] at hcf ⊢; have HF := Lib.hid hlf.cel; have HPF := Lib.hid hpn; unfold maxLen at hcm; clear hfile ho hb hlf hpn hpf)
      | (go_at_call 26; (with_reducible refine (hlast _ _ _ _ (by omega) HF.out HPF.out).mono ?_); rintro e w2 ⟨rfl, hb⟩; have B2 := Lib.hid (B1.out.trans (hb.mono B1.out.size)); have ba : Below w2.heap.size w2 (w2.alloc (.cells #[.int .i64 p, .int .i64 g, .int .i64 k, .int .i64 r] 25)) := (Below.refl _ _).alloc (Nat.le_refl _) _; have B3 := Lib.hid (B2.out.trans (ba.mono B2.out.size)); have F3 := Lib.hid (HF.out.below (hb.trans (ba.mono hb.size))); have HX := Lib.hid (heap_alloc_new w2 (.cells #[.int .i64 p, .int .i64 g, .int .i64 k, .int .i64 r] 25)); clear hlast hb ba)
      | (go_at_call 27; (with_reducible refine (replace_cut H.out hB B3.out _ _ _ (D.take (32 * (n / 32))) (by rw [List.length_take, HN.out]; omega) (by omega) (F3.out.take _) (fun e => ⟨by rw [(HPF.out e).1]; simp, (HPF.out e).2⟩)).mono ?_); rintro e w4 ⟨y4, rfl, hg, hbx⟩; obtain ⟨z0, z1, z2, z3, -⟩ := box_facts (hbx _ _ HX.out); have G4 := Lib.hid hg; clear hg hbx))
    go_ret2
    exact ⟨w4.heap.size, rfl, hmv _ _ _ (G4.out.made hB p g k r _) HT.out.symm⟩
  · have hr2 : (n : Int) ≤ ((n / 32 * 32 : Nat) : Int) := by omega
    have ht := hcut.out
    rw [if_neg (by omega)] at ht
    have HT := Lib.hid ht
    clear ht hcut
    go_enter Try.func8, Try.ntmps8
    go_wp2_with (first
      | (go_at_call 24; (with_reducible refine hfile.mono ?_); rintro e w1 ⟨vf, rfl, ho, hb⟩; obtain ⟨pf, cf, rfl, hcf, hcm, hlf, hpf⟩ := own_lies ho; have hpn := file_nil2 ho; have B1 := Lib.hid hb; rw [HN.out] at hcf ⊢; have HF := Lib.hid hlf.cel; have HPF := Lib.hid hpn; unfold maxLen at hcm; clear hfile ho hb hlf hpn hpf)
      | (go_at_call 26; (with_reducible refine (hlast _ _ _ _ (by omega) HF.out HPF.out).mono ?_); rintro e w2 ⟨rfl, hb⟩; have B2 := Lib.hid (B1.out.trans (hb.mono B1.out.size)); have ba : Below w2.heap.size w2 (w2.alloc (.cells #[.int .i64 p, .int .i64 g, .int .i64 k, .int .i64 r] 25)) := (Below.refl _ _).alloc (Nat.le_refl _) _; have B3 := Lib.hid (B2.out.trans (ba.mono B2.out.size)); clear hlast hb ba))
    go_ret2
    refine ⟨_, ?_, hmv _ _ _ ((Dgone.same H.out hB B3.out).made hB p g k r _) HT.out.symm⟩
    simp
/-- Open, of any disk. -/
theorem popen_any (h : Dsk 65 5 B w d room s x) (hB : B ≤ w.heap.size) (hh : Holds room s) (hm : room ≤ 16777216) (hy : IsBytes (all s)) :
    Calls Try.prog 8 #[.pointer (some ⟨d, 0, none⟩)] w fun e w' =>
      (states (all s) = none ∧ e = .returned (.tuple #[.pointer none, .int .i64 2]) ∧ Below w.heap.size w w') ∨
      (∃ l q, states (all s) = some l ∧ e = .returned (.tuple #[.pointer (some ⟨q, 0, none⟩), .int .i64 0]) ∧ Moved Pv B w q d room (cut room s, l) x w') := by
  cases hs : states (all s) with
  | none => exact (popen_no h hh hm hy hs).mono fun e w' ⟨h1, h2⟩ => .inl ⟨rfl, h1, h2⟩
  | some l => exact (popen_yes h hB hh hm hy hs).mono fun e w' ⟨q, h1, h2⟩ => .inr ⟨l, q, rfl, h1, h2⟩

/-- The program's calls do what is asked of them. -/
theorem way : Way Pv where
  dsk h := h.dsk
  below h hb := Half.below h hb
  kept h hk := ⟨h.ge, hk.block _ _ _ _ h.blk (by decide), dsk_kept h.dsk (by decide) (by decide) hk⟩
  state h := pstate_half h
  recs h := precs_half h
  put {B w q d room y x} h hB hg hm s hn := by
    have h0 : 0 ≤ room := by have := hg.holds; simp only [Holds] at this; omega
    have hl := hg.len
    cases hs : right s with
    | false =>
      have e1 : ePut room y s = 1 := by simp [ePut, hs]
      have e2 : vPut room y s = y := by simp [vPut, hs]
      rw [e1, e2]
      exact pput_wrong h hB hs
    | true =>
      cases hst : rises (last y.2) s with
      | false =>
        have e1 : ePut room y s = 7 := by simp [ePut, hs, hst]
        have e2 : vPut room y s = y := by simp [vPut, hst]
        rw [e1, e2]
        exact pput_stale h hB hs hst
      | true =>
        cases hov : Disk.over room y.1 (rec s) with
        | true =>
          have e1 : ePut room y s = 3 := by simp [ePut, hs, hst, Disk.eWrite, hov]
          have e2 : vPut room y s = y := by simp [vPut, hov]
          rw [e1, e2]
          exact pput_full h hB hg.holds h0 hm hs hst hov
        | false =>
          have e1 : ePut room y s = 0 := by simp [ePut, hs, hst, Disk.eWrite, hov]
          have e2 : vPut room y s = (Disk.dWrite room y.1 (rec s), y.2 ++ [s]) := by simp [vPut, hs, hst, hov]
          rw [e1, e2]
          refine (pput_ok h hB hg.holds h0 hm (by omega) (by omega) hs hst hov).mono ?_
          rintro e w' ⟨rfl, x', h1, h2, h3⟩
          refine ⟨rfl, x', ?_, h2, h3⟩
          unfold Pv
          simp only [last_snoc, List.length_append, List.length_cons, List.length_nil, Int.natCast_add]
          exact h1
  sync {B w q d room y x} h hB hg hm := by
    unfold vSync
    by_cases hl : 64 < y.2.length
    · rw [if_pos hl]
      have hr := right_last hg.chain (fun e => by rw [e] at hl; simp at hl)
      exact (psync_many h hB hg.holds hm (by omega) hr).mono fun e w' ⟨h1, h2⟩ => ⟨h1, h2⟩
    · rw [if_neg hl]
      exact (psync_few h hB hg.holds hm (by omega)).mono fun e w' ⟨h1, h2⟩ => ⟨h1, h2⟩
  opens h hB hh hm hy := popen_any h hB hh hm hy
  rises a b w := prises_any a b w
end
end Go.Proofs.Ytlbdkigiphnabaa.Vault
