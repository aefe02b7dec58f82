/-
  VaultPlays, what lies while acts are done: the program's vault, and the document's, over one disk each; what each call leaves of both.
-/
import Derived.Test.YtlbdkigiphnabaaVpOpen
namespace Go.Proofs.Ytlbdkigiphnabaa.Vault
open Go.RowKit
open _root_.Go.Proofs.Ytlbdkigiphnabaa.Codec (IsBytes lt_of_heap frozen_of heap_set grown_set)
open _root_.Go.Proofs.Ytlbdkigiphnabaa.Disk (Sl Dsk Ref Holds all dCrash stay over eWrite dWrite)

/-- The program's vault as y1, the document's as y2. -/
structure Pst (V : World) (q v m : Nat) (room : Int) (y1 y2 : Vs) (u : World) : Prop where
  two : ∃ x, Pv V.heap.size u q V.heap.size room y1 x ∧ Rv V.heap.size u v m room y2 x
  below : Below V.heap.size V u
/-- The disks alone, and the document's vault's block. -/
structure Dst (V : World) (v m : Nat) (room : Int) (s : Sl) (y2 : Vs) (u : World) : Prop where
  two : ∃ x, Dsk 65 5 V.heap.size u V.heap.size room s x ∧ Rv V.heap.size u v m room y2 x
  below : Below V.heap.size V u
/-- The program's vault, the document's disk. -/
structure Hst (V : World) (q m : Nat) (room : Int) (y1 : Vs) (s : Sl) (u : World) : Prop where
  two : ∃ x, Pv V.heap.size u q V.heap.size room y1 x ∧ Ref 41 5 V.heap.size u m room s x
  below : Below V.heap.size V u
section
variable {V u u' : World} {q v m : Nat} {room : Int} {y y1 y2 : Vs} {s : Sl}
theorem Pst.on (h : Pst V q v m room y1 y2 u) (hb : Below u.heap.size u u') : Pst V q v m room y1 y2 u' := by
  obtain ⟨x, h1, h2⟩ := h.two
  exact ⟨⟨x, Half.below h1 hb, h2.below hb⟩, h.below.trans (hb.mono h.below.size)⟩
theorem Dst.on (h : Dst V v m room s y2 u) (hb : Below u.heap.size u u') : Dst V v m room s y2 u' := by
  obtain ⟨x, h1, h2⟩ := h.two
  exact ⟨⟨x, h1.below hb, h2.below hb⟩, h.below.trans (hb.mono h.below.size)⟩
theorem Hst.on (h : Hst V q m room y1 s u) (hb : Below u.heap.size u u') : Hst V q m room y1 s u' := by
  obtain ⟨x, h1, h2⟩ := h.two
  exact ⟨⟨x, Half.below h1 hb, h2.below hb⟩, h.below.trans (hb.mono h.below.size)⟩
theorem Pst.ptr (h : Pst V q v m room y1 y2 u) : u.cell? ⟨v, 0, none⟩ = some (.pointer (some ⟨m, 0, none⟩)) := by
  obtain ⟨x, h1, h2⟩ := h.two
  exact ptr_of h2.vlt
theorem Dst.ptr (h : Dst V v m room s y2 u) : u.cell? ⟨v, 0, none⟩ = some (.pointer (some ⟨m, 0, none⟩)) := by
  obtain ⟨x, h1, h2⟩ := h.two
  exact ptr_of h2.vlt

/-- The program's step. -/
theorem Pst.own {w' : World} {y' : Vs} (h : Pst V q v m room y1 y2 u) (hm : ∀ x, Pv V.heap.size u q V.heap.size room y1 x → Moved Pv V.heap.size u q V.heap.size room y' x w') : Pst V q v m room y' y2 w' := by
  obtain ⟨x, h1, h2⟩ := h.two
  obtain ⟨x', k1, k2, k3⟩ := hm x h1
  exact ⟨⟨x', k1, k2.rv h1.dsk h2⟩, h.below.trans k3⟩
/-- The document's step. -/
theorem Pst.ref {w' : World} {y' : Vs} {x : Option Nat} (h1 : Pv V.heap.size u q V.heap.size room y1 x) (hb : Below V.heap.size V u) (hr : Rleft V.heap.size u v m room y' x w') : Pst V q v m room y1 y' w' :=
  ⟨⟨x, way.kept h1 hr.kept, hr.rv⟩, hb.trans hr.below⟩

theorem pput (h : Pst V q v m room y1 y2 u) (hg : Good room y1) (hm : room ≤ 16777216) (a : Sv) (hn : Nums a) :
    Calls Try.prog 11 #[.pointer (some ⟨q, 0, none⟩), val a] u fun e w' => e = .returned (.int .i64 (ePut room y1 a)) ∧ Pst V q v m room (vPut room y1 a) y2 w' := by
  obtain ⟨x, h1, h2⟩ := h.two
  refine (way.put h1 h.below.size hg hm a hn).mono ?_
  rintro e w' ⟨rfl, x', k1, k2, k3⟩
  exact ⟨rfl, ⟨x', k1, k2.rv h1.dsk h2⟩, h.below.trans k3⟩
theorem pref (h : Pst V q v m room y1 y2 u) (hg : Good room y2) (h0 : 0 ≤ room) (hm : room ≤ 100000) (a : Sv) :
    Calls Try.prog 12 #[.pointer (some ⟨v, 0, none⟩), val a] u fun e w' => e = .returned (.int .i64 (ePut room y2 a)) ∧ Pst V q v m room y1 (vPut room y2 a) w' := by
  obtain ⟨x, h1, h2⟩ := h.two
  have hl := hg.len
  refine (rput_any h2 h.below.size (file_lt h1.dsk) hg.holds h0 (by omega) (by omega) a).mono ?_
  rintro e w' ⟨rfl, hr⟩
  exact ⟨rfl, Pst.ref h1 h.below hr⟩
theorem psync (h : Pst V q v m room y1 y2 u) (hg : Good room y1) (hm : room ≤ 16777216) :
    Calls Try.prog 14 #[.pointer (some ⟨q, 0, none⟩)] u fun e w' => e = .returned (.tuple #[]) ∧ Pst V q v m room (vSync room y1) y2 w' := by
  obtain ⟨x, h1, h2⟩ := h.two
  refine (way.sync h1 h.below.size hg hm).mono ?_
  rintro e w' ⟨rfl, x', k1, k2, k3⟩
  exact ⟨rfl, ⟨x', k1, k2.rv h1.dsk h2⟩, h.below.trans k3⟩
theorem psref (h : Pst V q v m room y1 y2 u) (hg : Good room y2) (hm : room ≤ 100000) :
    Calls Try.prog 15 #[.pointer (some ⟨v, 0, none⟩)] u fun e w' => e = .returned (.tuple #[]) ∧ Pst V q v m room y1 (vSync room y2) w' := by
  obtain ⟨x, h1, h2⟩ := h.two
  have hl := hg.len
  refine (rsync_any h2 h.below.size (file_lt h1.dsk) hg.holds (by omega) (by omega) (fun hne => right_last hg.chain hne)).mono ?_
  rintro e w' ⟨rfl, hr⟩
  exact ⟨rfl, Pst.ref h1 h.below hr⟩
/-- The program's disk crashes. -/
theorem pcrash (h : Pst V q v m room y1 y2 u) (hh : Holds room y1.1) (hm : room ≤ 16777216) (keep : Int) (hk : Num keep) :
    Calls Try.prog 16 #[.pointer (some ⟨V.heap.size, 0, none⟩), .int .i64 keep] u fun e w' => e = .returned (.int .i64 (Disk.gone keep y1.1)) ∧ Dst V v m room (dCrash keep y1.1) y2 w' := by
  obtain ⟨x, h1, h2⟩ := h.two
  have hd := h1.dsk
  refine (Disk.crash_any hd hh hm h.below.size keep hk.1 hk.2).mono ?_
  rintro e w' ⟨rfl, x', k1, k2, k3⟩
  exact ⟨rfl, ⟨x', k1, (Off.aside hd k2).rv hd h2⟩, h.below.trans k3⟩
/-- The document's disk crashes. -/
theorem pcref (h : Dst V v m room s y2 u) (hh : Holds room y2.1) (hm : room ≤ 16777216) (keep : Int) (hk : Num keep) :
    Calls Try.prog 17 #[.pointer (some ⟨m, 0, none⟩), .int .i64 keep] u fun e w' => e = .returned (.int .i64 (Disk.gone keep y2.1)) ∧ Dst V v m room s (dCrash keep y2.1, y2.2) w' := by
  obtain ⟨x, h1, h2⟩ := h.two
  refine (Disk.rcrash_any h2.ref (file_lt h1) hh hm keep hk.1 hk.2).mono ?_
  rintro e w' ⟨rfl, hm2⟩
  have hr := h2.step hm2
  exact ⟨rfl, ⟨x, dsk_kept h1 (by decide) (by decide) hr.kept, hr.rv⟩, h.below.trans hr.below⟩
/-- The program opens its disk. -/
theorem popen (h : Dst V v m room s y2 u) (hh : Holds room s) (hm : room ≤ 16777216) (hy : IsBytes (all s)) (l' : List Sv) (hs : states (all s) = some l') :
    Calls Try.prog 8 #[.pointer (some ⟨V.heap.size, 0, none⟩)] u fun e w' => ∃ q, e = .returned (.tuple #[.pointer (some ⟨q, 0, none⟩), .int .i64 0]) ∧ Pst V q v m room (cut room s, l') y2 w' := by
  obtain ⟨x, h1, h2⟩ := h.two
  refine (popen_yes h1 h.below.size hh hm hy hs).mono ?_
  rintro e w' ⟨q, rfl, x', k1, k2, k3⟩
  exact ⟨q, rfl, ⟨x', k1, k2.rv h1 h2⟩, h.below.trans k3⟩
/-- The document opens its disk. -/
theorem ropen (h : Hst V q m room y1 s u) (hh : Holds room s) (hm : room ≤ 16777216) (hy : IsBytes (all s)) (l' : List Sv) (hs : states (all s) = some l') :
    Calls Try.prog 9 #[.pointer (some ⟨m, 0, none⟩)] u fun e w' => e = .returned (.tuple #[.pointer (some ⟨u.heap.size, 0, none⟩), .int .i64 0]) ∧ Pst V q u.heap.size m room y1 (cut room s, l') w' := by
  obtain ⟨x, h1, h2⟩ := h.two
  refine (ropens_yes hs (ropen_any h2 h.below.size (file_lt h1.dsk) hh hm hy)).mono ?_
  rintro e w' ⟨rfl, k1, k2⟩
  exact ⟨rfl, ⟨x, way.kept h1 (ref_kept7 h2 k2), k1⟩, h.below.grown k2 h.below.size (fun k hk => by cases hk; exact h2.1)⟩
theorem Pst.hst (h : Pst V q v m room y1 y2 u) : Hst V q m room y1 y2.1 u := by
  obtain ⟨x, h1, h2⟩ := h.two
  exact ⟨⟨x, h1, h2.ref⟩, h.below⟩
/-- The question. -/
theorem psame (h : Pst V q v m room y y u) (hg : Good room y) (hm : room ≤ 16777216) :
    Calls Try.prog 18 #[.pointer (some ⟨q, 0, none⟩), .pointer (some ⟨V.heap.size, 0, none⟩), .pointer (some ⟨v, 0, none⟩)] u fun e w' => e = .returned (.bool true) ∧ Pst V q v m room y y w' := by
  obtain ⟨x, h1, h2⟩ := h.two
  have hl := hg.len
  refine (same_any h2 h1.dsk hg.holds hm (by omega) (fun u' hu => way.state (way.below h1 hu)) (fun u' hu => way.recs (way.below h1 hu))).mono ?_
  rintro e w' ⟨rfl, hb⟩
  exact ⟨rfl, h.on hb⟩
/-- The first vaults. -/
theorem popen0 {w : World} (hd : Dsk 65 5 V.heap.size w V.heap.size room ([], []) none) (hb : Below V.heap.size V w) (h0 : 0 ≤ room) (hm : room ≤ 16777216) :
    Calls Try.prog 8 #[.pointer (some ⟨V.heap.size, 0, none⟩)] w fun e w' => ∃ q, e = .returned (.tuple #[.pointer (some ⟨q, 0, none⟩), .int .i64 0]) ∧ (∃ x, Pv V.heap.size w' q V.heap.size room (([], []), []) x) ∧ Below V.heap.size V w' := by
  refine (popen_yes hd hb.size (by simpa [Holds] using h0) hm (by intro x hx; cases hx) (l := []) rfl).mono ?_
  rintro e w' ⟨q, rfl, x', h1, _, h3⟩
  exact ⟨q, rfl, ⟨x', h1⟩, hb.trans h3⟩
theorem hst0 (h : ∃ x, Pv V.heap.size u q V.heap.size room (([], []), []) x) (hb : Below V.heap.size V u) :
    Hst V q u.heap.size room (([], []), []) ([], []) (u.alloc (.cells #[.int .i64 room, .slice none 0 0, .slice none 0 0] 41)) := by
  obtain ⟨x, h⟩ := h
  have hb2 : Below u.heap.size u (u.alloc (.cells #[.int .i64 room, .slice none 0 0, .slice none 0 0] 41)) := (Below.refl _ _).alloc (Nat.le_refl _) _
  exact ⟨⟨x, Half.below h hb2, hb.size, none, 0, none, 0, heap_alloc_new _ _, .nil, .nil⟩, hb.trans (hb2.mono hb.size)⟩
theorem ropen0 (h : Hst V q m room y1 ([], []) u) (h0 : 0 ≤ room) (hm : room ≤ 16777216) :
    Calls Try.prog 9 #[.pointer (some ⟨m, 0, none⟩)] u fun e w' => e = .returned (.tuple #[.pointer (some ⟨u.heap.size, 0, none⟩), .int .i64 0]) ∧ Pst V q u.heap.size m room y1 (([], []), []) w' :=
  ropen h (by simpa [Holds] using h0) hm (by intro x hx; cases hx) [] rfl
end
end Go.Proofs.Ytlbdkigiphnabaa.Vault
