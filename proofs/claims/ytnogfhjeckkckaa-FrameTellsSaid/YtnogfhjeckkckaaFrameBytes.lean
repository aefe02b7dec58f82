/-
  The document's Bytes, of a frame that may be: a new row of its bytes; of what lay when the call began nothing has turned.
-/
import Derived.Test.YtnogfhjeckkckaaFrameNums
import Derived.Test.YtnogfhjeckkckaaCodecPut
namespace Go.Proofs.Ytnogfhjeckkckaa.Frame
open Go.RowKit Codec

/-- A row of ints that is owned, as a slice. -/
theorem OwnI.form {B : Nat} {w : World} {v : Value} {l : List Int} (h : OwnI B w v l) (hn : 0 < l.length) : ∃ g c, v = .slice (some ⟨g, 0, none⟩) l.length c ∧ Ints w (some ⟨g, 0, none⟩) l := by
  obtain ⟨g, c, rfl, _, _⟩ := World.ownsRow.form h hn
  refine ⟨g, c, rfl, .inr ⟨g, 0, rfl, fun j hj => ?_⟩⟩
  have := World.ownsRow.cells (g := g) h rfl j (.int .i64 (l.getD j 0)) (by simp [ints, List.getD, hj])
  rwa [add_at] at this
theorem OwnI.cells {B g n c : Nat} {w : World} {l : List Int} (h : OwnI B w (.slice (some ⟨g, 0, none⟩) n c) l) : ∀ j u, (ints l)[j]? = some u → w.cell? ((⟨g, 0, none⟩ : Addr).add j) = some u := World.ownsRow.cells (g := g) h rfl
/-- Three numbers, laid. -/
theorem OwnI.three (w : World) (a b c : Int) : OwnI w.heap.size (w.alloc (.cells #[.int .i64 a, .int .i64 b, .int .i64 c] 3)) (.slice (some ⟨w.heap.size, 0, none⟩) 3 3) [a, b, c] :=
  ⟨rfl, .inr ⟨w.heap.size, 3, _, rfl, Nat.le_refl _, heap_alloc_new _ _, Nat.le_refl _, (by unfold maxLen; omega), rfl, rfl⟩⟩

theorem last_news (w : World) (k : Nat) (hk : w.heap.size = k) (cs : Array Value) : ∀ j u, cs.toList[j]? = some u → (w.alloc (.cells cs 3)).cell? ((⟨k, 0, none⟩ : Addr).add j) = some u := by
  subst hk
  exact World.news_of_block (heap_alloc_new _ _)

set_option maxRecDepth 100000 in
set_option maxHeartbeats 2000000 in
/-- An ack. -/
theorem bytes_ack (src dst gen hop bits tg th ts : Int) (ps p : Option Addr) (n cs m c : Nat) (w : World) (hg : goods [1, src, dst, gen, hop] = true) :
    Calls Try.prog 22 #[.agg #[.int .i64 1, .int .i64 src, .int .i64 dst, .int .i64 gen, .int .i64 hop, .int .u64 bits, .int .i64 tg, .int .i64 th, .slice ps n cs, .int .i64 ts, .slice p m c]] w (Made 5 w (puts [1, src, dst, gen, hop]) id) := by
  obtain ⟨i0, hi, hz0, hz1, hz2⟩ := info_parts infoI
  obtain ⟨i8, hi8, hy0, hy1, hy2⟩ := info_parts info8
  have HG := Lib.hid hg
  clear hg
  have b0 : Below w.heap.size w (w.alloc (.cells #[.int .i64 1, .int .i64 src, .int .i64 dst, .int .i64 gen, .int .i64 hop, .int .u64 bits, .int .i64 tg, .int .i64 th, .slice ps n cs, .int .i64 ts, .slice p m c] 31)) := (Below.refl _ _).alloc (Nat.le_refl _) _
  have hk : ∀ i, (w.alloc (.cells #[.int .i64 1, .int .i64 src, .int .i64 dst, .int .i64 gen, .int .i64 hop, .int .u64 bits, .int .i64 tg, .int .i64 th, .slice ps n cs, .int .i64 ts, .slice p m c] 31)).cell? ⟨w.heap.size, i, none⟩ = #[.int .i64 1, .int .i64 src, .int .i64 dst, .int .i64 gen, .int .i64 hop, .int .u64 bits, .int .i64 tg, .int .i64 th, .slice ps n cs, .int .i64 ts, .slice p m c][i]? := fun i => cell_of_row _ _ i _ _ (0, 0) (heap_alloc_new w _)
  have H0 := Lib.hid (hk 0)
  have H5 := Lib.hid (hk 5)
  have h3 := OwnI.three (w.alloc (.cells #[.int .i64 1, .int .i64 src, .int .i64 dst, .int .i64 gen, .int .i64 hop, .int .u64 bits, .int .i64 tg, .int .i64 th, .slice ps n cs, .int .i64 ts, .slice p m c] 31)) 1 src dst
  rw [show (w.alloc (.cells #[.int .i64 1, .int .i64 src, .int .i64 dst, .int .i64 gen, .int .i64 hop, .int .u64 bits, .int .i64 tg, .int .i64 th, .slice ps n cs, .int .i64 ts, .slice p m c] 31)).heap.size = w.heap.size + 1 by simp] at h3
  have H3 := Lib.hid h3
  clear hk h3
  have HN := Lib.hid (last_news ((w.alloc (.cells #[.int .i64 1, .int .i64 src, .int .i64 dst, .int .i64 gen, .int .i64 hop, .int .u64 bits, .int .i64 tg, .int .i64 th, .slice ps n cs, .int .i64 ts, .slice p m c] 31)).alloc (.cells #[.int .i64 1, .int .i64 src, .int .i64 dst] 3)) (w.heap.size + 2) (by simp) #[.int .i64 gen, .int .i64 hop])
  go_enter Try.func22, Try.ntmps22
  go_wp2_with (first
    | (at_builtin; refine wpList_append_own _ rfl (.tmp 24) (.tmp 29) 24 rfl (w.heap.size + 1) 3 i0 (.int .i64 0) 1 8 Try.underlying24 hi hz0 hz1 hz2 rfl (by decide) _ _ _ rfl (World.ownsRow.alloc H3.out _) ⟨w.heap.size + 2, 0, none⟩ 2 2 (ints [gen, hop]) rfl rfl HN.out (ints_one _) (by unfold maxLen; simp; try omega) (by simp; try omega) (by simp; try omega) ?_; intro v1 w1 ho hgr _; have HO := Lib.hid (OwnI.app (l := [1, src, dst]) (xs := [gen, hop]) ho rfl); have hbx : Below (w.heap.size + 1) (w.alloc (.cells #[.int .i64 1, .int .i64 src, .int .i64 dst, .int .i64 gen, .int .i64 hop, .int .u64 bits, .int .i64 tg, .int .i64 th, .slice ps n cs, .int .i64 ts, .slice p m c] 31)) w1 := (((Below.refl _ _).alloc (by simp) _).alloc (by simp; try omega) _).grown hgr (by simp; try omega) (fun k hk => (World.ownsRow.lt H3.out k hk).1); obtain ⟨g1, c1, rfl, hI⟩ := OwnI.form HO.out (by simp); have hput := put_any (some ⟨g1, 0, none⟩) c1 [1, src, dst, gen, hop] w1 (by simp) hI; have hs1 : w.heap.size ≤ w1.heap.size := (by have := hbx.size; simp at this; omega); have K0 : w1.cell? ⟨w.heap.size, 0, none⟩ = some (.int .i64 1) := (hbx.cell (p := ⟨w.heap.size, 0, none⟩) (by simp)).trans H0.out; have HBX := Lib.hid hbx; have K5 := Lib.hid ((hbx.cell (p := ⟨w.heap.size, 5, none⟩) (by simp)).trans H5.out); clear ho hgr hI hbx)
    | (go_at_call 53; refine hput.mono ?_; rintro e w2 hp2; clear hput; obtain ⟨v2, rfl, ho2, hb2⟩ : Made 5 w1 (puts [1, src, dst, gen, hop]) (fun v => .tuple #[v, .int .i64 0]) e w2 := (by rcases hp2 with h | h; exact h.2; rw [HG.out] at h; cases h.1); clear hp2; have HO2 := Lib.hid ho2; have J0 : w2.cell? ⟨w.heap.size, 0, none⟩ = some (.int .i64 1) := cell_on ((HBX.out.cell (p := ⟨w.heap.size, 0, none⟩) (by simp)).trans H0.out) hb2; have J5 : w2.cell? ⟨w.heap.size, 5, none⟩ = some (.int .u64 bits) := cell_on ((HBX.out.cell (p := ⟨w.heap.size, 5, none⟩) (by simp)).trans H5.out) hb2; have HB2 := Lib.hid hb2; have hs2 := hb2.size; clear ho2 hb2 K0)
    | fail)
  go_ret
  exact ⟨v2, rfl, own_lower HO2.out hs1, (b0.trans (HBX.out.mono (by omega))).trans (HB2.out.mono hs1)⟩

set_option maxRecDepth 100000 in
set_option maxHeartbeats 2000000 in
/-- An elect. -/
theorem bytes_elect (src dst gen hop bits tg th ts : Int) (ps p : Option Addr) (n cs m c : Nat) (w : World) (hg : goods [2, src, dst, gen] = true) :
    Calls Try.prog 22 #[.agg #[.int .i64 2, .int .i64 src, .int .i64 dst, .int .i64 gen, .int .i64 hop, .int .u64 bits, .int .i64 tg, .int .i64 th, .slice ps n cs, .int .i64 ts, .slice p m c]] w (Made 5 w (puts [2, src, dst, gen] ++ eight bits) id) := by
  obtain ⟨i0, hi, hz0, hz1, hz2⟩ := info_parts infoI
  obtain ⟨i8, hi8, hy0, hy1, hy2⟩ := info_parts info8
  have HG := Lib.hid hg
  clear hg
  have b0 : Below w.heap.size w (w.alloc (.cells #[.int .i64 2, .int .i64 src, .int .i64 dst, .int .i64 gen, .int .i64 hop, .int .u64 bits, .int .i64 tg, .int .i64 th, .slice ps n cs, .int .i64 ts, .slice p m c] 31)) := (Below.refl _ _).alloc (Nat.le_refl _) _
  have hk : ∀ i, (w.alloc (.cells #[.int .i64 2, .int .i64 src, .int .i64 dst, .int .i64 gen, .int .i64 hop, .int .u64 bits, .int .i64 tg, .int .i64 th, .slice ps n cs, .int .i64 ts, .slice p m c] 31)).cell? ⟨w.heap.size, i, none⟩ = #[.int .i64 2, .int .i64 src, .int .i64 dst, .int .i64 gen, .int .i64 hop, .int .u64 bits, .int .i64 tg, .int .i64 th, .slice ps n cs, .int .i64 ts, .slice p m c][i]? := fun i => cell_of_row _ _ i _ _ (0, 0) (heap_alloc_new w _)
  have H0 := Lib.hid (hk 0)
  have H5 := Lib.hid (hk 5)
  have h3 := OwnI.three (w.alloc (.cells #[.int .i64 2, .int .i64 src, .int .i64 dst, .int .i64 gen, .int .i64 hop, .int .u64 bits, .int .i64 tg, .int .i64 th, .slice ps n cs, .int .i64 ts, .slice p m c] 31)) 2 src dst
  rw [show (w.alloc (.cells #[.int .i64 2, .int .i64 src, .int .i64 dst, .int .i64 gen, .int .i64 hop, .int .u64 bits, .int .i64 tg, .int .i64 th, .slice ps n cs, .int .i64 ts, .slice p m c] 31)).heap.size = w.heap.size + 1 by simp] at h3
  have H3 := Lib.hid h3
  clear hk h3
  have HN := Lib.hid (last_news ((w.alloc (.cells #[.int .i64 2, .int .i64 src, .int .i64 dst, .int .i64 gen, .int .i64 hop, .int .u64 bits, .int .i64 tg, .int .i64 th, .slice ps n cs, .int .i64 ts, .slice p m c] 31)).alloc (.cells #[.int .i64 2, .int .i64 src, .int .i64 dst] 3)) (w.heap.size + 2) (by simp) #[.int .i64 gen])
  go_enter Try.func22, Try.ntmps22
  go_wp2_with (first
    | (at_builtin; refine wpList_append_own _ rfl (.tmp 33) (.tmp 36) 24 rfl (w.heap.size + 1) 3 i0 (.int .i64 0) 1 8 Try.underlying24 hi hz0 hz1 hz2 rfl (by decide) _ _ _ rfl (World.ownsRow.alloc H3.out _) ⟨w.heap.size + 2, 0, none⟩ 1 1 (ints [gen]) rfl rfl HN.out (ints_one _) (by unfold maxLen; simp; try omega) (by simp; try omega) (by simp; try omega) ?_; intro v1 w1 ho hgr _; have HO := Lib.hid (OwnI.app (l := [2, src, dst]) (xs := [gen]) ho rfl); have hbx : Below (w.heap.size + 1) (w.alloc (.cells #[.int .i64 2, .int .i64 src, .int .i64 dst, .int .i64 gen, .int .i64 hop, .int .u64 bits, .int .i64 tg, .int .i64 th, .slice ps n cs, .int .i64 ts, .slice p m c] 31)) w1 := (((Below.refl _ _).alloc (by simp) _).alloc (by simp; try omega) _).grown hgr (by simp; try omega) (fun k hk => (World.ownsRow.lt H3.out k hk).1); obtain ⟨g1, c1, rfl, hI⟩ := OwnI.form HO.out (by simp); have hput := put_any (some ⟨g1, 0, none⟩) c1 [2, src, dst, gen] w1 (by simp) hI; have hs1 : w.heap.size ≤ w1.heap.size := (by have := hbx.size; simp at this; omega); have K0 : w1.cell? ⟨w.heap.size, 0, none⟩ = some (.int .i64 2) := (hbx.cell (p := ⟨w.heap.size, 0, none⟩) (by simp)).trans H0.out; have HBX := Lib.hid hbx; have K5 := Lib.hid ((hbx.cell (p := ⟨w.heap.size, 5, none⟩) (by simp)).trans H5.out); clear ho hgr hI hbx)
    | (go_at_call 53; refine hput.mono ?_; rintro e w2 hp2; clear hput; obtain ⟨v2, rfl, ho2, hb2⟩ : Made 5 w1 (puts [2, src, dst, gen]) (fun v => .tuple #[v, .int .i64 0]) e w2 := (by rcases hp2 with h | h; exact h.2; rw [HG.out] at h; cases h.1); clear hp2; have HO2 := Lib.hid ho2; have J0 : w2.cell? ⟨w.heap.size, 0, none⟩ = some (.int .i64 2) := cell_on ((HBX.out.cell (p := ⟨w.heap.size, 0, none⟩) (by simp)).trans H0.out) hb2; have J5 : w2.cell? ⟨w.heap.size, 5, none⟩ = some (.int .u64 bits) := cell_on ((HBX.out.cell (p := ⟨w.heap.size, 5, none⟩) (by simp)).trans H5.out) hb2; have HB2 := Lib.hid hb2; have hs2 := hb2.size; clear ho2 hb2 K0)
    | (go_at_call 54; refine (eight_any bits _).mono ?_; rintro e w3 ⟨v3, rfl, ho3, hb3⟩; rw [len_eight] at ho3; obtain ⟨g3, c3, rfl, _, _⟩ := ho3.form (by omega); have HO3 := Lib.hid ho3; have HB3 := Lib.hid hb3; have hs3 := hb3.size; clear ho3 hb3)
    | (at_builtin; refine wpList_append_own _ rfl (.tmp 46) (.tmp 49) 40 rfl w1.heap.size 5 i8 (.int .u8 0) 1 1 Try.underlying40 hi8 hy0 hy1 hy2 rfl (by decide) _ _ _ rfl (own_below HO2.out HB3.out) ⟨g3, 0, none⟩ 8 c3 (cells8 (eight bits)) rfl (by rw [len_cells8, len_eight]) (HO3.out.cells rfl) (cells8_one _) (by rw [len_puts]; unfold maxLen; simp) (by rw [len_puts]; simp) (by omega) ?_; intro v4 w4 ho4 hg4 _; have hb4 : Below w1.heap.size w1 w4 := (HB2.out.trans (HB3.out.mono hs2)).grown hg4 (by omega) (fun k hk => (HO2.out.lt k hk).1); have HO4 : Hid (w4.ownsRow w1.heap.size 5 1 v4 (puts [2, src, dst, gen] ++ eight bits).length (cells8 (puts [2, src, dst, gen] ++ eight bits))) := (by show World.ownsRow _ _ _ _ _ _ _; rw [List.length_append, cells8_append, len_eight]; exact ho4); clear ho4 hg4))
  go_ret
  exact ⟨v4, rfl, own_lower HO4.out hs1, (b0.trans (HBX.out.mono (by omega))).trans (hb4.mono hs1)⟩

set_option maxRecDepth 100000 in
set_option maxHeartbeats 2000000 in
/-- A beat. -/
theorem bytes_beat (src dst gen hop bits tg th ts : Int) (ps p : Option Addr) (n cs m c : Nat) (w : World) (hg : goods [3, src, dst] = true) :
    Calls Try.prog 22 #[.agg #[.int .i64 3, .int .i64 src, .int .i64 dst, .int .i64 gen, .int .i64 hop, .int .u64 bits, .int .i64 tg, .int .i64 th, .slice ps n cs, .int .i64 ts, .slice p m c]] w (Made 5 w (puts [3, src, dst]) id) := by
  obtain ⟨i0, hi, hz0, hz1, hz2⟩ := info_parts infoI
  obtain ⟨i8, hi8, hy0, hy1, hy2⟩ := info_parts info8
  have HG := Lib.hid hg
  clear hg
  have b0 : Below w.heap.size w (w.alloc (.cells #[.int .i64 3, .int .i64 src, .int .i64 dst, .int .i64 gen, .int .i64 hop, .int .u64 bits, .int .i64 tg, .int .i64 th, .slice ps n cs, .int .i64 ts, .slice p m c] 31)) := (Below.refl _ _).alloc (Nat.le_refl _) _
  have hk : ∀ i, (w.alloc (.cells #[.int .i64 3, .int .i64 src, .int .i64 dst, .int .i64 gen, .int .i64 hop, .int .u64 bits, .int .i64 tg, .int .i64 th, .slice ps n cs, .int .i64 ts, .slice p m c] 31)).cell? ⟨w.heap.size, i, none⟩ = #[.int .i64 3, .int .i64 src, .int .i64 dst, .int .i64 gen, .int .i64 hop, .int .u64 bits, .int .i64 tg, .int .i64 th, .slice ps n cs, .int .i64 ts, .slice p m c][i]? := fun i => cell_of_row _ _ i _ _ (0, 0) (heap_alloc_new w _)
  have H0 := Lib.hid (hk 0)
  have H5 := Lib.hid (hk 5)
  have h3 := OwnI.three (w.alloc (.cells #[.int .i64 3, .int .i64 src, .int .i64 dst, .int .i64 gen, .int .i64 hop, .int .u64 bits, .int .i64 tg, .int .i64 th, .slice ps n cs, .int .i64 ts, .slice p m c] 31)) 3 src dst
  rw [show (w.alloc (.cells #[.int .i64 3, .int .i64 src, .int .i64 dst, .int .i64 gen, .int .i64 hop, .int .u64 bits, .int .i64 tg, .int .i64 th, .slice ps n cs, .int .i64 ts, .slice p m c] 31)).heap.size = w.heap.size + 1 by simp] at h3
  have H3 := Lib.hid h3
  clear hk h3
  have hI : Ints ((w.alloc (.cells #[.int .i64 3, .int .i64 src, .int .i64 dst, .int .i64 gen, .int .i64 hop, .int .u64 bits, .int .i64 tg, .int .i64 th, .slice ps n cs, .int .i64 ts, .slice p m c] 31)).alloc (.cells #[.int .i64 3, .int .i64 src, .int .i64 dst] 3)) (some ⟨w.heap.size + 1, 0, none⟩) [3, src, dst] := by
    obtain ⟨g, c, e, h⟩ := OwnI.form H3.out (by simp)
    simp only [Value.slice.injEq, Option.some.injEq, Addr.mk.injEq] at e
    obtain ⟨⟨rfl, _⟩, _⟩ := e
    exact h
  have hput := put_any (some ⟨w.heap.size + 1, 0, none⟩) 3 [3, src, dst] _ (by simp) hI
  have hbx : Below (w.heap.size + 1) (w.alloc (.cells #[.int .i64 3, .int .i64 src, .int .i64 dst, .int .i64 gen, .int .i64 hop, .int .u64 bits, .int .i64 tg, .int .i64 th, .slice ps n cs, .int .i64 ts, .slice p m c] 31)) ((w.alloc (.cells #[.int .i64 3, .int .i64 src, .int .i64 dst, .int .i64 gen, .int .i64 hop, .int .u64 bits, .int .i64 tg, .int .i64 th, .slice ps n cs, .int .i64 ts, .slice p m c] 31)).alloc (.cells #[.int .i64 3, .int .i64 src, .int .i64 dst] 3)) := (Below.refl _ _).alloc (by simp) _
  have HBX := Lib.hid hbx
  clear hI hbx
  go_enter Try.func22, Try.ntmps22
  go_wp2_with (first
    | (go_at_call 53; refine hput.mono ?_; rintro e w2 hp2; clear hput; obtain ⟨v2, rfl, ho2, hb2⟩ : Made 5 ((w.alloc (.cells #[.int .i64 3, .int .i64 src, .int .i64 dst, .int .i64 gen, .int .i64 hop, .int .u64 bits, .int .i64 tg, .int .i64 th, .slice ps n cs, .int .i64 ts, .slice p m c] 31)).alloc (.cells #[.int .i64 3, .int .i64 src, .int .i64 dst] 3)) (puts [3, src, dst]) (fun v => .tuple #[v, .int .i64 0]) e w2 := (by rcases hp2 with h | h; exact h.2; rw [HG.out] at h; cases h.1); clear hp2; have HO2 := Lib.hid ho2; have J0 : w2.cell? ⟨w.heap.size, 0, none⟩ = some (.int .i64 3) := cell_on ((HBX.out.cell (p := ⟨w.heap.size, 0, none⟩) (by simp)).trans H0.out) hb2; have J5 : w2.cell? ⟨w.heap.size, 5, none⟩ = some (.int .u64 bits) := cell_on ((HBX.out.cell (p := ⟨w.heap.size, 5, none⟩) (by simp)).trans H5.out) hb2; have HB2 := Lib.hid hb2; have hs2 := hb2.size; clear ho2 hb2)
    | fail)
  go_ret
  exact ⟨v2, rfl, own_lower HO2.out (by simp; omega), (b0.trans (HBX.out.mono (by omega))).trans (HB2.out.mono (by simp; omega))⟩

set_option maxRecDepth 100000 in
set_option maxHeartbeats 2000000 in
/-- A pass. -/
theorem bytes_pass (src dst gen hop bits : Int) (t : Tk) (ps p : Option Addr) (cs c : Nat) (w : World) (hst : Ints w ps t.stamps) (hl : RowsAt w p t.table.rows) (hns : t.stamps.length ≤ 64) (hnr : t.table.rows.length ≤ 16) (hno : ∀ r ∈ t.table.rows, r.out.length ≤ 64) (hsv : ∀ x ∈ t.stamps, -1 ≤ x ∧ x ≤ 4611686018427387903)
    (hln : (tokenNums t).length ≤ 90000) (hg : goods ([0, src, dst] ++ tokenNums t) = true) :
    Calls Try.prog 22 #[.agg #[.int .i64 0, .int .i64 src, .int .i64 dst, .int .i64 gen, .int .i64 hop, .int .u64 bits, .int .i64 t.gen, .int .i64 t.hop, .slice ps t.stamps.length cs, .int .i64 t.table.start, .slice p t.table.rows.length c]] w (Made 5 w (puts ([0, src, dst] ++ tokenNums t)) id) := by
  obtain ⟨i0, hi, hz0, hz1, hz2⟩ := info_parts infoI
  have HG := Lib.hid hg
  have b0 : Below w.heap.size w (w.alloc (.cells #[.int .i64 0, .int .i64 src, .int .i64 dst, .int .i64 gen, .int .i64 hop, .int .u64 bits, .int .i64 t.gen, .int .i64 t.hop, .slice ps t.stamps.length cs, .int .i64 t.table.start, .slice p t.table.rows.length c] 31)) := (Below.refl _ _).alloc (Nat.le_refl _) _
  have hk : ∀ i, (w.alloc (.cells #[.int .i64 0, .int .i64 src, .int .i64 dst, .int .i64 gen, .int .i64 hop, .int .u64 bits, .int .i64 t.gen, .int .i64 t.hop, .slice ps t.stamps.length cs, .int .i64 t.table.start, .slice p t.table.rows.length c] 31)).cell? ⟨w.heap.size, i, none⟩ = #[.int .i64 0, .int .i64 src, .int .i64 dst, .int .i64 gen, .int .i64 hop, .int .u64 bits, .int .i64 t.gen, .int .i64 t.hop, .slice ps t.stamps.length cs, .int .i64 t.table.start, .slice p t.table.rows.length c][i]? := fun i => cell_of_row _ _ i _ _ (0, 0) (heap_alloc_new w _)
  have H0 := Lib.hid (hk 0)
  have h3 := OwnI.three (w.alloc (.cells #[.int .i64 0, .int .i64 src, .int .i64 dst, .int .i64 gen, .int .i64 hop, .int .u64 bits, .int .i64 t.gen, .int .i64 t.hop, .slice ps t.stamps.length cs, .int .i64 t.table.start, .slice p t.table.rows.length c] 31)) 0 src dst
  rw [show (w.alloc (.cells #[.int .i64 0, .int .i64 src, .int .i64 dst, .int .i64 gen, .int .i64 hop, .int .u64 bits, .int .i64 t.gen, .int .i64 t.hop, .slice ps t.stamps.length cs, .int .i64 t.table.start, .slice p t.table.rows.length c] 31)).heap.size = w.heap.size + 1 by simp] at h3
  have H3 := Lib.hid h3
  have bn : Below (w.heap.size + 1) (w.alloc (.cells #[.int .i64 0, .int .i64 src, .int .i64 dst, .int .i64 gen, .int .i64 hop, .int .u64 bits, .int .i64 t.gen, .int .i64 t.hop, .slice ps t.stamps.length cs, .int .i64 t.table.start, .slice p t.table.rows.length c] 31)) ((w.alloc (.cells #[.int .i64 0, .int .i64 src, .int .i64 dst, .int .i64 gen, .int .i64 hop, .int .u64 bits, .int .i64 t.gen, .int .i64 t.hop, .slice ps t.stamps.length cs, .int .i64 t.table.start, .slice p t.table.rows.length c] 31)).alloc (.cells #[.int .i64 0, .int .i64 src, .int .i64 dst] 3)) := (Below.refl _ _).alloc (by simp) _
  have bw : Below w.heap.size w ((w.alloc (.cells #[.int .i64 0, .int .i64 src, .int .i64 dst, .int .i64 gen, .int .i64 hop, .int .u64 bits, .int .i64 t.gen, .int .i64 t.hop, .slice ps t.stamps.length cs, .int .i64 t.table.start, .slice p t.table.rows.length c] 31)).alloc (.cells #[.int .i64 0, .int .i64 src, .int .i64 dst] 3)) := b0.trans (bn.mono (by omega))
  have hnum := numbers_any t ps p cs c ((w.alloc (.cells #[.int .i64 0, .int .i64 src, .int .i64 dst, .int .i64 gen, .int .i64 hop, .int .u64 bits, .int .i64 t.gen, .int .i64 t.hop, .slice ps t.stamps.length cs, .int .i64 t.table.start, .slice p t.table.rows.length c] 31)).alloc (.cells #[.int .i64 0, .int .i64 src, .int .i64 dst] 3)) (hst.below bw) (hl.below bw) hns hnr hno hsv
  have hpos : 0 < (tokenNums t).length := by simp [tokenNums, headNums]
  generalize tokenNums t = TN at hnum hpos hln HG ⊢
  have zn : ((w.alloc (.cells #[.int .i64 0, .int .i64 src, .int .i64 dst, .int .i64 gen, .int .i64 hop, .int .u64 bits, .int .i64 t.gen, .int .i64 t.hop, .slice ps t.stamps.length cs, .int .i64 t.table.start, .slice p t.table.rows.length c] 31)).alloc (.cells #[.int .i64 0, .int .i64 src, .int .i64 dst] 3)).heap.size = w.heap.size + 2 := by simp
  rw [zn] at hnum
  clear hk h3 hg hst hl hno hsv zn
  go_enter Try.func22, Try.ntmps22
  go_wp2_with (first
    | (go_at_call 52; refine hnum.mono ?_; rintro e w1 ⟨v1, rfl, ho1, hb1⟩; clear hnum; obtain ⟨g1, c1, rfl, _⟩ := OwnI.form ho1 hpos; have HO1 := Lib.hid ho1; have HB1 := Lib.hid (show Below ((w.alloc (.cells #[.int .i64 0, .int .i64 src, .int .i64 dst, .int .i64 gen, .int .i64 hop, .int .u64 bits, .int .i64 t.gen, .int .i64 t.hop, .slice ps t.stamps.length cs, .int .i64 t.table.start, .slice p t.table.rows.length c] 31)).alloc (.cells #[.int .i64 0, .int .i64 src, .int .i64 dst] 3)).heap.size ((w.alloc (.cells #[.int .i64 0, .int .i64 src, .int .i64 dst, .int .i64 gen, .int .i64 hop, .int .u64 bits, .int .i64 t.gen, .int .i64 t.hop, .slice ps t.stamps.length cs, .int .i64 t.table.start, .slice p t.table.rows.length c] 31)).alloc (.cells #[.int .i64 0, .int .i64 src, .int .i64 dst] 3)) w1 from (by rw [show ((w.alloc (.cells #[.int .i64 0, .int .i64 src, .int .i64 dst, .int .i64 gen, .int .i64 hop, .int .u64 bits, .int .i64 t.gen, .int .i64 t.hop, .slice ps t.stamps.length cs, .int .i64 t.table.start, .slice p t.table.rows.length c] 31)).alloc (.cells #[.int .i64 0, .int .i64 src, .int .i64 dst] 3)).heap.size = w.heap.size + 2 by simp]; exact hb1)); have hs1 : w.heap.size + 2 ≤ w1.heap.size := (by have := hb1.size; simp at this; omega); clear ho1 hb1)
    | (at_builtin; refine wpList_append_own _ rfl (.tmp 17) (.tmp 20) 24 rfl (w.heap.size + 1) 3 i0 (.int .i64 0) 1 8 Try.underlying24 hi hz0 hz1 hz2 rfl (by decide) _ _ _ rfl (OwnI.on H3.out HB1.out) ⟨g1, 0, none⟩ TN.length c1 (ints TN) rfl (by simp [ints]) (OwnI.cells HO1.out) (ints_one _) (by unfold maxLen; simp; omega) (by simp; omega) (by omega) ?_; intro v2 w2 ho hgr _; have HO := Lib.hid (OwnI.app (l := [0, src, dst]) (xs := TN) ho rfl); have hbx : Below (w.heap.size + 1) (w.alloc (.cells #[.int .i64 0, .int .i64 src, .int .i64 dst, .int .i64 gen, .int .i64 hop, .int .u64 bits, .int .i64 t.gen, .int .i64 t.hop, .slice ps t.stamps.length cs, .int .i64 t.table.start, .slice p t.table.rows.length c] 31)) w2 := (bn.trans (HB1.out.mono (by simp))).grown hgr (by omega) (fun k hk => (World.ownsRow.lt H3.out k hk).1); obtain ⟨g2, c2, rfl, hI⟩ := OwnI.form HO.out (by simp); have hput := put_any (some ⟨g2, 0, none⟩) c2 ([0, src, dst] ++ TN) w2 (by simp; omega) hI; have hs2 : w.heap.size ≤ w2.heap.size := (by have := hbx.size; simp at this; omega); have HBX := Lib.hid hbx; clear ho hgr hI hbx)
    | (go_at_call 53; refine hput.mono ?_; rintro e w3 hp3; clear hput; obtain ⟨v3, rfl, ho3, hb3⟩ : Made 5 w2 (puts ([0, src, dst] ++ TN)) (fun v => .tuple #[v, .int .i64 0]) e w3 := (by rcases hp3 with h | h; exact h.2; rw [HG.out] at h; cases h.1); clear hp3; have HO3 := Lib.hid ho3; have J0 : w3.cell? ⟨w.heap.size, 0, none⟩ = some (.int .i64 0) := cell_on ((HBX.out.cell (p := ⟨w.heap.size, 0, none⟩) (by simp)).trans H0.out) hb3; have HB3 := Lib.hid hb3; clear ho3 hb3)
    | fail)
  go_ret
  exact ⟨v3, rfl, own_lower HO3.out hs2, (b0.trans (HBX.out.mono (by omega))).trans (HB3.out.mono hs2)⟩
end Go.Proofs.Ytnogfhjeckkckaa.Frame
