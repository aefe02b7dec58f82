/-
  The program's busy, of any rows of up to 1000: those that aren't idle, with where their leases lie.
-/
import Derived.Test.YtcnnepmhdccipaaLgIdle
namespace Go.Proofs.Ytcnnepmhdccipaa.Ledger
open Go.RowKit
open _root_.Go.Proofs.Ytcnnepmhdccipaa.Frame (Rw Tb noRow LeasesAt cell_on)
open _root_.Go.Proofs.Ytcnnepmhdccipaa.Codec (own_below own_lower lt_of_heap frozen_of heap_set)

/-- Rows that a call owns, with where their leases lie. -/
def OwnM (B : Nat) (w : World) (v : Value) (M : List Rp) : Prop := w.ownsRow B 38 4 v M.length (cellsR M)
theorem OwnM.none (B : Nat) (w : World) : OwnM B w (.slice Option.none 0 0) [] := World.ownsRow_nil _ _ _ _
theorem OwnM.shape {B : Nat} {w : World} {v : Value} {M : List Rp} (h : OwnM B w v M) : ∃ p c, v = .slice p M.length c := by
  rcases h.2 with ⟨rfl, h0⟩ | ⟨g, cap, cur, rfl, h1, h2, h3⟩
  · exact ⟨Option.none, 0, by rw [h0]⟩
  · exact ⟨_, cap, rfl⟩
theorem OwnM.lay {B : Nat} {w : World} {v : Value} {M : List Rp} (h : OwnM B w v M) : ∃ p c, v = .slice p M.length (c + M.length) ∧ Lay w p (cellsR M) := by
  have ho := h
  rcases h.2 with ⟨rfl, h0⟩ | ⟨g, cap, cur, rfl, h1, h2, h3⟩
  · have : M = [] := List.eq_nil_of_length_eq_zero h0
    subst this
    exact ⟨Option.none, 0, rfl, .inl rfl⟩
  · refine ⟨_, cap - M.length, by rw [Nat.sub_add_cancel h3.1], .inr ⟨g, 0, rfl, fun j v hv => ?_⟩⟩
    have := World.ownsRow.cells (g := g) ho rfl j v hv
    rwa [Addr.add_mid] at this
theorem OwnM.on {B : Nat} {w w' : World} {v : Value} {M : List Rp} (h : OwnM B w v M) (hb : Below w.heap.size w w') : OwnM B w' v M := own_below h hb
theorem push_pair {u : World} {ops : Array Oper} {rest : List Oper} {o : Oper} {a : Act} {Q : Exit → Act → World → Prop} (hgd : o.guard = none) (s y : Operand)
    (ho : o.op = .call { callee := .builtin .append, args := #[s, y], argTypes := #[22, 22] })
    (w0 wr : World) (v : Value) (hs : a.eval s = v) (M : List Rp) (n : Nat) (hn : M.length = n) (hown : OwnM w0.heap.size wr v M) (hbw : Below w0.heap.size w0 wr) (hu : Below wr.heap.size wr u)
    (g : Nat) (x : Rp) (nx : Nat) (hnx : x.1.out.length = nx) (hy : a.eval y = .slice (some ⟨g, 0, Option.none⟩) 1 1)
    (hg : (u.alloc (.cells #[.int .i64 x.1.key, .int .i64 x.1.avail, .int .i64 x.1.mark, .slice x.2.1 nx (x.2.2 + nx)] 38)).heap[g]? = some (.cells #[.int .i64 x.1.key, .int .i64 x.1.avail, .int .i64 x.1.mark, .slice x.2.1 nx (x.2.2 + nx)] 38 (0, 0))) (hlen : n ≤ 100000)
    (h : ∀ p c w', Hid (OwnM w0.heap.size w' (.slice p (n + 1) c) (M ++ [x])) → Below w0.heap.size w0 w' → wpList Try.prog ops Q rest (a.put o.dst (.slice p (n + 1) c)) w') : wpList Try.prog ops Q (o :: rest) a (u.alloc (.cells #[.int .i64 x.1.key, .int .i64 x.1.avail, .int .i64 x.1.mark, .slice x.2.1 nx (x.2.2 + nx)] 38)) := by
  subst hn hnx
  obtain ⟨i0, hi, hz0, hz1, hz2⟩ := info_parts infoR
  have hua : Below wr.heap.size wr (u.alloc (.cells #[.int .i64 x.1.key, .int .i64 x.1.avail, .int .i64 x.1.mark, .slice x.2.1 x.1.out.length (x.2.2 + x.1.out.length)] 38)) := hu.alloc hu.size _
  refine wpList_append_own _ hgd s y 22 ho w0.heap.size 38 i0 (.agg #[.int .i64 0, .int .i64 0, .int .i64 0, .slice Option.none 0 0]) 4 48 Try.underlying22 hi hz0 hz1 hz2 rfl (by decide) v M.length (cellsR M) hs (own_below hown hua) ⟨g, 0, Option.none⟩ 1 1 [.int .i64 x.1.key, .int .i64 x.1.avail, .int .i64 x.1.mark, .slice x.2.1 x.1.out.length (x.2.2 + x.1.out.length)] hy rfl (World.news_of_block hg) ?_ (by unfold maxLen; omega) (by omega) (Nat.le_trans hbw.size hua.size) ?_
  · intro z hz
    simp at hz
    rcases hz with rfl | rfl | rfl | rfl <;> rfl
  · intro v' w' ho2 hg2 _
    have hb2 := (hbw.trans (hua.mono hbw.size)).grown hg2 (Nat.le_trans hbw.size hua.size) (fun k hk => (World.ownsRow.lt hown k hk).1)
    have R : OwnM w0.heap.size w' v' (M ++ [x]) := by
      unfold OwnM
      rw [cellsR_snoc, List.length_append]
      exact ho2
    obtain ⟨p, c, rfl⟩ : ∃ p c, v' = .slice p (M.length + 1) c := by
      rcases ho2.2 with ⟨_, h0⟩ | ⟨g, cap, cur, rfl, _⟩
      · omega
      · exact ⟨_, cap, rfl⟩
    exact h p c w' R hb2
def sweepP (start now : Int) (f : Cf) (m : List Rp) : List Rp := m.filter fun x => !idle start x.1 now f
theorem sweepP_take (start now : Int) (f : Cf) (m : List Rp) (j : Nat) (h : j < m.length) : sweepP start now f (m.take (j + 1)) = sweepP start now f (m.take j) ++ (if idle start m[j].1 now f = true then [] else [m[j]]) := by
  rw [sweepP, List.take_succ_eq_append_getElem h, List.filter_append]
  by_cases h2 : idle start m[j].1 now f = true
  · rw [if_pos h2]; simp [sweepP, h2]
  · rw [if_neg h2]; simp [sweepP, h2]
theorem sweepP_row (start now : Int) (f : Cf) (m : List Rp) : (sweepP start now f m).map (·.1) = sweepOf start now f (m.map (·.1)) := by
  unfold sweepP sweepOf
  rw [List.filter_map]
  rfl
theorem sweepP_len (start now : Int) (f : Cf) (m : List Rp) (j : Nat) : (sweepP start now f (m.take j)).length ≤ m.length := by
  have h1 : (sweepP start now f (m.take j)).length ≤ (m.take j).length := List.length_filter_le _ _
  have h2 : (m.take j).length ≤ m.length := by simp; omega
  omega
set_option maxRecDepth 100000 in
set_option maxHeartbeats 2000000 in
theorem busy_any (start : Int) (m : List Rp) (p : Option Addr) (c : Nat) (now : Int) (f : Cf) (pf : Option Addr) (cf : Nat) (w : World) (hl : m.length ≤ 1000) (hm : Lay w p (cellsR m)) (hz : RatesAt w pf f.rates) :
    Calls Try.prog 57 #[.agg #[.int .i64 start, .slice p m.length (c + m.length)], .int .i64 now, cfVal f pf cf] w fun e w' => ∃ p' c', e = .returned (.slice p' (sweepP start now f m).length (c' + (sweepP start now f m).length)) ∧ Lay w' p' (cellsR (sweepP start now f m)) ∧ Below w.heap.size w w' := by
  have HV : Hid (∀ j, j = m.length → sweepP start now f m = sweepP start now f (m.take j)) := by rintro j rfl; rw [List.take_length]
  have HS : Hid (∀ j (hj : j < m.length), sweepP start now f (m.take (j + 1)) = sweepP start now f (m.take j) ++ (if idle start m[j].1 now f = true then [] else [m[j]])) := fun j hj => sweepP_take start now f m j hj
  have HL := fun j => Lib.hid (sweepP_len start now f m j)
  have h00 : sweepP start now f (m.take 0) = [] := by simp [sweepP]
  have HI := Lib.hid (fun (u : World) (r : Rw) (pr : Option Addr) (cr : Nat) (hu : Below w.heap.size w u) => pidle_any r pr cr start now f pf cf u (hz.below hu))
  generalize sweepP start now f m = V at HV ⊢
  generalize hG : (fun j => sweepP start now f (m.take j)) = G
  have hGj : ∀ j, sweepP start now f (m.take j) = G j := fun j => by rw [← hG]
  simp only [hGj] at HV HS HL h00
  clear hG hGj
  generalize hI : (fun r => idle start r now f) = I
  have hIr : ∀ r, idle start r now f = I r := fun r => by rw [← hI]
  simp only [hIr] at HS HI
  clear hI hIr
  obtain ⟨n, sk, tl, va, lo, he, ke, qu, rates⟩ := f
  simp only [cfVal, rowVal] at *
  have M0 := Lib.hid (((Mem.start w).box #[.int .i64 start, .slice p m.length (c + m.length)] 24).box #[.int .i64 n, .int .i64 sk, .int .i64 tl, .int .i64 va, .int .i64 lo, .int .i64 he, .int .i64 ke, .int .i64 qu, .slice pf rates.length cf] 27)
  simp only [size_alloc] at M0
  have HM := Lib.hid (hm.on M0.out.below)
  obtain ⟨t0, t1, -⟩ := box2 (M0.out.boxes 1 _ _ _ rfl)
  obtain ⟨c0, c1, c2, c3, c4, c5, c6, c7, c8⟩ := nine_cells (M0.out.boxes 0 _ _ _ rfl)
  clear hm hz
  go_enter Try.func57, Try.ntmps57
  go_wp2
  generalize ((w.alloc (.cells #[.int .i64 start, .slice p m.length (c + m.length)] 24)).alloc (.cells #[.int .i64 n, .int .i64 sk, .int .i64 tl, .int .i64 va, .int .i64 lo, .int .i64 he, .int .i64 ke, .int .i64 qu, .slice pf rates.length cf] 27)) = W1 at *
  clear t0 t1 c0 c1 c2 c3 c4 c5 c6 c7 c8
  go_loopw [7, 13] (fun v i wr => ∃ j : Nat, j ≤ m.length ∧ i = .int .i64 (j : Int) ∧ Hid (OwnM W1.heap.size wr v (G j)) ∧ Below W1.heap.size W1 wr) (fun _ i _ => m.length - (intOf i).toNat)
  case atStart => exact ⟨0, by omega, rfl, (by rw [h00]; exact OwnM.none _ _), Below.refl _ _⟩
  case round =>
    obtain ⟨j, hj, rfl, hown, hbw⟩ := hrel
    have M1 := Lib.hid (M0.out.on hbw)
    by_cases hlt : j < m.length
    · obtain ⟨b, o, rfl, x0', x1', x2', x3'⟩ := lay_row HM.out hlt
      have x0 := cell_on x0' hbw
      have x1 := cell_on x1' hbw
      have x2 := cell_on x2' hbw
      have x3 := cell_on x3' hbw
      have hlt' : (j : Int) < (m.length : Int) := by omega
      have hs := HS.out j hlt
      have hlen := (HL j).out
      generalize m[j] = x at *
      have hi := fun u hu => HI.out u x.1 x.2.1 x.2.2 hu
      generalize I x.1 = q at *
      obtain ⟨⟨xk, xa, xm, xo⟩, px, cx⟩ := x
      simp only at x0 x1 x2 x3 hi
      generalize hnx : xo.length = nx at *
      have HNX := Lib.hid hnx
      generalize G j = F at *
      generalize hS2 : G (j + 1) = F2 at *
      have H2 := Lib.hid hS2
      obtain ⟨pv, cv, rfl⟩ := hown.out.shape
      generalize hnl : F.length = nl at *
      have HNL := Lib.hid hnl
      have HOW := Lib.hid hown.out
      have HBW := Lib.hid hbw
      have M2 := Lib.hid (M1.out.box #[.int .i64 xk, .int .i64 xa, .int .i64 xm, .slice px nx (cx + nx)] 38)
      have hi1 := hi _ M2.out.below
      have HB2 := Lib.hid ((Below.refl wr.heap.size wr).alloc (Nat.le_refl _) (.cells #[.int .i64 xk, .int .i64 xa, .int .i64 xm, .slice px nx (cx + nx)] 38))
      obtain ⟨t0, t1, -⟩ := box2 (M2.out.boxes 2 _ _ _ rfl)
      obtain ⟨c0, c1, c2, c3, c4, c5, c6, c7, c8⟩ := nine_cells (M2.out.boxes 1 _ _ _ rfl)
      clear HS HV HL HI hi hbw hown hS2 hnl hnx x0' x1' x2' x3' h00
      cases q with
      | true =>
        rw [if_pos rfl, List.append_nil] at hs
        have SE := Lib.hid hs
        clear hs
        go_wp2_with (go_at_call 67; (with_reducible refine hi1.mono ?_); rintro e u2 ⟨rfl, hb2⟩; have B3 := Lib.hid (HB2.out.trans (hb2.mono HB2.out.size)); clear hb2 hi1 t0 t1 c0 c1 c2 c3 c4 c5 c6 c7 c8)
        go_roundw
        case rel => exact ⟨j + 1, by omega, by go_num, by rw [H2.out, SE.out]; exact Lib.hid (HOW.out.on B3.out), HBW.out.trans (B3.out.mono HBW.out.size)⟩
        case measure => simp only [intOf]; omega
      | false =>
        rw [if_neg (by simp)] at hs
        have SE := Lib.hid hs
        clear hs
        go_wp2_with (first
          | (go_at_call 67; (with_reducible refine hi1.mono ?_); rintro e u2 ⟨rfl, hb2⟩; have M3 := Lib.hid (M2.out.on hb2); have B3 := Lib.hid (HB2.out.trans (hb2.mono HB2.out.size)); clear hb2 hi1 t0 t1 c0 c1 c2 c3 c4 c5 c6 c7 c8 x0 x1 x2 x3; obtain ⟨r0, r1, r2, r3, -⟩ := box4 (M3.out.boxes 0 _ _ _ rfl))
          | (at_builtin; refine push_pair rfl (.tmp 24) (.tmp 26) rfl W1 u2 (.slice pv nl cv) rfl F nl HNL.out (HOW.out.on B3.out) (HBW.out.trans (B3.out.mono HBW.out.size)) (Below.refl _ _) u2.heap.size (⟨xk, xa, xm, xo⟩, (px, cx)) nx HNX.out rfl (heap_alloc_new _ _) (by omega) ?_; intro p4 c4 w4 R4 B4; clear r0 r1 r2 r3))
        go_roundw
        case rel => exact ⟨j + 1, by omega, by go_num, by rw [H2.out, SE.out]; exact R4, B4⟩
        case measure => simp only [intOf]; omega
    · obtain rfl : j = m.length := by omega
      have hT := HV.out _ rfl
      rw [← hT] at hown
      obtain ⟨pv, cv, rfl, h1⟩ := hown.out.lay
      have H1 := Lib.hid h1
      have HBW := Lib.hid hbw
      clear HS HV HL HI hT h1 hown hbw
      go_wp2
      go_ret
      exact ⟨pv, cv, rfl, H1.out, M1.out.below⟩
end Go.Proofs.Ytcnnepmhdccipaa.Ledger
