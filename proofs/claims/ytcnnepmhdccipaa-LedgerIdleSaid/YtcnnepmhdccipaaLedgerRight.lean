/-
  annonalaw09's right: acts of one key, at times that are numbers.
-/
import Derived.Test.YtcnnepmhdccipaaLedgerPlaysWay
namespace Go.Proofs.Ytcnnepmhdccipaa.Ledger
open Go.RowKit
open _root_.Go.Proofs.Ytcnnepmhdccipaa.Frame (Rw Tb noRow cell_on)
open _root_.Go.Proofs.Ytcnnepmhdccipaa.Codec (own_below own_lower lt_of_heap frozen_of heap_set)
open _root_.Go.Proofs.Ytcnnepmhdccipaa.Sat (fit rfit_any fit_lo fit_hi)

def turnAc (key : Int) (a : Ac) : Ac := ⟨a.kind, key, fit a.now, a.node, a.n⟩
def cellsA (l : List Ac) : List Value := l.flatMap fun a => [.int .u8 a.kind, .int .i64 a.key, .int .i64 a.now, .int .i64 a.node, .int .i64 a.n]
theorem cellsA_snoc (l : List Ac) (a : Ac) : cellsA (l ++ [a]) = cellsA l ++ [.int .u8 a.kind, .int .i64 a.key, .int .i64 a.now, .int .i64 a.node, .int .i64 a.n] := by simp [cellsA]
theorem cellsA_one (l : List Ac) : ∀ u ∈ cellsA l, u.oneCell' = true := by
  intro u hu
  simp only [cellsA, List.mem_flatMap] at hu
  obtain ⟨s, _, hs⟩ := hu
  simp at hs
  rcases hs with rfl | rfl | rfl | rfl | rfl <;> rfl
theorem cellsA_at : ∀ (l : List Ac) (j : Nat), j < l.length → (cellsA l)[j * 5]? = some (.int .u8 (l.getD j noAc).kind) ∧ (cellsA l)[j * 5 + 1]? = some (.int .i64 (l.getD j noAc).key) ∧ (cellsA l)[j * 5 + 2]? = some (.int .i64 (l.getD j noAc).now) ∧ (cellsA l)[j * 5 + 3]? = some (.int .i64 (l.getD j noAc).node) ∧ (cellsA l)[j * 5 + 4]? = some (.int .i64 (l.getD j noAc).n)
  | [], j, hj => by simp at hj
  | x :: l, 0, _ => by simp [cellsA]
  | x :: l, j + 1, hj => by
    have := cellsA_at l j (by simpa using hj)
    have e : cellsA (x :: l) = [.int .u8 x.kind, .int .i64 x.key, .int .i64 x.now, .int .i64 x.node, .int .i64 x.n] ++ cellsA l := by simp [cellsA]
    rw [e]
    have s : ∀ n, ([Value.int .u8 x.kind, .int .i64 x.key, .int .i64 x.now, .int .i64 x.node, .int .i64 x.n] ++ cellsA l)[5 + n]? = (cellsA l)[n]? := fun n => by
      rw [List.getElem?_append_right (by simp)]; simp
    have g : (x :: l).getD (j + 1) noAc = l.getD j noAc := rfl
    rw [g]
    refine ⟨?_, ?_, ?_, ?_, ?_⟩
    · rw [show (j + 1) * 5 = 5 + j * 5 by omega, s]; exact this.1
    · rw [show (j + 1) * 5 + 1 = 5 + (j * 5 + 1) by omega, s]; exact this.2.1
    · rw [show (j + 1) * 5 + 2 = 5 + (j * 5 + 2) by omega, s]; exact this.2.2.1
    · rw [show (j + 1) * 5 + 3 = 5 + (j * 5 + 3) by omega, s]; exact this.2.2.2.1
    · rw [show (j + 1) * 5 + 4 = 5 + (j * 5 + 4) by omega, s]; exact this.2.2.2.2
/-- Acts that a call owns. -/
def OwnA (B : Nat) (w : World) (v : Value) (l : List Ac) : Prop := w.ownsRow B 32 5 v l.length (cellsA l)
/-- A slice of acts, in a block of its own. -/
def ActsOwn (w : World) (p : Option Addr) (l : List Ac) : Prop := l = [] ∨ ∃ b cur, p = some ⟨b, 0, none⟩ ∧ w.heap[b]? = some (.cells cur 32 (0, 0)) ∧ ∀ j, j < l.length → ActAt w b (0 + j * 5) (l.getD j noAc)
theorem OwnA.acts {B : Nat} {w : World} {v : Value} {l : List Ac} (h : OwnA B w v l) : ∃ p c, v = .slice p l.length c ∧ ActsOwn w p l := by
  have ho' := h
  rcases h.2 with ⟨rfl, h0⟩ | ⟨g, cap, cur, rfl, h1, h2, h3⟩
  · exact ⟨Option.none, 0, by rw [h0], .inl (List.eq_nil_of_length_eq_zero h0)⟩
  · refine ⟨_, cap, rfl, .inr ⟨g, cur, rfl, h2, fun j hj => ?_⟩⟩
    obtain ⟨c0, c1, c2, c3, c4⟩ := cellsA_at l j hj
    have hc := World.ownsRow.cells (g := g) ho' rfl
    have k0 := hc _ _ c0
    have k1 := hc _ _ c1
    have k2 := hc _ _ c2
    have k3 := hc _ _ c3
    have k4 := hc _ _ c4
    rw [Codec.add_at] at k0 k1 k2 k3 k4
    refine ⟨k0, ?_, ?_, ?_, ?_⟩
    · rw [← Nat.add_assoc] at k1; exact k1
    · rw [← Nat.add_assoc] at k2; exact k2
    · rw [← Nat.add_assoc] at k3; exact k3
    · rw [← Nat.add_assoc] at k4; exact k4
theorem infoA : (Try.prog.info? 32).map (fun i => (i.zero, i.size, i.bytes)) = some (some (.agg #[.int .u8 0, .int .i64 0, .int .i64 0, .int .i64 0, .int .i64 0]), 5, 40) := by kernel_rfl

theorem push_act {u : World} {ops : Array Oper} {rest : List Oper} {o : Oper} {a : Act} {Q : Exit → Act → World → Prop} (hgd : o.guard = none) (s y : Operand)
    (ho : o.op = .call { callee := .builtin .append, args := #[s, y], argTypes := #[28, 28] })
    (w0 wr : World) (v : Value) (hs : a.eval s = v) (l : List Ac) (n : Nat) (hn : l.length = n) (hown : OwnA w0.heap.size wr v l) (hbw : Below w0.heap.size w0 wr) (hu : Below wr.heap.size wr u)
    (g : Nat) (x : Ac) (hy : a.eval y = .slice (some ⟨g, 0, Option.none⟩) 1 1)
    (hg : (u.alloc (.cells #[.int .u8 x.kind, .int .i64 x.key, .int .i64 x.now, .int .i64 x.node, .int .i64 x.n] 32)).heap[g]? = some (.cells #[.int .u8 x.kind, .int .i64 x.key, .int .i64 x.now, .int .i64 x.node, .int .i64 x.n] 32 (0, 0))) (hlen : n ≤ 100000)
    (h : ∀ p c w', Hid (OwnA w0.heap.size w' (.slice p (n + 1) c) (l ++ [x])) → Below w0.heap.size w0 w' → wpList Try.prog ops Q rest (a.put o.dst (.slice p (n + 1) c)) w') : wpList Try.prog ops Q (o :: rest) a (u.alloc (.cells #[.int .u8 x.kind, .int .i64 x.key, .int .i64 x.now, .int .i64 x.node, .int .i64 x.n] 32)) := by
  subst hn
  obtain ⟨i0, hi, hz0, hz1, hz2⟩ := info_parts infoA
  have hua : Below wr.heap.size wr (u.alloc (.cells #[.int .u8 x.kind, .int .i64 x.key, .int .i64 x.now, .int .i64 x.node, .int .i64 x.n] 32)) := hu.alloc hu.size _
  refine wpList_append_own _ hgd s y 28 ho w0.heap.size 32 i0 (.agg #[.int .u8 0, .int .i64 0, .int .i64 0, .int .i64 0, .int .i64 0]) 5 40 Try.underlying28 hi hz0 hz1 hz2 rfl (by decide) v l.length (cellsA l) hs (own_below hown hua) ⟨g, 0, Option.none⟩ 1 1 [.int .u8 x.kind, .int .i64 x.key, .int .i64 x.now, .int .i64 x.node, .int .i64 x.n] hy rfl (World.news_of_block hg) ?_ (by unfold maxLen; omega) (by omega) (Nat.le_trans hbw.size hua.size) ?_
  · intro z hz
    simp at hz
    rcases hz with rfl | rfl | rfl | rfl | rfl <;> rfl
  · intro v' w' ho2 hg2 _
    have hb2 := (hbw.trans (hua.mono hbw.size)).grown hg2 (Nat.le_trans hbw.size hua.size) (fun k hk => (World.ownsRow.lt hown k hk).1)
    have R : OwnA w0.heap.size w' v' (l ++ [x]) := by
      unfold OwnA
      rw [cellsA_snoc, List.length_append]
      exact ho2
    obtain ⟨p, c, rfl⟩ : ∃ p c, v' = .slice p (l.length + 1) c := by
      rcases ho2.2 with ⟨_, h0⟩ | ⟨g, cap, cur, rfl, _⟩
      · omega
      · exact ⟨_, cap, rfl⟩
    exact h p c w' R hb2

set_option maxRecDepth 100000 in
set_option maxHeartbeats 4000000 in
theorem right_any (l : List Ac) (p : Option Addr) (c : Nat) (key : Int) (w : World) (h : ActsAt w p l) (hl : l.length ≤ 1000) :
    Calls Try.prog 21 #[.slice p l.length c, .int .i64 key] w fun e w' => ∃ p' c', e = .returned (.slice p' l.length c') ∧ ActsOwn w' p' (l.map (turnAc key)) ∧ Below w.heap.size w w' := by
  have HA := Lib.hid h
  clear h
  go_enter Try.func21, Try.ntmps21
  go_wp2
  go_loopw [5, 6, 7] (fun v i _ wr => ∃ j : Nat, j ≤ l.length ∧ i = .int .i64 (j : Int) ∧ Hid (OwnA w.heap.size wr v ((l.take j).map (turnAc key))) ∧ Below w.heap.size w wr) (fun _ i _ _ => l.length - (intOf i).toNat)
  case atStart => exact ⟨0, by omega, rfl, World.ownsRow_nil _ _ _ _, Below.refl _ _⟩
  case round =>
    obtain ⟨j, hj, rfl, hown, hbw⟩ := hrel
    have HBW := Lib.hid hbw
    by_cases hlt : j < l.length
    · obtain ⟨b, o, rfl, hac⟩ := acts_some HA.out hlt
      obtain ⟨x0, x1, x2, x3, x4⟩ := hac.below hbw
      have hlt' : (j : Int) < (l.length : Int) := by omega
      have HS := Lib.hid (show (l.take (j + 1)).map (turnAc key) = (l.take j).map (turnAc key) ++ [turnAc key (l.getD j noAc)] by
        rw [List.take_succ_eq_append_getElem hlt, List.map_append]; simp [List.getD, hlt])
      have HN := Lib.hid (show ((l.take j).map (turnAc key)).length = j by simp; omega)
      generalize hG : (l.take j).map (turnAc key) = G at *
      generalize l.getD j noAc = a at *
      obtain ⟨kind, key0, now, node, nn⟩ := a
      simp only [turnAc] at HS
      simp only at x0 x1 x2 x3 x4
      have hfit := rfit_any now
      generalize fit now = fn at *
      clear hac hG
      obtain ⟨pv, cv, hv, -⟩ := OwnA.acts hown.out
      rw [HN.out] at hv
      subst hv
      have HOW := Lib.hid hown.out
      clear hown
      go_wp2_with (first
        | (go_at_call 49; (with_reducible refine (hfit _).mono ?_); rintro e u1 ⟨rfl, rfl⟩)
        | (at_builtin; refine push_act rfl (.tmp 24) (.tmp 26) rfl w wr (.slice pv j cv) rfl G j HN.out HOW.out HBW.out ((Below.refl _ _).alloc (Nat.le_refl _) _) (wr.heap.size + 1) ⟨kind, key, fn, node, nn⟩ rfl (by have h := heap_alloc_new (wr.alloc (.cells #[.int .u8 kind, .int .i64 key, .int .i64 fn, .int .i64 node, .int .i64 nn] 32)) (.cells #[.int .u8 kind, .int .i64 key, .int .i64 fn, .int .i64 node, .int .i64 nn] 32); rwa [size_alloc] at h) (by omega) ?_; intro p4 c4 w4 R4 B4))
      go_roundw
      case rel => exact ⟨j + 1, by omega, by go_num, by rw [HS.out]; exact R4, B4⟩
      case measure => simp [intOf]; omega
    · obtain rfl : j = l.length := by omega
      rw [List.take_length] at hown
      obtain ⟨p', c', rfl, hq⟩ := OwnA.acts hown.out
      rw [List.length_map] at *
      have HQ := Lib.hid hq
      clear hq hown
      go_wp2
      go_ret
      exact ⟨p', c', rfl, HQ.out, HBW.out⟩
end Go.Proofs.Ytcnnepmhdccipaa.Ledger
