/-
  The document's SameToken and Same: each returns what the plain functions of FramePlain give, of any two; of what lay when the call began nothing has turned.
-/
import Derived.Test.YtkdjhphakopfeaaFrameSameTable
namespace Go.Proofs.Ytkdjhphakopfeaa.Frame
open Go.RowKit Codec

/-- Two boxes, one behind the other: their cells. -/
theorem two_boxes (w : World) (cs ds : Array Value) (T : TypeId) : Below w.heap.size w ((w.alloc (.cells cs T)).alloc (.cells ds T)) ∧ (∀ i, ((w.alloc (.cells cs T)).alloc (.cells ds T)).cell? ⟨w.heap.size, i, none⟩ = cs[i]?) ∧ ∀ i, ((w.alloc (.cells cs T)).alloc (.cells ds T)).cell? ⟨w.heap.size + 1, i, none⟩ = ds[i]? := by
  refine ⟨((Below.refl _ _).alloc (Nat.le_refl _) _).alloc (by simp) _, fun i => cell_of_row _ _ i _ T (0, 0) ((Below.heap_alloc _ _ _ (by simp)).trans (heap_alloc_new w _)), fun i => ?_⟩
  have := heap_alloc_new (w.alloc (.cells cs T)) (.cells ds T)
  rw [show (w.alloc (.cells cs T)).heap.size = w.heap.size + 1 by simp] at this
  exact cell_of_row _ _ i _ T (0, 0) this

set_option maxRecDepth 100000 in
set_option maxHeartbeats 1000000 in
theorem sametoken_core (g h s g' h' s' : Int) (sp p sp' p' : Option Addr) (sn sc n c sn' sc' n' c' : Nat) (w : World) (b1 b2 R : Bool)
    (c1 : ∀ u, Below w.heap.size w u → Calls Try.prog 42 #[.slice sp sn sc, .slice sp' sn' sc'] u (Asked u b1))
    (c2 : ∀ u, Below w.heap.size w u → Calls Try.prog 43 #[.agg #[.int .i64 s, .slice p n c], .agg #[.int .i64 s', .slice p' n' c']] u (Asked u b2))
    (hR : (g == g' && h == h' && b1 && b2) = R) :
    Calls Try.prog 29 #[.agg #[.int .i64 g, .int .i64 h, .slice sp sn sc, .int .i64 s, .slice p n c], .agg #[.int .i64 g', .int .i64 h', .slice sp' sn' sc', .int .i64 s', .slice p' n' c']] w (Asked w R) := by
  obtain ⟨b0, ka, kb⟩ := two_boxes w #[.int .i64 g, .int .i64 h, .slice sp sn sc, .int .i64 s, .slice p n c] #[.int .i64 g', .int .i64 h', .slice sp' sn' sc', .int .i64 s', .slice p' n' c'] 39
  have HA := Lib.hid (show ∀ u, Below ((w.alloc (.cells #[.int .i64 g, .int .i64 h, .slice sp sn sc, .int .i64 s, .slice p n c] 39)).alloc (.cells #[.int .i64 g', .int .i64 h', .slice sp' sn' sc', .int .i64 s', .slice p' n' c'] 39)).heap.size ((w.alloc (.cells #[.int .i64 g, .int .i64 h, .slice sp sn sc, .int .i64 s, .slice p n c] 39)).alloc (.cells #[.int .i64 g', .int .i64 h', .slice sp' sn' sc', .int .i64 s', .slice p' n' c'] 39)) u →
      u.cell? ⟨w.heap.size, 0, none⟩ = some (.int .i64 g) ∧ u.cell? ⟨w.heap.size, 1, none⟩ = some (.int .i64 h) ∧ u.cell? ⟨w.heap.size, 3, none⟩ = some (.int .i64 s) ∧ u.cell? ⟨w.heap.size, 4, none⟩ = some (.slice p n c) ∧
      u.cell? ⟨w.heap.size + 1, 0, none⟩ = some (.int .i64 g') ∧ u.cell? ⟨w.heap.size + 1, 1, none⟩ = some (.int .i64 h') ∧ u.cell? ⟨w.heap.size + 1, 3, none⟩ = some (.int .i64 s') ∧ u.cell? ⟨w.heap.size + 1, 4, none⟩ = some (.slice p' n' c') from fun u hu =>
    ⟨cell_on (ka 0) hu, cell_on (ka 1) hu, cell_on (ka 3) hu, cell_on (ka 4) hu, cell_on (kb 0) hu, cell_on (kb 1) hu, cell_on (kb 3) hu, cell_on (kb 4) hu⟩)
  clear ka kb
  rcases and4 hR with ⟨d1, rfl⟩ | ⟨d0, d1, rfl⟩ | ⟨d0, d1, rfl, rfl⟩ | ⟨d0, d1, rfl, rfl, rfl⟩ | ⟨d0, d1, rfl, rfl, rfl⟩
  all_goals
    clear hR
    go_enter Try.func29, Try.ntmps29
    go_wp2_with (first
      | (go_at_call 42; (with_reducible refine (c1 _ b0).mono ?_); rintro e u1 ⟨rfl, hb1⟩; clear c1; have H1 := Lib.hid hb1; have hbw := b0.trans (hb1.mono b0.size); clear hb1; obtain ⟨x0, x1, x3, x4, y0, y1, y3, y4⟩ := HA.out u1 H1.out)
      | (go_at_call 43; (with_reducible refine (c2 _ hbw).mono ?_); rintro e u2 ⟨rfl, hb2⟩; clear c2 x0 x1 x3 x4 y0 y1 y3 y4; have hbw2 := hbw.trans (hb2.mono hbw.size); obtain ⟨x0, x1, x3, x4, y0, y1, y3, y4⟩ := HA.out u2 (H1.out.trans (hb2.mono H1.out.size)); clear hb2))
    go_ret
    exact ⟨rfl, hbw2⟩

/-- SameToken, of any two. -/
theorem sametoken_any (a b : Tk) (sp p sp' p' : Option Addr) (sc c sc' c' : Nat) (w : World) (hm : (a.stamps.length : Int) ≤ 9223372036854775807) (hn : (a.table.rows.length : Int) ≤ 9223372036854775807) (ha : Ints w sp a.stamps) (hb : Ints w sp' b.stamps) (ra : RowsAt w p a.table.rows) (rb : RowsAt w p' b.table.rows) (hs : Small a.table.rows) :
    Calls Try.prog 29 #[.agg #[.int .i64 a.gen, .int .i64 a.hop, .slice sp a.stamps.length sc, .int .i64 a.table.start, .slice p a.table.rows.length c], .agg #[.int .i64 b.gen, .int .i64 b.hop, .slice sp' b.stamps.length sc', .int .i64 b.table.start, .slice p' b.table.rows.length c']] w (Asked w (sameToken a b)) :=
  sametoken_core _ _ _ _ _ _ _ _ _ _ _ _ _ _ _ _ _ _ w _ _ _ (fun u hu => ints_any a.stamps b.stamps sp sp' sc sc' u hm (ha.below hu) (hb.below hu)) (fun u hu => sametable_any a.table b.table p p' c c' u hn (ra.below hu) (rb.below hu) hs) rfl

theorem and7 {a b c d e f g R : Bool} (h : (a && b && c && d && e && f && g) = R) : (a = false ∧ R = false) ∨ (a = true ∧ b = false ∧ R = false) ∨ (a = true ∧ b = true ∧ c = false ∧ R = false) ∨ (a = true ∧ b = true ∧ c = true ∧ d = false ∧ R = false) ∨ (a = true ∧ b = true ∧ c = true ∧ d = true ∧ e = false ∧ R = false) ∨
    (a = true ∧ b = true ∧ c = true ∧ d = true ∧ e = true ∧ f = false ∧ R = false) ∨ (a = true ∧ b = true ∧ c = true ∧ d = true ∧ e = true ∧ f = true ∧ g = R) := by
  subst h
  cases a <;> cases b <;> cases c <;> cases d <;> cases e <;> cases f <;> simp

set_option maxRecDepth 100000 in
set_option maxHeartbeats 2000000 in
theorem same_core (k fr to fg fh bi g h s k' fr' to' fg' fh' bi' g' h' s' : Int) (sp p sp' p' : Option Addr) (sn sc n c sn' sc' n' c' : Nat) (w : World) (b1 R : Bool)
    (c1 : ∀ u, Below w.heap.size w u → Calls Try.prog 29 #[.agg #[.int .i64 g, .int .i64 h, .slice sp sn sc, .int .i64 s, .slice p n c], .agg #[.int .i64 g', .int .i64 h', .slice sp' sn' sc', .int .i64 s', .slice p' n' c']] u (Asked u b1))
    (hR : (k == k' && fr == fr' && to == to' && fg == fg' && fh == fh' && bi == bi' && b1) = R) :
    Calls Try.prog 15 #[.agg #[.int .i64 k, .int .i64 fr, .int .i64 to, .int .i64 fg, .int .i64 fh, .int .u64 bi, .int .i64 g, .int .i64 h, .slice sp sn sc, .int .i64 s, .slice p n c], .agg #[.int .i64 k', .int .i64 fr', .int .i64 to', .int .i64 fg', .int .i64 fh', .int .u64 bi', .int .i64 g', .int .i64 h', .slice sp' sn' sc', .int .i64 s', .slice p' n' c']] w (Asked w R) := by
  obtain ⟨b0, ka, kb⟩ := two_boxes w #[.int .i64 k, .int .i64 fr, .int .i64 to, .int .i64 fg, .int .i64 fh, .int .u64 bi, .int .i64 g, .int .i64 h, .slice sp sn sc, .int .i64 s, .slice p n c] #[.int .i64 k', .int .i64 fr', .int .i64 to', .int .i64 fg', .int .i64 fh', .int .u64 bi', .int .i64 g', .int .i64 h', .slice sp' sn' sc', .int .i64 s', .slice p' n' c'] 41
  have HA := Lib.hid (show ∀ u, Below ((w.alloc (.cells #[.int .i64 k, .int .i64 fr, .int .i64 to, .int .i64 fg, .int .i64 fh, .int .u64 bi, .int .i64 g, .int .i64 h, .slice sp sn sc, .int .i64 s, .slice p n c] 41)).alloc (.cells #[.int .i64 k', .int .i64 fr', .int .i64 to', .int .i64 fg', .int .i64 fh', .int .u64 bi', .int .i64 g', .int .i64 h', .slice sp' sn' sc', .int .i64 s', .slice p' n' c'] 41)).heap.size ((w.alloc (.cells #[.int .i64 k, .int .i64 fr, .int .i64 to, .int .i64 fg, .int .i64 fh, .int .u64 bi, .int .i64 g, .int .i64 h, .slice sp sn sc, .int .i64 s, .slice p n c] 41)).alloc (.cells #[.int .i64 k', .int .i64 fr', .int .i64 to', .int .i64 fg', .int .i64 fh', .int .u64 bi', .int .i64 g', .int .i64 h', .slice sp' sn' sc', .int .i64 s', .slice p' n' c'] 41)) u →
      u.cell? ⟨w.heap.size, 0, none⟩ = some (.int .i64 k) ∧ u.cell? ⟨w.heap.size, 1, none⟩ = some (.int .i64 fr) ∧ u.cell? ⟨w.heap.size, 2, none⟩ = some (.int .i64 to) ∧ u.cell? ⟨w.heap.size, 3, none⟩ = some (.int .i64 fg) ∧ u.cell? ⟨w.heap.size, 4, none⟩ = some (.int .i64 fh) ∧ u.cell? ⟨w.heap.size, 5, none⟩ = some (.int .u64 bi) ∧
      u.cell? ⟨w.heap.size + 1, 0, none⟩ = some (.int .i64 k') ∧ u.cell? ⟨w.heap.size + 1, 1, none⟩ = some (.int .i64 fr') ∧ u.cell? ⟨w.heap.size + 1, 2, none⟩ = some (.int .i64 to') ∧ u.cell? ⟨w.heap.size + 1, 3, none⟩ = some (.int .i64 fg') ∧ u.cell? ⟨w.heap.size + 1, 4, none⟩ = some (.int .i64 fh') ∧ u.cell? ⟨w.heap.size + 1, 5, none⟩ = some (.int .u64 bi') from fun u hu =>
    ⟨cell_on (ka 0) hu, cell_on (ka 1) hu, cell_on (ka 2) hu, cell_on (ka 3) hu, cell_on (ka 4) hu, cell_on (ka 5) hu, cell_on (kb 0) hu, cell_on (kb 1) hu, cell_on (kb 2) hu, cell_on (kb 3) hu, cell_on (kb 4) hu, cell_on (kb 5) hu⟩)
  clear ka kb
  rcases and7 hR with ⟨d0, rfl⟩ | ⟨d0, d1, rfl⟩ | ⟨d0, d1, d2, rfl⟩ | ⟨d0, d1, d2, d3, rfl⟩ | ⟨d0, d1, d2, d3, d4, rfl⟩ | ⟨d0, d1, d2, d3, d4, d5, rfl⟩ | ⟨d0, d1, d2, d3, d4, d5, rfl⟩
  all_goals
    clear hR
    go_enter Try.func15, Try.ntmps15
    go_wp2_with (go_at_call 29; (with_reducible refine (c1 _ b0).mono ?_); rintro e u1 ⟨rfl, hb1⟩; clear c1; have hbw := b0.trans (hb1.mono b0.size); obtain ⟨x0, x1, x2, x3, x4, x5, y0, y1, y2, y3, y4, y5⟩ := HA.out u1 hb1; clear hb1)
    go_ret
    exact ⟨rfl, hbw⟩

/-- Same, of any two frames. -/
theorem same_any (a b : Fr) (sp p sp' p' : Option Addr) (sc c sc' c' : Nat) (w : World) (ha : Lying w a sp p) (hb : Lying w b sp' p') :
    Calls Try.prog 15 #[frameVal a sp p sc c, frameVal b sp' p' sc' c'] w (Asked w (sameFrame a b)) :=
  same_core _ _ _ _ _ _ _ _ _ _ _ _ _ _ _ _ _ _ _ _ _ _ _ _ _ _ _ _ _ _ w _ _ (fun u hu => sametoken_any a.token b.token sp p sp' p' sc c sc' c' u ha.few ha.many (ha.stamps.below hu) (hb.stamps.below hu) (ha.rows.below hu) (hb.rows.below hu) ha.small) rfl
end Go.Proofs.Ytkdjhphakopfeaa.Frame
