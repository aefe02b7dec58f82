/-
  The program's Ack and Drop (package relay), of any frame whose lists lie, any place.
-/
import Derived.Test.YtkdjhphakopfeaaRlAns
namespace Go.Proofs.Ytkdjhphakopfeaa.Relay
open Go.RowKit
open _root_.Go.Proofs.Ytkdjhphakopfeaa.Codec (lt_of_heap frozen_of heap_set grown_set below_new Ints)
open _root_.Go.Proofs.Ytkdjhphakopfeaa.Frame (Fr Tk Tb Rw noRow frameOk Lying frameVal fitsTk OwnS RowsS Kp Asked undrew)
open _root_.Go.Proofs.Ytkdjhphakopfeaa.Kit (Kept Off cell_on)
section
variable {F : Nat → Prop} {w : World} {B q : Nat} {r : Rl}
set_option maxRecDepth 100000 in
set_option maxHeartbeats 8000000 in
theorem pack_any (h : Pr F B w q r) (hB : B ≤ w.heap.size) (f : Fr) (ps p : Option Addr) (cs c : Nat) (hk : (Lit.int .i64 f.kind).wf = true) (hl : Lying w f ps p) :
    Calls Try.prog 12 #[.pointer (some ⟨q, 0, none⟩), frameVal f ps p cs c] w fun e w' => e = .returned (.bool (acks r f)) ∧ Moved Pr F B w q (ack r f) w' := by
  have HB := Lib.hid (lay w (.cells (cells11 f ps p cs c) 41))
  have HS := Lib.hid (fun u (hu : Below w.heap.size w u) => Moved.same h hB hu)
  have HN := Lib.hid (fun u (hu : Below w.heap.size w u) => Moved.empty h hB hu)
  have HE := Lib.hid (fun u (hu : Below w.heap.size w u) => pempty_any (h.below hu))
  have HC := Lib.hid (fun u (hu : Below w.heap.size w u) => (h.below hu).cell)
  cases hr : r.held with
  | none =>
    have e1 : acks r f = false := by simp [acks, hr]
    have e2 : ack r f = r := by simp [ack, e1]
    have e3 : isHeld r = false := by simp [isHeld, hr]
    rw [e1, e2]
    simp only [e3, Bool.not_false] at HE
    clear e1 e2 e3 hr h hl hk
    simp only [frameVal, cells11] at *
    go_enter Try.func12, Try.ntmps12
    go_wp2
    generalize w.alloc _ = W at *
    have hq := fun i => HE.out (W.drewN i) (HB.out.trans ⟨rfl, rfl, rfl, Nat.le_refl _, fun _ _ => rfl⟩)
    go_quiet ((go_at_call 21; exact Calls.quiet_of_same (hq _)))
    go_wp2
    go_ret
    exact ⟨rfl, HS.out _ (HB.out.trans ⟨rfl, rfl, rfl, Nat.le_refl _, fun _ _ => rfl⟩)⟩
  | some x =>
    have e3 : isHeld r = true := by simp [isHeld, hr]
    simp only [e3, Bool.not_true] at HE
    obtain ⟨g, qs, qp, ds, d, k1, k2, k3⟩ := h.first hr
    have gl := lt_of_heap k2
    have HW := Lib.hid (fun u (hu : Below w.heap.size w u) => panswers_any f x ps p qs qp cs c ds d u hk ⟨hl.stamps.below hu, hl.rows.below hu, hl.small, hl.few, hl.many⟩)
    have hcase : ((frameOk f && f.kind == 1 && answers x f) = true ∧ acks r f = true ∧ ack r f = ⟨none, r.sent⟩) ∨ ((frameOk f && f.kind == 1 && answers x f) = false ∧ acks r f = false ∧ ack r f = r) := by
      cases hx : (frameOk f && f.kind == 1 && answers x f)
      · have e1 : acks r f = false := by simp only [acks, hr]; exact hx
        exact .inr ⟨rfl, e1, by simp [ack, e1]⟩
      · have e1 : acks r f = true := by simp only [acks, hr]; exact hx
        exact .inl ⟨rfl, e1, by simp [ack, e1]⟩
    generalize (frameOk f && f.kind == 1 && answers x f) = R at *
    generalize acks r f = R1 at *
    generalize ack r f = R2 at *
    clear hk hl k3 e3 hr h
    obtain ⟨y0, y1, y2, y3, y4, y5, y6, y7, y8, y9, y10⟩ := box11 (heap_alloc_new w (.cells (cells11 f ps p cs c) 41))
    obtain ⟨z0, z1, z2, z3, z4, z5, z6, z7, z8, z9, z10⟩ := box11 ((HB.out.block g gl).trans k2)
    have kq := cell_on k1 HB.out
    clear k1 k2 gl
    obtain ⟨kd, sr, dst, ge, ho, bi, tk⟩ := f
    obtain ⟨kd', sr', dst', ge', ho', bi', tk'⟩ := x
    simp only [frameVal, cells11] at *
    have hs : (fun u : World => u.cell? ⟨w.heap.size, 0, none⟩ = some (.int .i64 kd) ∧ u.cell? ⟨w.heap.size, 1, none⟩ = some (.int .i64 sr) ∧ u.cell? ⟨w.heap.size, 2, none⟩ = some (.int .i64 dst) ∧ u.cell? ⟨w.heap.size, 3, none⟩ = some (.int .i64 ge) ∧ u.cell? ⟨w.heap.size, 4, none⟩ = some (.int .i64 ho) ∧ u.cell? ⟨w.heap.size, 5, none⟩ = some (.int .u64 bi) ∧ u.cell? ⟨w.heap.size, 6, none⟩ = some (.int .i64 tk.gen) ∧ u.cell? ⟨w.heap.size, 7, none⟩ = some (.int .i64 tk.hop) ∧ u.cell? ⟨w.heap.size, 8, none⟩ = some (.slice ps tk.stamps.length cs) ∧ u.cell? ⟨w.heap.size, 9, none⟩ = some (.int .i64 tk.table.start) ∧ u.cell? ⟨w.heap.size, 10, none⟩ = some (.slice p tk.table.rows.length c) ∧ u.cell? ⟨q, 0, none⟩ = some (.pointer (some ⟨g, 0, none⟩)) ∧ u.cell? ⟨g, 0, none⟩ = some (.int .i64 kd') ∧ u.cell? ⟨g, 1, none⟩ = some (.int .i64 sr') ∧ u.cell? ⟨g, 2, none⟩ = some (.int .i64 dst') ∧ u.cell? ⟨g, 3, none⟩ = some (.int .i64 ge') ∧ u.cell? ⟨g, 4, none⟩ = some (.int .i64 ho') ∧ u.cell? ⟨g, 5, none⟩ = some (.int .u64 bi') ∧ u.cell? ⟨g, 6, none⟩ = some (.int .i64 tk'.gen) ∧ u.cell? ⟨g, 7, none⟩ = some (.int .i64 tk'.hop) ∧ u.cell? ⟨g, 8, none⟩ = some (.slice qs tk'.stamps.length ds) ∧ u.cell? ⟨g, 9, none⟩ = some (.int .i64 tk'.table.start) ∧ u.cell? ⟨g, 10, none⟩ = some (.slice qp tk'.table.rows.length d)) (w.alloc (.cells #[.int .i64 kd, .int .i64 sr, .int .i64 dst, .int .i64 ge, .int .i64 ho, .int .u64 bi, .int .i64 tk.gen, .int .i64 tk.hop, .slice ps tk.stamps.length cs, .int .i64 tk.table.start, .slice p tk.table.rows.length c] 41)) := ⟨y0, y1, y2, y3, y4, y5, y6, y7, y8, y9, y10, kq, z0, z1, z2, z3, z4, z5, z6, z7, z8, z9, z10⟩
    have KA := Lib.hid (show ∀ (u u' : World) (_ : Below u.heap.size u u') (_ : u.cell? ⟨w.heap.size, 0, none⟩ = some (.int .i64 kd) ∧ u.cell? ⟨w.heap.size, 1, none⟩ = some (.int .i64 sr) ∧ u.cell? ⟨w.heap.size, 2, none⟩ = some (.int .i64 dst) ∧ u.cell? ⟨w.heap.size, 3, none⟩ = some (.int .i64 ge) ∧ u.cell? ⟨w.heap.size, 4, none⟩ = some (.int .i64 ho) ∧ u.cell? ⟨w.heap.size, 5, none⟩ = some (.int .u64 bi) ∧ u.cell? ⟨w.heap.size, 6, none⟩ = some (.int .i64 tk.gen) ∧ u.cell? ⟨w.heap.size, 7, none⟩ = some (.int .i64 tk.hop) ∧ u.cell? ⟨w.heap.size, 8, none⟩ = some (.slice ps tk.stamps.length cs) ∧ u.cell? ⟨w.heap.size, 9, none⟩ = some (.int .i64 tk.table.start) ∧ u.cell? ⟨w.heap.size, 10, none⟩ = some (.slice p tk.table.rows.length c) ∧ u.cell? ⟨q, 0, none⟩ = some (.pointer (some ⟨g, 0, none⟩)) ∧ u.cell? ⟨g, 0, none⟩ = some (.int .i64 kd') ∧ u.cell? ⟨g, 1, none⟩ = some (.int .i64 sr') ∧ u.cell? ⟨g, 2, none⟩ = some (.int .i64 dst') ∧ u.cell? ⟨g, 3, none⟩ = some (.int .i64 ge') ∧ u.cell? ⟨g, 4, none⟩ = some (.int .i64 ho') ∧ u.cell? ⟨g, 5, none⟩ = some (.int .u64 bi') ∧ u.cell? ⟨g, 6, none⟩ = some (.int .i64 tk'.gen) ∧ u.cell? ⟨g, 7, none⟩ = some (.int .i64 tk'.hop) ∧ u.cell? ⟨g, 8, none⟩ = some (.slice qs tk'.stamps.length ds) ∧ u.cell? ⟨g, 9, none⟩ = some (.int .i64 tk'.table.start) ∧ u.cell? ⟨g, 10, none⟩ = some (.slice qp tk'.table.rows.length d)), u'.cell? ⟨w.heap.size, 0, none⟩ = some (.int .i64 kd) ∧ u'.cell? ⟨w.heap.size, 1, none⟩ = some (.int .i64 sr) ∧ u'.cell? ⟨w.heap.size, 2, none⟩ = some (.int .i64 dst) ∧ u'.cell? ⟨w.heap.size, 3, none⟩ = some (.int .i64 ge) ∧ u'.cell? ⟨w.heap.size, 4, none⟩ = some (.int .i64 ho) ∧ u'.cell? ⟨w.heap.size, 5, none⟩ = some (.int .u64 bi) ∧ u'.cell? ⟨w.heap.size, 6, none⟩ = some (.int .i64 tk.gen) ∧ u'.cell? ⟨w.heap.size, 7, none⟩ = some (.int .i64 tk.hop) ∧ u'.cell? ⟨w.heap.size, 8, none⟩ = some (.slice ps tk.stamps.length cs) ∧ u'.cell? ⟨w.heap.size, 9, none⟩ = some (.int .i64 tk.table.start) ∧ u'.cell? ⟨w.heap.size, 10, none⟩ = some (.slice p tk.table.rows.length c) ∧ u'.cell? ⟨q, 0, none⟩ = some (.pointer (some ⟨g, 0, none⟩)) ∧ u'.cell? ⟨g, 0, none⟩ = some (.int .i64 kd') ∧ u'.cell? ⟨g, 1, none⟩ = some (.int .i64 sr') ∧ u'.cell? ⟨g, 2, none⟩ = some (.int .i64 dst') ∧ u'.cell? ⟨g, 3, none⟩ = some (.int .i64 ge') ∧ u'.cell? ⟨g, 4, none⟩ = some (.int .i64 ho') ∧ u'.cell? ⟨g, 5, none⟩ = some (.int .u64 bi') ∧ u'.cell? ⟨g, 6, none⟩ = some (.int .i64 tk'.gen) ∧ u'.cell? ⟨g, 7, none⟩ = some (.int .i64 tk'.hop) ∧ u'.cell? ⟨g, 8, none⟩ = some (.slice qs tk'.stamps.length ds) ∧ u'.cell? ⟨g, 9, none⟩ = some (.int .i64 tk'.table.start) ∧ u'.cell? ⟨g, 10, none⟩ = some (.slice qp tk'.table.rows.length d) from fun u u' hb ⟨x0, x1, x2, x3, x4, x5, x6, x7, x8, x9, x10, xq, v0, v1, v2, v3, v4, v5, v6, v7, v8, v9, v10⟩ => ⟨cell_on x0 hb, cell_on x1 hb, cell_on x2 hb, cell_on x3 hb, cell_on x4 hb, cell_on x5 hb, cell_on x6 hb, cell_on x7 hb, cell_on x8 hb, cell_on x9 hb, cell_on x10 hb, cell_on xq hb, cell_on v0 hb, cell_on v1 hb, cell_on v2 hb, cell_on v3 hb, cell_on v4 hb, cell_on v5 hb, cell_on v6 hb, cell_on v7 hb, cell_on v8 hb, cell_on v9 hb, cell_on v10 hb⟩)
    clear y0 y1 y2 y3 y4 y5 y6 y7 y8 y9 y10 z0 z1 z2 z3 z4 z5 z6 z7 z8 z9 z10 kq
    rcases hcase with ⟨rfl, rfl, rfl⟩ | ⟨rfl, rfl, rfl⟩
    · skip
      go_enter Try.func12, Try.ntmps12
      go_wp2
      generalize w.alloc _ = W at *
      refine wp_region_held_drew (S := fun u => u.cell? ⟨w.heap.size, 0, none⟩ = some (.int .i64 kd) ∧ u.cell? ⟨w.heap.size, 1, none⟩ = some (.int .i64 sr) ∧ u.cell? ⟨w.heap.size, 2, none⟩ = some (.int .i64 dst) ∧ u.cell? ⟨w.heap.size, 3, none⟩ = some (.int .i64 ge) ∧ u.cell? ⟨w.heap.size, 4, none⟩ = some (.int .i64 ho) ∧ u.cell? ⟨w.heap.size, 5, none⟩ = some (.int .u64 bi) ∧ u.cell? ⟨w.heap.size, 6, none⟩ = some (.int .i64 tk.gen) ∧ u.cell? ⟨w.heap.size, 7, none⟩ = some (.int .i64 tk.hop) ∧ u.cell? ⟨w.heap.size, 8, none⟩ = some (.slice ps tk.stamps.length cs) ∧ u.cell? ⟨w.heap.size, 9, none⟩ = some (.int .i64 tk.table.start) ∧ u.cell? ⟨w.heap.size, 10, none⟩ = some (.slice p tk.table.rows.length c) ∧ u.cell? ⟨q, 0, none⟩ = some (.pointer (some ⟨g, 0, none⟩)) ∧ u.cell? ⟨g, 0, none⟩ = some (.int .i64 kd') ∧ u.cell? ⟨g, 1, none⟩ = some (.int .i64 sr') ∧ u.cell? ⟨g, 2, none⟩ = some (.int .i64 dst') ∧ u.cell? ⟨g, 3, none⟩ = some (.int .i64 ge') ∧ u.cell? ⟨g, 4, none⟩ = some (.int .i64 ho') ∧ u.cell? ⟨g, 5, none⟩ = some (.int .u64 bi') ∧ u.cell? ⟨g, 6, none⟩ = some (.int .i64 tk'.gen) ∧ u.cell? ⟨g, 7, none⟩ = some (.int .i64 tk'.hop) ∧ u.cell? ⟨g, 8, none⟩ = some (.slice qs tk'.stamps.length ds) ∧ u.cell? ⟨g, 9, none⟩ = some (.int .i64 tk'.table.start) ∧ u.cell? ⟨g, 10, none⟩ = some (.slice qp tk'.table.rows.length d)) (by kernel_rfl) hs (fun hHeld => ?_)
      refine wpAnyH_take (i := 0) (oi := { dst := some 5, op := Op.move (Operand.tmp 0), type := 25, pos := "relay.go:47", after := #[], guard := none }) (v := ?_) rfl (by kernel_rfl) (by kernel_rfl) (by kernel_rfl) (fun _ _ _ h => h) (Or.inl ⟨by rfl, ?_⟩) (by assumption) ?_
      rotate_left
      · (intro w hSw; (try dsimp only at hSw); go_simp; try with_reducible rfl)
      simp only [Act.put, List.setIfInBounds_toArray, List.set_cons_zero, List.set_cons_succ]
      refine wpAnyH_ready (rs := [1]) (by kernel_rfl) (by simp) ?_
      refine AllReadyH.cons (o := { dst := some 6, op := Op.call { callee := Callee.value (Operand.func 21), args := #[Operand.tmp 5], argTypes := #[25] }, type := 4, pos := "relay.go:47", after := #[{ on := 0, ground := Ground.data }], guard := none }) rfl (fun K hK => ?_) AllReadyH.nil
      go_simp
      go_at_call 21
      with_reducible refine (HE.out _ HB.out.drew).mono ?_
      rintro e u0 ⟨rfl, rfl⟩
      refine hK.out _ _ hs ?_
      intro hHeld
      clear hK K
      try simp only [Act.put, List.setIfInBounds_toArray, List.set_cons_zero, List.set_cons_succ]
      refine wpAnyH_take (i := 2) (oi := { dst := some 7, op := Op.move (Operand.tmp 6), type := 4, pos := "relay.go:47", after := #[{ on := 1, ground := Ground.data }, { on := 1, ground := Ground.chain }], guard := none }) (v := ?_) rfl (by kernel_rfl) (by kernel_rfl) (by kernel_rfl) (fun _ _ _ h => h) (Or.inl ⟨by rfl, ?_⟩) (by assumption) ?_
      rotate_left
      · (intro w hSw; (try dsimp only at hSw); go_simp; try with_reducible rfl)
      simp only [Act.put, List.setIfInBounds_toArray, List.set_cons_zero, List.set_cons_succ]
      refine wpAnyH_take (i := 3) (oi := { dst := some 8, op := Op.load 41 (Operand.tmp 3), type := 41, pos := "relay.go:47", after := #[{ on := 2, ground := Ground.guard }], guard := some (2, false) }) (v := ?_) rfl (by kernel_rfl) (by kernel_rfl) (by kernel_rfl) (fun _ _ _ h => h) (Or.inl ⟨by rfl, ?_⟩) (by assumption) ?_
      rotate_left
      · (intro w hSw; (try dsimp only at hSw); go_simp; try with_reducible rfl)
      simp only [Act.put, List.setIfInBounds_toArray, List.set_cons_zero, List.set_cons_succ]
      refine wpAnyH_take (i := 4) (oi := { dst := some 9, op := Op.move (Operand.tmp 0), type := 25, pos := "relay.go:47", after := #[{ on := 2, ground := Ground.guard }], guard := some (2, false) }) (v := ?_) rfl (by kernel_rfl) (by kernel_rfl) (by kernel_rfl) (fun _ _ _ h => h) (Or.inl ⟨by rfl, ?_⟩) (by assumption) ?_
      rotate_left
      · (intro w hSw; (try dsimp only at hSw); go_simp; try with_reducible rfl)
      simp only [Act.put, List.setIfInBounds_toArray, List.set_cons_zero, List.set_cons_succ]
      refine wpAnyH_take (i := 5) (oi := { dst := some 10, op := Op.nilCheck (Operand.tmp 9), type := 0, pos := "relay.go:47", after := #[{ on := 4, ground := Ground.data }, { on := 2, ground := Ground.guard }], guard := some (2, false) }) (v := ?_) rfl (by kernel_rfl) (by kernel_rfl) (by kernel_rfl) (fun _ _ _ h => h) (Or.inl ⟨by rfl, ?_⟩) (by assumption) ?_
      rotate_left
      · (intro w hSw; (try dsimp only at hSw); go_simp; try with_reducible rfl)
      simp only [Act.put, List.setIfInBounds_toArray, List.set_cons_zero, List.set_cons_succ]
      refine wpAnyH_take (i := 6) (oi := { dst := some 11, op := Op.fieldAddr 62 (Operand.tmp 10) 0, type := 0, pos := "relay.go:47", after := #[{ on := 5, ground := Ground.data }, { on := 2, ground := Ground.guard }], guard := some (2, false) }) (v := ?_) rfl (by kernel_rfl) (by kernel_rfl) (by kernel_rfl) (fun _ _ _ h => h) (Or.inl ⟨by rfl, ?_⟩) (by assumption) ?_
      rotate_left
      · (intro w hSw; (try dsimp only at hSw); go_simp; try with_reducible rfl)
      simp only [Act.put, List.setIfInBounds_toArray, List.set_cons_zero, List.set_cons_succ]
      refine wpAnyH_take (i := 7) (oi := { dst := some 12, op := Op.load 55 (Operand.tmp 11), type := 55, pos := "relay.go:47", after := #[{ on := 6, ground := Ground.data }, { on := 2, ground := Ground.guard }], guard := some (2, false) }) (v := ?_) rfl (by kernel_rfl) (by kernel_rfl) (by kernel_rfl) (fun _ _ _ h => h) (Or.inl ⟨by rfl, ?_⟩) (by assumption) ?_
      rotate_left
      · (intro w hSw; (try dsimp only at hSw); go_simp; try with_reducible rfl)
      simp only [Act.put, List.setIfInBounds_toArray, List.set_cons_zero, List.set_cons_succ]
      refine wpAnyH_take (i := 8) (oi := { dst := some 13, op := Op.nilCheck (Operand.tmp 12), type := 0, pos := "relay.go:47", after := #[{ on := 7, ground := Ground.data }, { on := 2, ground := Ground.guard }], guard := some (2, false) }) (v := ?_) rfl (by kernel_rfl) (by kernel_rfl) (by kernel_rfl) (fun _ _ _ h => h) (Or.inl ⟨by rfl, ?_⟩) (by assumption) ?_
      rotate_left
      · (intro w hSw; (try dsimp only at hSw); go_simp; try with_reducible rfl)
      simp only [Act.put, List.setIfInBounds_toArray, List.set_cons_zero, List.set_cons_succ]
      refine wpAnyH_take (i := 9) (oi := { dst := some 14, op := Op.load 41 (Operand.tmp 13), type := 41, pos := "relay.go:47", after := #[{ on := 8, ground := Ground.data }, { on := 2, ground := Ground.guard }], guard := some (2, false) }) (v := ?_) rfl (by kernel_rfl) (by kernel_rfl) (by kernel_rfl) (fun _ _ _ h => h) (Or.inl ⟨by rfl, ?_⟩) (by assumption) ?_
      rotate_left
      · (intro w hSw; (try dsimp only at hSw); go_simp; try with_reducible rfl)
      simp only [Act.put, List.setIfInBounds_toArray, List.set_cons_zero, List.set_cons_succ]
      refine wpAnyH_ready (rs := [10]) (by kernel_rfl) (by simp) ?_
      refine AllReadyH.cons (o := { dst := some 15, op := Op.call { callee := Callee.value (Operand.func 25), args := #[Operand.tmp 8, Operand.tmp 14], argTypes := #[41, 41] }, type := 4, pos := "relay.go:47", after := #[{ on := 3, ground := Ground.data }, { on := 9, ground := Ground.data }, { on := 2, ground := Ground.chain }, { on := 2, ground := Ground.guard }], guard := some (2, false) }) rfl (fun K hK => ?_) AllReadyH.nil
      go_simp
      go_at_call 25
      with_reducible refine (HW.out _ HB.out.drew).mono ?_
      rintro e u1 ⟨rfl, hb⟩
      have L1 := Lib.hid (HB.out.trans ((undrew hb).mono HB.out.size))
      have s1 := KA.out _ _ (undrew hb) hs
      refine hK.out _ _ s1 ?_
      intro hHeld
      clear hK K
      try simp only [Act.put, List.setIfInBounds_toArray, List.set_cons_zero, List.set_cons_succ]
      refine wpAnyH_take (i := 11) (oi := { dst := some 16, op := Op.unOp UnOp.not 4 (Operand.tmp 15), type := 4, pos := "relay.go:47", after := #[{ on := 10, ground := Ground.data }, { on := 2, ground := Ground.guard }], guard := some (2, false) }) (v := ?_) rfl (by kernel_rfl) (by kernel_rfl) (by kernel_rfl) (fun _ _ _ h => h) (Or.inl ⟨by rfl, ?_⟩) (by assumption) ?_
      rotate_left
      · (intro w hSw; (try dsimp only at hSw); go_simp; try with_reducible rfl)
      simp only [Act.put, List.setIfInBounds_toArray, List.set_cons_zero, List.set_cons_succ]
      refine wpAnyH_take (i := 12) (oi := { dst := some 17, op := Op.pick (Operand.tmp 7) (Operand.const (Value.bool true)) (Operand.tmp 16), type := 4, pos := "relay.go:47", after := #[{ on := 2, ground := Ground.data }, { on := 11, ground := Ground.data }], guard := none }) (v := ?_) rfl (by kernel_rfl) (by kernel_rfl) (by kernel_rfl) (fun _ _ _ h => h) (Or.inl ⟨by rfl, ?_⟩) (by assumption) ?_
      rotate_left
      · (intro w hSw; (try dsimp only at hSw); go_simp; try with_reducible rfl)
      simp only [Act.put, List.setIfInBounds_toArray, List.set_cons_zero, List.set_cons_succ]
      refine wpAnyH_done (by kernel_rfl) ?_ _
      obtain ⟨yq, -, k0, -, fz, -⟩ := HC.out _ L1.out
      go_wp2
      go_ret
      exact ⟨rfl, HN.out _ L1.out⟩
    · skip
      go_enter Try.func12, Try.ntmps12
      go_wp2
      generalize w.alloc _ = W at *
      refine wp_region_held_drew (S := fun u => u.cell? ⟨w.heap.size, 0, none⟩ = some (.int .i64 kd) ∧ u.cell? ⟨w.heap.size, 1, none⟩ = some (.int .i64 sr) ∧ u.cell? ⟨w.heap.size, 2, none⟩ = some (.int .i64 dst) ∧ u.cell? ⟨w.heap.size, 3, none⟩ = some (.int .i64 ge) ∧ u.cell? ⟨w.heap.size, 4, none⟩ = some (.int .i64 ho) ∧ u.cell? ⟨w.heap.size, 5, none⟩ = some (.int .u64 bi) ∧ u.cell? ⟨w.heap.size, 6, none⟩ = some (.int .i64 tk.gen) ∧ u.cell? ⟨w.heap.size, 7, none⟩ = some (.int .i64 tk.hop) ∧ u.cell? ⟨w.heap.size, 8, none⟩ = some (.slice ps tk.stamps.length cs) ∧ u.cell? ⟨w.heap.size, 9, none⟩ = some (.int .i64 tk.table.start) ∧ u.cell? ⟨w.heap.size, 10, none⟩ = some (.slice p tk.table.rows.length c) ∧ u.cell? ⟨q, 0, none⟩ = some (.pointer (some ⟨g, 0, none⟩)) ∧ u.cell? ⟨g, 0, none⟩ = some (.int .i64 kd') ∧ u.cell? ⟨g, 1, none⟩ = some (.int .i64 sr') ∧ u.cell? ⟨g, 2, none⟩ = some (.int .i64 dst') ∧ u.cell? ⟨g, 3, none⟩ = some (.int .i64 ge') ∧ u.cell? ⟨g, 4, none⟩ = some (.int .i64 ho') ∧ u.cell? ⟨g, 5, none⟩ = some (.int .u64 bi') ∧ u.cell? ⟨g, 6, none⟩ = some (.int .i64 tk'.gen) ∧ u.cell? ⟨g, 7, none⟩ = some (.int .i64 tk'.hop) ∧ u.cell? ⟨g, 8, none⟩ = some (.slice qs tk'.stamps.length ds) ∧ u.cell? ⟨g, 9, none⟩ = some (.int .i64 tk'.table.start) ∧ u.cell? ⟨g, 10, none⟩ = some (.slice qp tk'.table.rows.length d)) (by kernel_rfl) hs (fun hHeld => ?_)
      refine wpAnyH_take (i := 0) (oi := { dst := some 5, op := Op.move (Operand.tmp 0), type := 25, pos := "relay.go:47", after := #[], guard := none }) (v := ?_) rfl (by kernel_rfl) (by kernel_rfl) (by kernel_rfl) (fun _ _ _ h => h) (Or.inl ⟨by rfl, ?_⟩) (by assumption) ?_
      rotate_left
      · (intro w hSw; (try dsimp only at hSw); go_simp; try with_reducible rfl)
      simp only [Act.put, List.setIfInBounds_toArray, List.set_cons_zero, List.set_cons_succ]
      refine wpAnyH_ready (rs := [1]) (by kernel_rfl) (by simp) ?_
      refine AllReadyH.cons (o := { dst := some 6, op := Op.call { callee := Callee.value (Operand.func 21), args := #[Operand.tmp 5], argTypes := #[25] }, type := 4, pos := "relay.go:47", after := #[{ on := 0, ground := Ground.data }], guard := none }) rfl (fun K hK => ?_) AllReadyH.nil
      go_simp
      go_at_call 21
      with_reducible refine (HE.out _ HB.out.drew).mono ?_
      rintro e u0 ⟨rfl, rfl⟩
      refine hK.out _ _ hs ?_
      intro hHeld
      clear hK K
      try simp only [Act.put, List.setIfInBounds_toArray, List.set_cons_zero, List.set_cons_succ]
      refine wpAnyH_take (i := 2) (oi := { dst := some 7, op := Op.move (Operand.tmp 6), type := 4, pos := "relay.go:47", after := #[{ on := 1, ground := Ground.data }, { on := 1, ground := Ground.chain }], guard := none }) (v := ?_) rfl (by kernel_rfl) (by kernel_rfl) (by kernel_rfl) (fun _ _ _ h => h) (Or.inl ⟨by rfl, ?_⟩) (by assumption) ?_
      rotate_left
      · (intro w hSw; (try dsimp only at hSw); go_simp; try with_reducible rfl)
      simp only [Act.put, List.setIfInBounds_toArray, List.set_cons_zero, List.set_cons_succ]
      refine wpAnyH_take (i := 3) (oi := { dst := some 8, op := Op.load 41 (Operand.tmp 3), type := 41, pos := "relay.go:47", after := #[{ on := 2, ground := Ground.guard }], guard := some (2, false) }) (v := ?_) rfl (by kernel_rfl) (by kernel_rfl) (by kernel_rfl) (fun _ _ _ h => h) (Or.inl ⟨by rfl, ?_⟩) (by assumption) ?_
      rotate_left
      · (intro w hSw; (try dsimp only at hSw); go_simp; try with_reducible rfl)
      simp only [Act.put, List.setIfInBounds_toArray, List.set_cons_zero, List.set_cons_succ]
      refine wpAnyH_take (i := 4) (oi := { dst := some 9, op := Op.move (Operand.tmp 0), type := 25, pos := "relay.go:47", after := #[{ on := 2, ground := Ground.guard }], guard := some (2, false) }) (v := ?_) rfl (by kernel_rfl) (by kernel_rfl) (by kernel_rfl) (fun _ _ _ h => h) (Or.inl ⟨by rfl, ?_⟩) (by assumption) ?_
      rotate_left
      · (intro w hSw; (try dsimp only at hSw); go_simp; try with_reducible rfl)
      simp only [Act.put, List.setIfInBounds_toArray, List.set_cons_zero, List.set_cons_succ]
      refine wpAnyH_take (i := 5) (oi := { dst := some 10, op := Op.nilCheck (Operand.tmp 9), type := 0, pos := "relay.go:47", after := #[{ on := 4, ground := Ground.data }, { on := 2, ground := Ground.guard }], guard := some (2, false) }) (v := ?_) rfl (by kernel_rfl) (by kernel_rfl) (by kernel_rfl) (fun _ _ _ h => h) (Or.inl ⟨by rfl, ?_⟩) (by assumption) ?_
      rotate_left
      · (intro w hSw; (try dsimp only at hSw); go_simp; try with_reducible rfl)
      simp only [Act.put, List.setIfInBounds_toArray, List.set_cons_zero, List.set_cons_succ]
      refine wpAnyH_take (i := 6) (oi := { dst := some 11, op := Op.fieldAddr 62 (Operand.tmp 10) 0, type := 0, pos := "relay.go:47", after := #[{ on := 5, ground := Ground.data }, { on := 2, ground := Ground.guard }], guard := some (2, false) }) (v := ?_) rfl (by kernel_rfl) (by kernel_rfl) (by kernel_rfl) (fun _ _ _ h => h) (Or.inl ⟨by rfl, ?_⟩) (by assumption) ?_
      rotate_left
      · (intro w hSw; (try dsimp only at hSw); go_simp; try with_reducible rfl)
      simp only [Act.put, List.setIfInBounds_toArray, List.set_cons_zero, List.set_cons_succ]
      refine wpAnyH_take (i := 7) (oi := { dst := some 12, op := Op.load 55 (Operand.tmp 11), type := 55, pos := "relay.go:47", after := #[{ on := 6, ground := Ground.data }, { on := 2, ground := Ground.guard }], guard := some (2, false) }) (v := ?_) rfl (by kernel_rfl) (by kernel_rfl) (by kernel_rfl) (fun _ _ _ h => h) (Or.inl ⟨by rfl, ?_⟩) (by assumption) ?_
      rotate_left
      · (intro w hSw; (try dsimp only at hSw); go_simp; try with_reducible rfl)
      simp only [Act.put, List.setIfInBounds_toArray, List.set_cons_zero, List.set_cons_succ]
      refine wpAnyH_take (i := 8) (oi := { dst := some 13, op := Op.nilCheck (Operand.tmp 12), type := 0, pos := "relay.go:47", after := #[{ on := 7, ground := Ground.data }, { on := 2, ground := Ground.guard }], guard := some (2, false) }) (v := ?_) rfl (by kernel_rfl) (by kernel_rfl) (by kernel_rfl) (fun _ _ _ h => h) (Or.inl ⟨by rfl, ?_⟩) (by assumption) ?_
      rotate_left
      · (intro w hSw; (try dsimp only at hSw); go_simp; try with_reducible rfl)
      simp only [Act.put, List.setIfInBounds_toArray, List.set_cons_zero, List.set_cons_succ]
      refine wpAnyH_take (i := 9) (oi := { dst := some 14, op := Op.load 41 (Operand.tmp 13), type := 41, pos := "relay.go:47", after := #[{ on := 8, ground := Ground.data }, { on := 2, ground := Ground.guard }], guard := some (2, false) }) (v := ?_) rfl (by kernel_rfl) (by kernel_rfl) (by kernel_rfl) (fun _ _ _ h => h) (Or.inl ⟨by rfl, ?_⟩) (by assumption) ?_
      rotate_left
      · (intro w hSw; (try dsimp only at hSw); go_simp; try with_reducible rfl)
      simp only [Act.put, List.setIfInBounds_toArray, List.set_cons_zero, List.set_cons_succ]
      refine wpAnyH_ready (rs := [10]) (by kernel_rfl) (by simp) ?_
      refine AllReadyH.cons (o := { dst := some 15, op := Op.call { callee := Callee.value (Operand.func 25), args := #[Operand.tmp 8, Operand.tmp 14], argTypes := #[41, 41] }, type := 4, pos := "relay.go:47", after := #[{ on := 3, ground := Ground.data }, { on := 9, ground := Ground.data }, { on := 2, ground := Ground.chain }, { on := 2, ground := Ground.guard }], guard := some (2, false) }) rfl (fun K hK => ?_) AllReadyH.nil
      go_simp
      go_at_call 25
      with_reducible refine (HW.out _ HB.out.drew).mono ?_
      rintro e u1 ⟨rfl, hb⟩
      have L1 := Lib.hid (HB.out.trans ((undrew hb).mono HB.out.size))
      have s1 := KA.out _ _ (undrew hb) hs
      refine hK.out _ _ s1 ?_
      intro hHeld
      clear hK K
      try simp only [Act.put, List.setIfInBounds_toArray, List.set_cons_zero, List.set_cons_succ]
      refine wpAnyH_take (i := 11) (oi := { dst := some 16, op := Op.unOp UnOp.not 4 (Operand.tmp 15), type := 4, pos := "relay.go:47", after := #[{ on := 10, ground := Ground.data }, { on := 2, ground := Ground.guard }], guard := some (2, false) }) (v := ?_) rfl (by kernel_rfl) (by kernel_rfl) (by kernel_rfl) (fun _ _ _ h => h) (Or.inl ⟨by rfl, ?_⟩) (by assumption) ?_
      rotate_left
      · (intro w hSw; (try dsimp only at hSw); go_simp; try with_reducible rfl)
      simp only [Act.put, List.setIfInBounds_toArray, List.set_cons_zero, List.set_cons_succ]
      refine wpAnyH_take (i := 12) (oi := { dst := some 17, op := Op.pick (Operand.tmp 7) (Operand.const (Value.bool true)) (Operand.tmp 16), type := 4, pos := "relay.go:47", after := #[{ on := 2, ground := Ground.data }, { on := 11, ground := Ground.data }], guard := none }) (v := ?_) rfl (by kernel_rfl) (by kernel_rfl) (by kernel_rfl) (fun _ _ _ h => h) (Or.inl ⟨by rfl, ?_⟩) (by assumption) ?_
      rotate_left
      · (intro w hSw; (try dsimp only at hSw); go_simp; try with_reducible rfl)
      simp only [Act.put, List.setIfInBounds_toArray, List.set_cons_zero, List.set_cons_succ]
      refine wpAnyH_done (by kernel_rfl) ?_ _
      obtain ⟨yq, -, k0, -, fz, -⟩ := HC.out _ L1.out
      go_wp2
      go_ret
      exact ⟨rfl, HS.out _ L1.out⟩
set_option maxRecDepth 100000 in
set_option maxHeartbeats 8000000 in
theorem pdrop_any (h : Pr F B w q r) (hB : B ≤ w.heap.size) (pg ph : Int) :
    Calls Try.prog 13 #[.pointer (some ⟨q, 0, none⟩), .agg #[.int .i64 pg, .int .i64 ph]] w fun e w' => e = .returned (.bool (drops r pg ph)) ∧ Moved Pr F B w q (drop r pg ph) w' := by
  have HB := Lib.hid (lay w (.cells #[.int .i64 pg, .int .i64 ph] 52))
  have HS := Lib.hid (fun u (hu : Below w.heap.size w u) => Moved.same h hB hu)
  have HN := Lib.hid (fun u (hu : Below w.heap.size w u) => Moved.empty h hB hu)
  have HE := Lib.hid (fun u (hu : Below w.heap.size w u) => pempty_any (h.below hu))
  have HC := Lib.hid (fun u (hu : Below w.heap.size w u) => (h.below hu).cell)
  cases hr : r.held with
  | none =>
    have e1 : drops r pg ph = false := by simp [drops, hr]
    have e2 : drop r pg ph = r := by simp [drop, e1]
    have e3 : isHeld r = false := by simp [isHeld, hr]
    rw [e1, e2]
    simp only [e3, Bool.not_false] at HE
    clear e1 e2 e3 hr h
    go_enter Try.func13, Try.ntmps13
    go_wp2
    generalize w.alloc _ = W at *
    have hq := fun i => HE.out (W.drewN i) (HB.out.trans ⟨rfl, rfl, rfl, Nat.le_refl _, fun _ _ => rfl⟩)
    go_quiet ((go_at_call 21; exact Calls.quiet_of_same (hq _)))
    go_wp2
    go_ret
    exact ⟨rfl, HS.out _ (HB.out.trans ⟨rfl, rfl, rfl, Nat.le_refl _, fun _ _ => rfl⟩)⟩
  | some x =>
    have e3 : isHeld r = true := by simp [isHeld, hr]
    simp only [e3, Bool.not_true] at HE
    obtain ⟨g, qs, qp, ds, d, k1, k2, k3⟩ := h.first hr
    have gl := lt_of_heap k2
    have HT := Lib.hid (fun u => pat_tok x.token qs ds qp d u)
    have HW := Lib.hid (fun u => Token.pnewer_any pg ph x.token.gen x.token.hop u)
    have hcase : (Token.newer (pg, ph) (x.token.gen, x.token.hop) = true ∧ drops r pg ph = true ∧ drop r pg ph = ⟨none, r.sent⟩) ∨ (Token.newer (pg, ph) (x.token.gen, x.token.hop) = false ∧ drops r pg ph = false ∧ drop r pg ph = r) := by
      cases hx : Token.newer (pg, ph) (x.token.gen, x.token.hop)
      · have e1 : drops r pg ph = false := by simp only [drops, hr]; exact hx
        exact .inr ⟨rfl, e1, by simp [drop, e1]⟩
      · have e1 : drops r pg ph = true := by simp only [drops, hr]; exact hx
        exact .inl ⟨rfl, e1, by simp [drop, e1]⟩
    generalize Token.newer (pg, ph) (x.token.gen, x.token.hop) = R at *
    generalize drops r pg ph = R1 at *
    generalize drop r pg ph = R2 at *
    clear k3 e3 hr h
    have hz := heap_alloc_new w (.cells #[.int .i64 pg, .int .i64 ph] 52)
    have y0 : (w.alloc (.cells #[.int .i64 pg, .int .i64 ph] 52)).cell? ⟨w.heap.size, 0, none⟩ = some (.int .i64 pg) := by rw [cell_of_row _ _ 0 _ _ (0, 0) hz]; rfl
    have y1 : (w.alloc (.cells #[.int .i64 pg, .int .i64 ph] 52)).cell? ⟨w.heap.size, 1, none⟩ = some (.int .i64 ph) := by rw [cell_of_row _ _ 1 _ _ (0, 0) hz]; rfl
    obtain ⟨z0, z1, z2, z3, z4, z5, z6, z7, z8, z9, z10⟩ := box11 ((HB.out.block g gl).trans k2)
    have kq := cell_on k1 HB.out
    clear k1 k2 gl hz
    obtain ⟨kd', sr', dst', ge', ho', bi', tk'⟩ := x
    simp only at *
    have hs : (fun u : World => u.cell? ⟨w.heap.size, 0, none⟩ = some (.int .i64 pg) ∧ u.cell? ⟨w.heap.size, 1, none⟩ = some (.int .i64 ph) ∧ u.cell? ⟨q, 0, none⟩ = some (.pointer (some ⟨g, 0, none⟩)) ∧ u.cell? ⟨g, 0, none⟩ = some (.int .i64 kd') ∧ u.cell? ⟨g, 1, none⟩ = some (.int .i64 sr') ∧ u.cell? ⟨g, 2, none⟩ = some (.int .i64 dst') ∧ u.cell? ⟨g, 3, none⟩ = some (.int .i64 ge') ∧ u.cell? ⟨g, 4, none⟩ = some (.int .i64 ho') ∧ u.cell? ⟨g, 5, none⟩ = some (.int .u64 bi') ∧ u.cell? ⟨g, 6, none⟩ = some (.int .i64 tk'.gen) ∧ u.cell? ⟨g, 7, none⟩ = some (.int .i64 tk'.hop) ∧ u.cell? ⟨g, 8, none⟩ = some (.slice qs tk'.stamps.length ds) ∧ u.cell? ⟨g, 9, none⟩ = some (.int .i64 tk'.table.start) ∧ u.cell? ⟨g, 10, none⟩ = some (.slice qp tk'.table.rows.length d)) (w.alloc (.cells #[.int .i64 pg, .int .i64 ph] 52)) := ⟨y0, y1, kq, z0, z1, z2, z3, z4, z5, z6, z7, z8, z9, z10⟩
    have KA := Lib.hid (show ∀ (u u' : World) (_ : Below u.heap.size u u') (_ : u.cell? ⟨w.heap.size, 0, none⟩ = some (.int .i64 pg) ∧ u.cell? ⟨w.heap.size, 1, none⟩ = some (.int .i64 ph) ∧ u.cell? ⟨q, 0, none⟩ = some (.pointer (some ⟨g, 0, none⟩)) ∧ u.cell? ⟨g, 0, none⟩ = some (.int .i64 kd') ∧ u.cell? ⟨g, 1, none⟩ = some (.int .i64 sr') ∧ u.cell? ⟨g, 2, none⟩ = some (.int .i64 dst') ∧ u.cell? ⟨g, 3, none⟩ = some (.int .i64 ge') ∧ u.cell? ⟨g, 4, none⟩ = some (.int .i64 ho') ∧ u.cell? ⟨g, 5, none⟩ = some (.int .u64 bi') ∧ u.cell? ⟨g, 6, none⟩ = some (.int .i64 tk'.gen) ∧ u.cell? ⟨g, 7, none⟩ = some (.int .i64 tk'.hop) ∧ u.cell? ⟨g, 8, none⟩ = some (.slice qs tk'.stamps.length ds) ∧ u.cell? ⟨g, 9, none⟩ = some (.int .i64 tk'.table.start) ∧ u.cell? ⟨g, 10, none⟩ = some (.slice qp tk'.table.rows.length d)), u'.cell? ⟨w.heap.size, 0, none⟩ = some (.int .i64 pg) ∧ u'.cell? ⟨w.heap.size, 1, none⟩ = some (.int .i64 ph) ∧ u'.cell? ⟨q, 0, none⟩ = some (.pointer (some ⟨g, 0, none⟩)) ∧ u'.cell? ⟨g, 0, none⟩ = some (.int .i64 kd') ∧ u'.cell? ⟨g, 1, none⟩ = some (.int .i64 sr') ∧ u'.cell? ⟨g, 2, none⟩ = some (.int .i64 dst') ∧ u'.cell? ⟨g, 3, none⟩ = some (.int .i64 ge') ∧ u'.cell? ⟨g, 4, none⟩ = some (.int .i64 ho') ∧ u'.cell? ⟨g, 5, none⟩ = some (.int .u64 bi') ∧ u'.cell? ⟨g, 6, none⟩ = some (.int .i64 tk'.gen) ∧ u'.cell? ⟨g, 7, none⟩ = some (.int .i64 tk'.hop) ∧ u'.cell? ⟨g, 8, none⟩ = some (.slice qs tk'.stamps.length ds) ∧ u'.cell? ⟨g, 9, none⟩ = some (.int .i64 tk'.table.start) ∧ u'.cell? ⟨g, 10, none⟩ = some (.slice qp tk'.table.rows.length d) from fun u u' hb ⟨x0, x1, xq, v0, v1, v2, v3, v4, v5, v6, v7, v8, v9, v10⟩ => ⟨cell_on x0 hb, cell_on x1 hb, cell_on xq hb, cell_on v0 hb, cell_on v1 hb, cell_on v2 hb, cell_on v3 hb, cell_on v4 hb, cell_on v5 hb, cell_on v6 hb, cell_on v7 hb, cell_on v8 hb, cell_on v9 hb, cell_on v10 hb⟩)
    clear y0 y1 z0 z1 z2 z3 z4 z5 z6 z7 z8 z9 z10 kq
    rcases hcase with ⟨rfl, rfl, rfl⟩ | ⟨rfl, rfl, rfl⟩
    · skip
      go_enter Try.func13, Try.ntmps13
      go_wp2
      generalize w.alloc _ = W at *
      refine wp_region_held_drew (S := fun u => u.cell? ⟨w.heap.size, 0, none⟩ = some (.int .i64 pg) ∧ u.cell? ⟨w.heap.size, 1, none⟩ = some (.int .i64 ph) ∧ u.cell? ⟨q, 0, none⟩ = some (.pointer (some ⟨g, 0, none⟩)) ∧ u.cell? ⟨g, 0, none⟩ = some (.int .i64 kd') ∧ u.cell? ⟨g, 1, none⟩ = some (.int .i64 sr') ∧ u.cell? ⟨g, 2, none⟩ = some (.int .i64 dst') ∧ u.cell? ⟨g, 3, none⟩ = some (.int .i64 ge') ∧ u.cell? ⟨g, 4, none⟩ = some (.int .i64 ho') ∧ u.cell? ⟨g, 5, none⟩ = some (.int .u64 bi') ∧ u.cell? ⟨g, 6, none⟩ = some (.int .i64 tk'.gen) ∧ u.cell? ⟨g, 7, none⟩ = some (.int .i64 tk'.hop) ∧ u.cell? ⟨g, 8, none⟩ = some (.slice qs tk'.stamps.length ds) ∧ u.cell? ⟨g, 9, none⟩ = some (.int .i64 tk'.table.start) ∧ u.cell? ⟨g, 10, none⟩ = some (.slice qp tk'.table.rows.length d)) (by kernel_rfl) hs (fun hHeld => ?_)
      refine wpAnyH_take (i := 0) (oi := { dst := some 5, op := Op.move (Operand.tmp 0), type := 25, pos := "relay.go:56", after := #[], guard := none }) (v := ?_) rfl (by kernel_rfl) (by kernel_rfl) (by kernel_rfl) (fun _ _ _ h => h) (Or.inl ⟨by rfl, ?_⟩) (by assumption) ?_
      rotate_left
      · (intro w hSw; (try dsimp only at hSw); go_simp; try with_reducible rfl)
      simp only [Act.put, List.setIfInBounds_toArray, List.set_cons_zero, List.set_cons_succ]
      refine wpAnyH_ready (rs := [1]) (by kernel_rfl) (by simp) ?_
      refine AllReadyH.cons (o := { dst := some 6, op := Op.call { callee := Callee.value (Operand.func 21), args := #[Operand.tmp 5], argTypes := #[25] }, type := 4, pos := "relay.go:56", after := #[{ on := 0, ground := Ground.data }], guard := none }) rfl (fun K hK => ?_) AllReadyH.nil
      go_simp
      go_at_call 21
      with_reducible refine (HE.out _ HB.out.drew).mono ?_
      rintro e u0 ⟨rfl, rfl⟩
      refine hK.out _ _ hs ?_
      intro hHeld
      clear hK K
      try simp only [Act.put, List.setIfInBounds_toArray, List.set_cons_zero, List.set_cons_succ]
      refine wpAnyH_take (i := 2) (oi := { dst := some 7, op := Op.move (Operand.tmp 6), type := 4, pos := "relay.go:56", after := #[{ on := 1, ground := Ground.data }, { on := 1, ground := Ground.chain }], guard := none }) (v := ?_) rfl (by kernel_rfl) (by kernel_rfl) (by kernel_rfl) (fun _ _ _ h => h) (Or.inl ⟨by rfl, ?_⟩) (by assumption) ?_
      rotate_left
      · (intro w hSw; (try dsimp only at hSw); go_simp; try with_reducible rfl)
      simp only [Act.put, List.setIfInBounds_toArray, List.set_cons_zero, List.set_cons_succ]
      refine wpAnyH_take (i := 3) (oi := { dst := some 8, op := Op.load 52 (Operand.tmp 3), type := 52, pos := "relay.go:56", after := #[{ on := 2, ground := Ground.guard }], guard := some (2, false) }) (v := ?_) rfl (by kernel_rfl) (by kernel_rfl) (by kernel_rfl) (fun _ _ _ h => h) (Or.inl ⟨by rfl, ?_⟩) (by assumption) ?_
      rotate_left
      · (intro w hSw; (try dsimp only at hSw); go_simp; try with_reducible rfl)
      simp only [Act.put, List.setIfInBounds_toArray, List.set_cons_zero, List.set_cons_succ]
      refine wpAnyH_take (i := 4) (oi := { dst := some 9, op := Op.move (Operand.tmp 0), type := 25, pos := "relay.go:56", after := #[{ on := 2, ground := Ground.guard }], guard := some (2, false) }) (v := ?_) rfl (by kernel_rfl) (by kernel_rfl) (by kernel_rfl) (fun _ _ _ h => h) (Or.inl ⟨by rfl, ?_⟩) (by assumption) ?_
      rotate_left
      · (intro w hSw; (try dsimp only at hSw); go_simp; try with_reducible rfl)
      simp only [Act.put, List.setIfInBounds_toArray, List.set_cons_zero, List.set_cons_succ]
      refine wpAnyH_take (i := 5) (oi := { dst := some 10, op := Op.nilCheck (Operand.tmp 9), type := 0, pos := "relay.go:56", after := #[{ on := 4, ground := Ground.data }, { on := 2, ground := Ground.guard }], guard := some (2, false) }) (v := ?_) rfl (by kernel_rfl) (by kernel_rfl) (by kernel_rfl) (fun _ _ _ h => h) (Or.inl ⟨by rfl, ?_⟩) (by assumption) ?_
      rotate_left
      · (intro w hSw; (try dsimp only at hSw); go_simp; try with_reducible rfl)
      simp only [Act.put, List.setIfInBounds_toArray, List.set_cons_zero, List.set_cons_succ]
      refine wpAnyH_take (i := 6) (oi := { dst := some 11, op := Op.fieldAddr 62 (Operand.tmp 10) 0, type := 0, pos := "relay.go:56", after := #[{ on := 5, ground := Ground.data }, { on := 2, ground := Ground.guard }], guard := some (2, false) }) (v := ?_) rfl (by kernel_rfl) (by kernel_rfl) (by kernel_rfl) (fun _ _ _ h => h) (Or.inl ⟨by rfl, ?_⟩) (by assumption) ?_
      rotate_left
      · (intro w hSw; (try dsimp only at hSw); go_simp; try with_reducible rfl)
      simp only [Act.put, List.setIfInBounds_toArray, List.set_cons_zero, List.set_cons_succ]
      refine wpAnyH_take (i := 7) (oi := { dst := some 12, op := Op.load 55 (Operand.tmp 11), type := 55, pos := "relay.go:56", after := #[{ on := 6, ground := Ground.data }, { on := 2, ground := Ground.guard }], guard := some (2, false) }) (v := ?_) rfl (by kernel_rfl) (by kernel_rfl) (by kernel_rfl) (fun _ _ _ h => h) (Or.inl ⟨by rfl, ?_⟩) (by assumption) ?_
      rotate_left
      · (intro w hSw; (try dsimp only at hSw); go_simp; try with_reducible rfl)
      simp only [Act.put, List.setIfInBounds_toArray, List.set_cons_zero, List.set_cons_succ]
      refine wpAnyH_take (i := 8) (oi := { dst := some 13, op := Op.nilCheck (Operand.tmp 12), type := 0, pos := "relay.go:56", after := #[{ on := 7, ground := Ground.data }, { on := 2, ground := Ground.guard }], guard := some (2, false) }) (v := ?_) rfl (by kernel_rfl) (by kernel_rfl) (by kernel_rfl) (fun _ _ _ h => h) (Or.inl ⟨by rfl, ?_⟩) (by assumption) ?_
      rotate_left
      · (intro w hSw; (try dsimp only at hSw); go_simp; try with_reducible rfl)
      simp only [Act.put, List.setIfInBounds_toArray, List.set_cons_zero, List.set_cons_succ]
      refine wpAnyH_take (i := 9) (oi := { dst := some 14, op := Op.fieldAddr 41 (Operand.tmp 13) 6, type := 0, pos := "relay.go:56", after := #[{ on := 8, ground := Ground.data }, { on := 2, ground := Ground.guard }], guard := some (2, false) }) (v := ?_) rfl (by kernel_rfl) (by kernel_rfl) (by kernel_rfl) (fun _ _ _ h => h) (Or.inl ⟨by rfl, ?_⟩) (by assumption) ?_
      rotate_left
      · (intro w hSw; (try dsimp only at hSw); go_simp; try with_reducible rfl)
      simp only [Act.put, List.setIfInBounds_toArray, List.set_cons_zero, List.set_cons_succ]
      refine wpAnyH_take (i := 10) (oi := { dst := some 15, op := Op.load 39 (Operand.tmp 14), type := 39, pos := "relay.go:56", after := #[{ on := 9, ground := Ground.data }, { on := 2, ground := Ground.guard }], guard := some (2, false) }) (v := ?_) rfl (by kernel_rfl) (by kernel_rfl) (by kernel_rfl) (fun _ _ _ h => h) (Or.inl ⟨by rfl, ?_⟩) (by assumption) ?_
      rotate_left
      · (intro w hSw; (try dsimp only at hSw); go_simp; try with_reducible rfl)
      simp only [Act.put, List.setIfInBounds_toArray, List.set_cons_zero, List.set_cons_succ]
      refine wpAnyH_ready (rs := [11]) (by kernel_rfl) (by simp) ?_
      refine AllReadyH.cons (o := { dst := some 16, op := Op.call { callee := Callee.value (Operand.func 27), args := #[Operand.tmp 15], argTypes := #[39] }, type := 52, pos := "relay.go:56", after := #[{ on := 10, ground := Ground.data }, { on := 2, ground := Ground.chain }, { on := 2, ground := Ground.guard }], guard := some (2, false) }) rfl (fun K hK => ?_) AllReadyH.nil
      go_simp
      go_at_call 27
      with_reducible refine (HT.out _).mono ?_
      rintro e u1 ⟨rfl, hb⟩
      have L1 := Lib.hid (HB.out.trans ((undrew hb).mono HB.out.size))
      have s1 := KA.out _ _ (undrew hb) hs
      refine hK.out _ _ s1 ?_
      intro hHeld
      clear hK K
      try simp only [Act.put, List.setIfInBounds_toArray, List.set_cons_zero, List.set_cons_succ]
      refine wpAnyH_ready (rs := [12]) (by kernel_rfl) (by simp) ?_
      refine AllReadyH.cons (o := { dst := some 17, op := Op.call { callee := Callee.value (Operand.func 26), args := #[Operand.tmp 8, Operand.tmp 16], argTypes := #[52, 52] }, type := 4, pos := "relay.go:56", after := #[{ on := 3, ground := Ground.data }, { on := 11, ground := Ground.data }, { on := 11, ground := Ground.chain }, { on := 2, ground := Ground.guard }], guard := some (2, false) }) rfl (fun K hK => ?_) AllReadyH.nil
      go_simp
      go_at_call 26
      with_reducible refine (HW.out _).mono ?_
      rintro e u2 ⟨rfl, hb2⟩
      have L2 := Lib.hid (L1.out.trans (hb2.mono L1.out.size))
      have s2 := KA.out _ _ hb2 s1
      refine hK.out _ _ s2 ?_
      intro hHeld
      clear hK K
      try simp only [Act.put, List.setIfInBounds_toArray, List.set_cons_zero, List.set_cons_succ]
      refine wpAnyH_take (i := 13) (oi := { dst := some 18, op := Op.unOp UnOp.not 4 (Operand.tmp 17), type := 4, pos := "relay.go:56", after := #[{ on := 12, ground := Ground.data }, { on := 2, ground := Ground.guard }], guard := some (2, false) }) (v := ?_) rfl (by kernel_rfl) (by kernel_rfl) (by kernel_rfl) (fun _ _ _ h => h) (Or.inl ⟨by rfl, ?_⟩) (by assumption) ?_
      rotate_left
      · (intro w hSw; (try dsimp only at hSw); go_simp; try with_reducible rfl)
      simp only [Act.put, List.setIfInBounds_toArray, List.set_cons_zero, List.set_cons_succ]
      refine wpAnyH_take (i := 14) (oi := { dst := some 19, op := Op.pick (Operand.tmp 7) (Operand.const (Value.bool true)) (Operand.tmp 18), type := 4, pos := "relay.go:56", after := #[{ on := 2, ground := Ground.data }, { on := 13, ground := Ground.data }], guard := none }) (v := ?_) rfl (by kernel_rfl) (by kernel_rfl) (by kernel_rfl) (fun _ _ _ h => h) (Or.inl ⟨by rfl, ?_⟩) (by assumption) ?_
      rotate_left
      · (intro w hSw; (try dsimp only at hSw); go_simp; try with_reducible rfl)
      simp only [Act.put, List.setIfInBounds_toArray, List.set_cons_zero, List.set_cons_succ]
      refine wpAnyH_done (by kernel_rfl) ?_ _
      obtain ⟨yq, -, k0, -, fz, -⟩ := HC.out _ L2.out
      go_wp2
      go_ret
      exact ⟨rfl, HN.out _ L2.out⟩
    · skip
      go_enter Try.func13, Try.ntmps13
      go_wp2
      generalize w.alloc _ = W at *
      refine wp_region_held_drew (S := fun u => u.cell? ⟨w.heap.size, 0, none⟩ = some (.int .i64 pg) ∧ u.cell? ⟨w.heap.size, 1, none⟩ = some (.int .i64 ph) ∧ u.cell? ⟨q, 0, none⟩ = some (.pointer (some ⟨g, 0, none⟩)) ∧ u.cell? ⟨g, 0, none⟩ = some (.int .i64 kd') ∧ u.cell? ⟨g, 1, none⟩ = some (.int .i64 sr') ∧ u.cell? ⟨g, 2, none⟩ = some (.int .i64 dst') ∧ u.cell? ⟨g, 3, none⟩ = some (.int .i64 ge') ∧ u.cell? ⟨g, 4, none⟩ = some (.int .i64 ho') ∧ u.cell? ⟨g, 5, none⟩ = some (.int .u64 bi') ∧ u.cell? ⟨g, 6, none⟩ = some (.int .i64 tk'.gen) ∧ u.cell? ⟨g, 7, none⟩ = some (.int .i64 tk'.hop) ∧ u.cell? ⟨g, 8, none⟩ = some (.slice qs tk'.stamps.length ds) ∧ u.cell? ⟨g, 9, none⟩ = some (.int .i64 tk'.table.start) ∧ u.cell? ⟨g, 10, none⟩ = some (.slice qp tk'.table.rows.length d)) (by kernel_rfl) hs (fun hHeld => ?_)
      refine wpAnyH_take (i := 0) (oi := { dst := some 5, op := Op.move (Operand.tmp 0), type := 25, pos := "relay.go:56", after := #[], guard := none }) (v := ?_) rfl (by kernel_rfl) (by kernel_rfl) (by kernel_rfl) (fun _ _ _ h => h) (Or.inl ⟨by rfl, ?_⟩) (by assumption) ?_
      rotate_left
      · (intro w hSw; (try dsimp only at hSw); go_simp; try with_reducible rfl)
      simp only [Act.put, List.setIfInBounds_toArray, List.set_cons_zero, List.set_cons_succ]
      refine wpAnyH_ready (rs := [1]) (by kernel_rfl) (by simp) ?_
      refine AllReadyH.cons (o := { dst := some 6, op := Op.call { callee := Callee.value (Operand.func 21), args := #[Operand.tmp 5], argTypes := #[25] }, type := 4, pos := "relay.go:56", after := #[{ on := 0, ground := Ground.data }], guard := none }) rfl (fun K hK => ?_) AllReadyH.nil
      go_simp
      go_at_call 21
      with_reducible refine (HE.out _ HB.out.drew).mono ?_
      rintro e u0 ⟨rfl, rfl⟩
      refine hK.out _ _ hs ?_
      intro hHeld
      clear hK K
      try simp only [Act.put, List.setIfInBounds_toArray, List.set_cons_zero, List.set_cons_succ]
      refine wpAnyH_take (i := 2) (oi := { dst := some 7, op := Op.move (Operand.tmp 6), type := 4, pos := "relay.go:56", after := #[{ on := 1, ground := Ground.data }, { on := 1, ground := Ground.chain }], guard := none }) (v := ?_) rfl (by kernel_rfl) (by kernel_rfl) (by kernel_rfl) (fun _ _ _ h => h) (Or.inl ⟨by rfl, ?_⟩) (by assumption) ?_
      rotate_left
      · (intro w hSw; (try dsimp only at hSw); go_simp; try with_reducible rfl)
      simp only [Act.put, List.setIfInBounds_toArray, List.set_cons_zero, List.set_cons_succ]
      refine wpAnyH_take (i := 3) (oi := { dst := some 8, op := Op.load 52 (Operand.tmp 3), type := 52, pos := "relay.go:56", after := #[{ on := 2, ground := Ground.guard }], guard := some (2, false) }) (v := ?_) rfl (by kernel_rfl) (by kernel_rfl) (by kernel_rfl) (fun _ _ _ h => h) (Or.inl ⟨by rfl, ?_⟩) (by assumption) ?_
      rotate_left
      · (intro w hSw; (try dsimp only at hSw); go_simp; try with_reducible rfl)
      simp only [Act.put, List.setIfInBounds_toArray, List.set_cons_zero, List.set_cons_succ]
      refine wpAnyH_take (i := 4) (oi := { dst := some 9, op := Op.move (Operand.tmp 0), type := 25, pos := "relay.go:56", after := #[{ on := 2, ground := Ground.guard }], guard := some (2, false) }) (v := ?_) rfl (by kernel_rfl) (by kernel_rfl) (by kernel_rfl) (fun _ _ _ h => h) (Or.inl ⟨by rfl, ?_⟩) (by assumption) ?_
      rotate_left
      · (intro w hSw; (try dsimp only at hSw); go_simp; try with_reducible rfl)
      simp only [Act.put, List.setIfInBounds_toArray, List.set_cons_zero, List.set_cons_succ]
      refine wpAnyH_take (i := 5) (oi := { dst := some 10, op := Op.nilCheck (Operand.tmp 9), type := 0, pos := "relay.go:56", after := #[{ on := 4, ground := Ground.data }, { on := 2, ground := Ground.guard }], guard := some (2, false) }) (v := ?_) rfl (by kernel_rfl) (by kernel_rfl) (by kernel_rfl) (fun _ _ _ h => h) (Or.inl ⟨by rfl, ?_⟩) (by assumption) ?_
      rotate_left
      · (intro w hSw; (try dsimp only at hSw); go_simp; try with_reducible rfl)
      simp only [Act.put, List.setIfInBounds_toArray, List.set_cons_zero, List.set_cons_succ]
      refine wpAnyH_take (i := 6) (oi := { dst := some 11, op := Op.fieldAddr 62 (Operand.tmp 10) 0, type := 0, pos := "relay.go:56", after := #[{ on := 5, ground := Ground.data }, { on := 2, ground := Ground.guard }], guard := some (2, false) }) (v := ?_) rfl (by kernel_rfl) (by kernel_rfl) (by kernel_rfl) (fun _ _ _ h => h) (Or.inl ⟨by rfl, ?_⟩) (by assumption) ?_
      rotate_left
      · (intro w hSw; (try dsimp only at hSw); go_simp; try with_reducible rfl)
      simp only [Act.put, List.setIfInBounds_toArray, List.set_cons_zero, List.set_cons_succ]
      refine wpAnyH_take (i := 7) (oi := { dst := some 12, op := Op.load 55 (Operand.tmp 11), type := 55, pos := "relay.go:56", after := #[{ on := 6, ground := Ground.data }, { on := 2, ground := Ground.guard }], guard := some (2, false) }) (v := ?_) rfl (by kernel_rfl) (by kernel_rfl) (by kernel_rfl) (fun _ _ _ h => h) (Or.inl ⟨by rfl, ?_⟩) (by assumption) ?_
      rotate_left
      · (intro w hSw; (try dsimp only at hSw); go_simp; try with_reducible rfl)
      simp only [Act.put, List.setIfInBounds_toArray, List.set_cons_zero, List.set_cons_succ]
      refine wpAnyH_take (i := 8) (oi := { dst := some 13, op := Op.nilCheck (Operand.tmp 12), type := 0, pos := "relay.go:56", after := #[{ on := 7, ground := Ground.data }, { on := 2, ground := Ground.guard }], guard := some (2, false) }) (v := ?_) rfl (by kernel_rfl) (by kernel_rfl) (by kernel_rfl) (fun _ _ _ h => h) (Or.inl ⟨by rfl, ?_⟩) (by assumption) ?_
      rotate_left
      · (intro w hSw; (try dsimp only at hSw); go_simp; try with_reducible rfl)
      simp only [Act.put, List.setIfInBounds_toArray, List.set_cons_zero, List.set_cons_succ]
      refine wpAnyH_take (i := 9) (oi := { dst := some 14, op := Op.fieldAddr 41 (Operand.tmp 13) 6, type := 0, pos := "relay.go:56", after := #[{ on := 8, ground := Ground.data }, { on := 2, ground := Ground.guard }], guard := some (2, false) }) (v := ?_) rfl (by kernel_rfl) (by kernel_rfl) (by kernel_rfl) (fun _ _ _ h => h) (Or.inl ⟨by rfl, ?_⟩) (by assumption) ?_
      rotate_left
      · (intro w hSw; (try dsimp only at hSw); go_simp; try with_reducible rfl)
      simp only [Act.put, List.setIfInBounds_toArray, List.set_cons_zero, List.set_cons_succ]
      refine wpAnyH_take (i := 10) (oi := { dst := some 15, op := Op.load 39 (Operand.tmp 14), type := 39, pos := "relay.go:56", after := #[{ on := 9, ground := Ground.data }, { on := 2, ground := Ground.guard }], guard := some (2, false) }) (v := ?_) rfl (by kernel_rfl) (by kernel_rfl) (by kernel_rfl) (fun _ _ _ h => h) (Or.inl ⟨by rfl, ?_⟩) (by assumption) ?_
      rotate_left
      · (intro w hSw; (try dsimp only at hSw); go_simp; try with_reducible rfl)
      simp only [Act.put, List.setIfInBounds_toArray, List.set_cons_zero, List.set_cons_succ]
      refine wpAnyH_ready (rs := [11]) (by kernel_rfl) (by simp) ?_
      refine AllReadyH.cons (o := { dst := some 16, op := Op.call { callee := Callee.value (Operand.func 27), args := #[Operand.tmp 15], argTypes := #[39] }, type := 52, pos := "relay.go:56", after := #[{ on := 10, ground := Ground.data }, { on := 2, ground := Ground.chain }, { on := 2, ground := Ground.guard }], guard := some (2, false) }) rfl (fun K hK => ?_) AllReadyH.nil
      go_simp
      go_at_call 27
      with_reducible refine (HT.out _).mono ?_
      rintro e u1 ⟨rfl, hb⟩
      have L1 := Lib.hid (HB.out.trans ((undrew hb).mono HB.out.size))
      have s1 := KA.out _ _ (undrew hb) hs
      refine hK.out _ _ s1 ?_
      intro hHeld
      clear hK K
      try simp only [Act.put, List.setIfInBounds_toArray, List.set_cons_zero, List.set_cons_succ]
      refine wpAnyH_ready (rs := [12]) (by kernel_rfl) (by simp) ?_
      refine AllReadyH.cons (o := { dst := some 17, op := Op.call { callee := Callee.value (Operand.func 26), args := #[Operand.tmp 8, Operand.tmp 16], argTypes := #[52, 52] }, type := 4, pos := "relay.go:56", after := #[{ on := 3, ground := Ground.data }, { on := 11, ground := Ground.data }, { on := 11, ground := Ground.chain }, { on := 2, ground := Ground.guard }], guard := some (2, false) }) rfl (fun K hK => ?_) AllReadyH.nil
      go_simp
      go_at_call 26
      with_reducible refine (HW.out _).mono ?_
      rintro e u2 ⟨rfl, hb2⟩
      have L2 := Lib.hid (L1.out.trans (hb2.mono L1.out.size))
      have s2 := KA.out _ _ hb2 s1
      refine hK.out _ _ s2 ?_
      intro hHeld
      clear hK K
      try simp only [Act.put, List.setIfInBounds_toArray, List.set_cons_zero, List.set_cons_succ]
      refine wpAnyH_take (i := 13) (oi := { dst := some 18, op := Op.unOp UnOp.not 4 (Operand.tmp 17), type := 4, pos := "relay.go:56", after := #[{ on := 12, ground := Ground.data }, { on := 2, ground := Ground.guard }], guard := some (2, false) }) (v := ?_) rfl (by kernel_rfl) (by kernel_rfl) (by kernel_rfl) (fun _ _ _ h => h) (Or.inl ⟨by rfl, ?_⟩) (by assumption) ?_
      rotate_left
      · (intro w hSw; (try dsimp only at hSw); go_simp; try with_reducible rfl)
      simp only [Act.put, List.setIfInBounds_toArray, List.set_cons_zero, List.set_cons_succ]
      refine wpAnyH_take (i := 14) (oi := { dst := some 19, op := Op.pick (Operand.tmp 7) (Operand.const (Value.bool true)) (Operand.tmp 18), type := 4, pos := "relay.go:56", after := #[{ on := 2, ground := Ground.data }, { on := 13, ground := Ground.data }], guard := none }) (v := ?_) rfl (by kernel_rfl) (by kernel_rfl) (by kernel_rfl) (fun _ _ _ h => h) (Or.inl ⟨by rfl, ?_⟩) (by assumption) ?_
      rotate_left
      · (intro w hSw; (try dsimp only at hSw); go_simp; try with_reducible rfl)
      simp only [Act.put, List.setIfInBounds_toArray, List.set_cons_zero, List.set_cons_succ]
      refine wpAnyH_done (by kernel_rfl) ?_ _
      obtain ⟨yq, -, k0, -, fz, -⟩ := HC.out _ L2.out
      go_wp2
      go_ret
      exact ⟨rfl, HS.out _ L2.out⟩
end
end Go.Proofs.Ytkdjhphakopfeaa.Relay
