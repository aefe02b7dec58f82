/-
  annonalaw17's step: both elections make the same act.
-/
import Derived.Test.YthehbphpchmdiaaElectAlive
namespace Go.Proofs.Ythehbphpchmdiaa.Elect
open Go.RowKit
open _root_.Go.Proofs.Ythehbphpchmdiaa.Codec (lt_of_heap frozen_of heap_set below_new)
open _root_.Go.Proofs.Ythehbphpchmdiaa.Kit (cell_on lt_heap below_drewN)

set_option maxRecDepth 100000 in
theorem of_any (r : Rs) (w : World) : Calls Try.prog 22 #[rsVal r] w fun y w' => y = .returned (rsVal r) ∧ Below w.heap.size w w' := by
  obtain ⟨a1, a2, a3, a4⟩ := r
  unfold rsVal
  have HB := Lib.hid ((lay w (.cells #[.bool a1, .int .i64 a2, .int .u64 a3, .bool a4] 40)).alloc (lay w (.cells #[.bool a1, .int .i64 a2, .int .u64 a3, .bool a4] 40)).size (.cells #[.bool a1, .int .i64 a2, .int .u64 a3, .bool a4] 62))
  have hz := heap_alloc_new (w.alloc (.cells #[.bool a1, .int .i64 a2, .int .u64 a3, .bool a4] 40)) (.cells #[.bool a1, .int .i64 a2, .int .u64 a3, .bool a4] 62)
  rw [show (w.alloc (.cells #[.bool a1, .int .i64 a2, .int .u64 a3, .bool a4] 40)).heap.size = w.heap.size + 1 by simp] at hz
  have HZ := Lib.hid hz
  clear hz
  go_enter Try.func22, Try.ntmps22
  go_wp2
  generalize (w.alloc _).alloc _ = W at *
  have e0 : W.cell? ⟨w.heap.size + 1, 0, none⟩ = some (.bool a1) := by rw [cell_of_row W _ 0 _ _ (0, 0) HZ.out]; rfl
  have e1 : W.cell? ⟨w.heap.size + 1, 1, none⟩ = some (.int .i64 a2) := by rw [cell_of_row W _ 1 _ _ (0, 0) HZ.out]; rfl
  have e2 : W.cell? ⟨w.heap.size + 1, 2, none⟩ = some (.int .u64 a3) := by rw [cell_of_row W _ 2 _ _ (0, 0) HZ.out]; rfl
  have e3 : W.cell? ⟨w.heap.size + 1, 3, none⟩ = some (.bool a4) := by rw [cell_of_row W _ 3 _ _ (0, 0) HZ.out]; rfl
  refine bodyPost_ret (v := .agg #[.bool a1, .int .i64 a2, .int .u64 a3, .bool a4]) (by simp [results, Try.results22, go_sem, e0, e1, e2, e3]) rfl ⟨rfl, HB.out⟩
/-- Both elections; objects in blocks of the law's. -/
def Est (PW : Pw) (W : World) (q v : Nat) (s t : El) (bs : List (Nat × Obj)) (u : World) : Prop := ∃ F, PW F W.heap.size u q s ∧ F v ∧ Re u v t ∧ W.heap.size ≤ v ∧ Below W.heap.size W u ∧ ∀ x ∈ bs, F x.1 ∧ x.1 ≠ v ∧ u.heap[x.1]? = some x.2
section
variable {PW : Pw} {W u u' : World} {q v : Nat} {s t s' t' : El} {bs : List (Nat × Obj)}
theorem Est.below (h : Est PW W q v s t bs u) : Below W.heap.size W u := by
  obtain ⟨_, _, _, _, _, h, _⟩ := h
  exact h
theorem Est.re (h : Est PW W q v s t bs u) : Re u v t := by
  obtain ⟨_, _, _, h, _⟩ := h
  exact h
theorem Est.obj (h : Est PW W q v s t bs u) {b : Nat} {o : Obj} (hx : (b, o) ∈ bs) : u.heap[b]? = some o := by
  obtain ⟨_, _, _, _, _, _, h⟩ := h
  exact (h _ hx).2.2
theorem Est.less {cs : List (Nat × Obj)} (h : Est PW W q v s t bs u) (hx : ∀ x ∈ cs, x ∈ bs) : Est PW W q v s t cs u := by
  obtain ⟨F, h1, h2, h3, h4, h5, h6⟩ := h
  exact ⟨F, h1, h2, h3, h4, h5, fun x k => h6 x (hx x k)⟩
theorem Est.on (P : Way17 PW) (h : Est PW W q v s t bs u) (hb : Below u.heap.size u u') : Est PW W q v s t bs u' := by
  obtain ⟨F, h1, h2, h3, h4, h5, h6⟩ := h
  exact ⟨F, P.below h1 hb, h2, h3.below hb, h4, h5.trans (hb.mono h5.size), fun x hx => ⟨(h6 x hx).1, (h6 x hx).2.1, (hb.block _ (lt_heap (h6 x hx).2.2)).trans (h6 x hx).2.2⟩⟩
theorem Est.box (P : Way17 PW) (h : Est PW W q v s t bs u) (o : Obj) : Est PW W q v s t ((u.heap.size, o) :: bs) (u.alloc o) := by
  obtain ⟨F, h1, h2, h3, h4, h5, h6⟩ := h
  have hv := h3.lt
  refine ⟨fun g => F g ∨ g = u.heap.size, P.turned h1 (Spare.below (lay u _)) (fun g hg => hg.imp id fun e => by omega), .inl h2, h3.below (lay u _), h4, h5.trans ((lay u _).mono h5.size), fun x hx => ?_⟩
  rcases List.mem_cons.1 hx with rfl | hx
  · exact ⟨.inr rfl, by show u.heap.size ≠ v; omega, heap_alloc_new u _⟩
  · exact ⟨.inl (h6 x hx).1, (h6 x hx).2.1, ((lay u _).block _ (lt_heap (h6 x hx).2.2)).trans (h6 x hx).2.2⟩
theorem Est.ref (P : Way17 PW) (h : Est PW W q v s t bs u) (hr : RStep u v t' u') : Est PW W q v s t' bs u' := by
  obtain ⟨F, h1, h2, h3, h4, h5, h6⟩ := h
  exact ⟨F, P.turned h1 (Spare.one h2 hr.below.size hr.only) (fun _ hg => .inl hg), h2, hr.re, h4, h5.trans (hr.below.mono h4), fun x hx => ⟨(h6 x hx).1, (h6 x hx).2.1, (hr.only _ (h6 x hx).2.1 (lt_heap (h6 x hx).2.2)).trans (h6 x hx).2.2⟩⟩
end
/-- An act. -/
structure Ac where
  kind : Int
  gen : Int
  bits : Int
def AcNum (a : Ac) : Prop := (0 ≤ a.kind ∧ a.kind ≤ 255) ∧ Num a.gen ∧ Set64 a.bits
def actOf (e : El) (a : Ac) : El := if a.kind % 6 = 0 then (stand e).1 else if a.kind % 6 = 5 then (raise e a.gen).1 else (take e a.gen a.bits).1
theorem Good.act {e : El} (h : Good e) {a : Ac} (ha : AcNum a) : Good (actOf e a) := by
  unfold actOf
  split
  · exact h.stand
  · split
    · exact h.raise _
    · exact h.take _ ha.2.2
/-- The contracts over both. -/
theorem est_stand {PW : Pw} (P : Way17 PW) {W u : World} {q v : Nat} {s t : El} {bs : List (Nat × Obj)} (h : Est PW W q v s t bs u) : Calls Try.prog 12 #[.pointer (some ⟨q, 0, none⟩)] u fun y w' => y = .returned (.tuple #[rsVal (stand s).2.1, .int .i64 (stand s).2.2]) ∧ Est PW W q v (stand s).1 t bs w' := by
  obtain ⟨F, h1, h2, h3, h4, h5, h6⟩ := h
  exact (P.stand h1 h5.size).mono fun y w' ⟨he, hm⟩ => ⟨he, F, hm.pw, h2, (hm.rest.same v h2 h3.lt).trans h3, h4, h5.trans hm.below, fun x hx => ⟨(h6 x hx).1, (h6 x hx).2.1, (hm.rest.same _ (h6 x hx).1 (lt_heap (h6 x hx).2.2)).trans (h6 x hx).2.2⟩⟩
theorem est_take {PW : Pw} (P : Way17 PW) {W u : World} {q v : Nat} {s t : El} {bs : List (Nat × Obj)} (h : Est PW W q v s t bs u) (gen x : Int) (hn : Num gen) (hx : Set64 x) : Calls Try.prog 13 #[.pointer (some ⟨q, 0, none⟩), .int .i64 gen, .int .u64 x] u fun y w' => y = .returned (rsVal (take s gen x).2) ∧ Est PW W q v (take s gen x).1 t bs w' := by
  obtain ⟨F, h1, h2, h3, h4, h5, h6⟩ := h
  exact (P.take h1 h5.size gen x hn hx).mono fun y w' ⟨he, hm⟩ => ⟨he, F, hm.pw, h2, (hm.rest.same v h2 h3.lt).trans h3, h4, h5.trans hm.below, fun x hx => ⟨(h6 x hx).1, (h6 x hx).2.1, (hm.rest.same _ (h6 x hx).1 (lt_heap (h6 x hx).2.2)).trans (h6 x hx).2.2⟩⟩
theorem est_raise {PW : Pw} (P : Way17 PW) {W u : World} {q v : Nat} {s t : El} {bs : List (Nat × Obj)} (h : Est PW W q v s t bs u) (gen : Int) (hn : Num gen) : Calls Try.prog 14 #[.pointer (some ⟨q, 0, none⟩), .int .i64 gen] u fun y w' => y = .returned (.bool (raise s gen).2) ∧ Est PW W q v (raise s gen).1 t bs w' := by
  obtain ⟨F, h1, h2, h3, h4, h5, h6⟩ := h
  exact (P.raise h1 h5.size gen hn).mono fun y w' ⟨he, hm⟩ => ⟨he, F, hm.pw, h2, (hm.rest.same v h2 h3.lt).trans h3, h4, h5.trans hm.below, fun x hx => ⟨(h6 x hx).1, (h6 x hx).2.1, (hm.rest.same _ (h6 x hx).1 (lt_heap (h6 x hx).2.2)).trans (h6 x hx).2.2⟩⟩
theorem rs4 {u : World} {b : Nat} {T : TypeId} {r : Rs} (h : u.heap[b]? = some (.cells #[.bool r.send, .int .i64 r.gen, .int .u64 r.bits, .bool r.won] T (0, 0))) : u.cell? ⟨b, 0, none⟩ = some (.bool r.send) ∧ u.cell? ⟨b, 1, none⟩ = some (.int .i64 r.gen) ∧ u.cell? ⟨b, 2, none⟩ = some (.int .u64 r.bits) ∧ u.cell? ⟨b, 3, none⟩ = some (.bool r.won) :=
  ⟨by rw [cell_of_row u b 0 _ _ (0, 0) h]; rfl, by rw [cell_of_row u b 1 _ _ (0, 0) h]; rfl, by rw [cell_of_row u b 2 _ _ (0, 0) h]; rfl, by rw [cell_of_row u b 3 _ _ (0, 0) h]; rfl⟩
theorem act3 {u : World} {b : Nat} {k g x : Int} (h : u.heap[b]? = some (.cells #[.int .u8 k, .int .i64 g, .int .u64 x] 36 (0, 0))) : u.cell? ⟨b, 0, none⟩ = some (.int .u8 k) ∧ u.cell? ⟨b, 1, none⟩ = some (.int .i64 g) ∧ u.cell? ⟨b, 2, none⟩ = some (.int .u64 x) :=
  ⟨by rw [cell_of_row u b 0 _ _ (0, 0) h]; rfl, by rw [cell_of_row u b 1 _ _ (0, 0) h]; rfl, by rw [cell_of_row u b 2 _ _ (0, 0) h]; rfl⟩
set_option maxRecDepth 100000 in
set_option maxHeartbeats 4000000 in
theorem step_raise {PW : Pw} (P : Way17 PW) {W u : World} {q v : Nat} {s : El} (h : Est PW W q v s s [] u) {a : Ac} (ha : AcNum a) (hk : a.kind % 6 = 5) :
    Calls Try.prog 9 #[.pointer (some ⟨q, 0, none⟩), .pointer (some ⟨v, 0, none⟩), .agg #[.int .u8 a.kind, .int .i64 a.gen, .int .u64 a.bits]] u fun y w' => y = .returned (.bool true) ∧ Est PW W q v (actOf s a) (actOf s a) [] w' := by
  have e1 : actOf s a = (raise s a.gen).1 := by unfold actOf; rw [if_neg (by omega), if_pos hk]
  rw [e1]
  obtain ⟨⟨n0, n1⟩, n2, n3⟩ := ha
  have HP := Lib.hid P
  have H0 := Lib.hid (h.box P (.cells #[.int .u8 a.kind, .int .i64 a.gen, .int .u64 a.bits] 36))
  have c1 := Lib.hid (fun w1 bs (h1 : Est PW W q v s s bs w1) => est_raise P h1 a.gen n2)
  have c2 := Lib.hid (fun w1 bs (h1 : Est PW W q v (raise s a.gen).1 s bs w1) => (rraise_any h1.re a.gen).mono (R' := fun y w' => y = .returned (.bool (raise s a.gen).2) ∧ Est PW W q v (raise s a.gen).1 (raise s a.gen).1 bs w') fun y w' ⟨he, hr⟩ => ⟨he, h1.ref P hr⟩)
  obtain ⟨kd, gen, bits⟩ := a
  simp only at *
  generalize (raise s gen).2 = b at *
  generalize (raise s gen).1 = s' at *
  clear h P e1
  have hbb : (b == b) = true := by simp
  go_enter Try.func9, Try.ntmps9
  go_wp2_with (first
    | (go_at_call 14; (with_reducible refine (c1.out _ _ H0.out).mono ?_); rintro y w1 ⟨rfl, h1⟩; have H1 := Lib.hid h1; obtain ⟨k0, k1, k2⟩ := act3 (b := u.heap.size) (k := kd) (g := gen) (x := bits) (h1.obj (by simp)); clear h1 c1 H0)
    | (go_at_call 23; (with_reducible refine (c2.out _ _ H1.out).mono ?_); rintro y w2 ⟨rfl, h1⟩; have H2 := Lib.hid h1; clear h1 c2 H1))
  go_ret
  exact ⟨rfl, H2.out.less (fun x hx => by cases hx)⟩
set_option maxRecDepth 100000 in
set_option maxHeartbeats 4000000 in
theorem step_stand {PW : Pw} (P : Way17 PW) {W u : World} {q v : Nat} {s : El} (h : Est PW W q v s s [] u) (hg : Good s) {a : Ac} (ha : AcNum a) (hk : a.kind % 6 = 0) :
    Calls Try.prog 9 #[.pointer (some ⟨q, 0, none⟩), .pointer (some ⟨v, 0, none⟩), .agg #[.int .u8 a.kind, .int .i64 a.gen, .int .u64 a.bits]] u fun y w' => y = .returned (.bool true) ∧ Est PW W q v (actOf s a) (actOf s a) [] w' := by
  have e1 : actOf s a = (stand s).1 := by unfold actOf; rw [if_pos hk]
  rw [e1]
  obtain ⟨⟨n0, n1⟩, n2, n3⟩ := ha
  have HP := Lib.hid P
  have H0 := Lib.hid (h.box P (.cells #[.int .u8 a.kind, .int .i64 a.gen, .int .u64 a.bits] 36))
  have c1 := Lib.hid (fun w1 bs (h1 : Est PW W q v s s bs w1) => est_stand P h1)
  have c2 := Lib.hid (fun w1 bs (h1 : Est PW W q v (stand s).1 s bs w1) => (rstand_any h1.re hg).mono (R' := fun y w' => y = .returned (.tuple #[rsVal (stand s).2.1, .int .i64 (stand s).2.2]) ∧ Est PW W q v (stand s).1 (stand s).1 bs w') fun y w' ⟨he, hr⟩ => ⟨he, h1.ref P hr⟩)
  have AB := Lib.hid (fun u s' t bs o (h : Est PW W q v s' t bs u) => h.box P o)
  have AO := Lib.hid (fun u u' s' t bs (h : Est PW W q v s' t bs u) (hb : Below u.heap.size u u') => h.on P hb)
  have d1 := fun u => eql4r (stand s).2.1 (stand s).2.1 u
  have d2 := fun u => of_any (stand s).2.1 u
  rw [same4_self] at d1
  obtain ⟨kd, gen, bits⟩ := a
  simp only at *
  generalize (stand s).2.1 = r at *
  generalize (stand s).2.2 = b at *
  generalize (stand s).1 = s' at *
  obtain ⟨r1, r2, r3, r4⟩ := r
  simp only [rsVal] at *
  clear h P e1
  have hbb : (b == b) = true := by simp
  go_enter Try.func9, Try.ntmps9
  go_wp2_with (first
    | (go_at_call 12; (with_reducible refine (c1.out _ _ H0.out).mono ?_); rintro y w1 ⟨rfl, h1⟩; have H1 := Lib.hid (AB.out _ _ _ _ (.cells #[.bool r1, .int .i64 r2, .int .u64 r3, .bool r4] 40) h1); clear h1 c1 H0)
    | (go_at_call 21; (with_reducible refine (c2.out _ _ H1.out).mono ?_); rintro y w2 ⟨rfl, h1⟩; have H2 := Lib.hid (AB.out _ _ _ _ (.cells #[.bool r1, .int .i64 r2, .int .u64 r3, .bool r4] 62) h1); clear h1 c2 H1))
  obtain ⟨p0, p1, p2, p3⟩ := rs4 (b := w1.heap.size) (T := 40) (r := ⟨r1, r2, r3, r4⟩) (H2.out.obj (by simp))
  obtain ⟨q0, q1, q2, q3⟩ := rs4 (b := w2.heap.size) (T := 62) (r := ⟨r1, r2, r3, r4⟩) (H2.out.obj (by simp))
  simp only at p0 p1 p2 p3 q0 q1 q2 q3
  generalize w2.alloc (.cells #[.bool r1, .int .i64 r2, .int .u64 r3, .bool r4] 62) = w3 at *
  go_region_held3 (fun u => u.cell? ⟨w1.heap.size, 0, none⟩ = some (.bool r1) ∧ u.cell? ⟨w1.heap.size, 1, none⟩ = some (.int .i64 r2) ∧ u.cell? ⟨w1.heap.size, 2, none⟩ = some (.int .u64 r3) ∧ u.cell? ⟨w1.heap.size, 3, none⟩ = some (.bool r4) ∧ u.cell? ⟨w2.heap.size, 0, none⟩ = some (.bool r1) ∧ u.cell? ⟨w2.heap.size, 1, none⟩ = some (.int .i64 r2) ∧ u.cell? ⟨w2.heap.size, 2, none⟩ = some (.int .u64 r3) ∧ u.cell? ⟨w2.heap.size, 3, none⟩ = some (.bool r4)) (first | assumption | exact ⟨p0, p1, p2, p3, q0, q1, q2, q3⟩) (first
    | (go_at_call 22; (with_reducible refine (d2 _).mono ?_); rintro y w4 ⟨rfl, hb⟩; have H4 := Lib.hid (AO.out _ _ _ _ _ H2.out (undrewE hb)); have s4 : _ ∧ _ ∧ _ ∧ _ ∧ _ ∧ _ ∧ _ ∧ _ := ⟨cell_on p0 (undrewE hb), cell_on p1 (undrewE hb), cell_on p2 (undrewE hb), cell_on p3 (undrewE hb), cell_on q0 (undrewE hb), cell_on q1 (undrewE hb), cell_on q2 (undrewE hb), cell_on q3 (undrewE hb)⟩; clear hb))
  go_wp2
  go_ret
  exact ⟨rfl, H4.out.less (fun x hx => by cases hx)⟩
set_option maxRecDepth 100000 in
set_option maxHeartbeats 4000000 in
theorem step_take {PW : Pw} (P : Way17 PW) {W u : World} {q v : Nat} {s : El} (h : Est PW W q v s s [] u) (hg : Good s) {a : Ac} (ha : AcNum a) (hk0 : a.kind % 6 ≠ 0) (hk5 : a.kind % 6 ≠ 5) :
    Calls Try.prog 9 #[.pointer (some ⟨q, 0, none⟩), .pointer (some ⟨v, 0, none⟩), .agg #[.int .u8 a.kind, .int .i64 a.gen, .int .u64 a.bits]] u fun y w' => y = .returned (.bool true) ∧ Est PW W q v (actOf s a) (actOf s a) [] w' := by
  have e1 : actOf s a = (take s a.gen a.bits).1 := by unfold actOf; rw [if_neg hk0, if_neg hk5]
  rw [e1]
  obtain ⟨⟨n0, n1⟩, n2, n3⟩ := ha
  have HP := Lib.hid P
  have H0 := Lib.hid (h.box P (.cells #[.int .u8 a.kind, .int .i64 a.gen, .int .u64 a.bits] 36))
  obtain ⟨y0, y1, y2⟩ := act3 (b := u.heap.size) (k := a.kind) (g := a.gen) (x := a.bits) (H0.out.obj (by simp))
  have c1 := Lib.hid (fun w1 bs (h1 : Est PW W q v s s bs w1) => est_take P h1 a.gen a.bits n2 n3)
  have c2 := Lib.hid (fun w1 bs (h1 : Est PW W q v (take s a.gen a.bits).1 s bs w1) => (rtake_any h1.re hg a.gen a.bits n3).mono (R' := fun y w' => y = .returned (rsVal (take s a.gen a.bits).2) ∧ Est PW W q v (take s a.gen a.bits).1 (take s a.gen a.bits).1 bs w') fun y w' ⟨he, hr⟩ => ⟨he, h1.ref P hr⟩)
  have AB := Lib.hid (fun u s' t bs o (h : Est PW W q v s' t bs u) => h.box P o)
  have AO := Lib.hid (fun u u' s' t bs (h : Est PW W q v s' t bs u) (hb : Below u.heap.size u u') => h.on P hb)
  have d1 := fun u => eql4r (take s a.gen a.bits).2 (take s a.gen a.bits).2 u
  have d2 := fun u => of_any (take s a.gen a.bits).2 u
  rw [same4_self] at d1
  obtain ⟨kd, gen, bits⟩ := a
  simp only at *
  have k0 : ¬ (kd % 6 = 0) := hk0
  have k5 : ¬ (kd % 6 = 5) := hk5
  generalize (take s gen bits).2 = r at *
  generalize (take s gen bits).1 = s' at *
  obtain ⟨r1, r2, r3, r4⟩ := r
  simp only [rsVal] at *
  clear h P e1 hk0 hk5
  go_enter Try.func9, Try.ntmps9
  go_wp2_with (first
    | (go_at_call 13; (with_reducible refine (c1.out _ _ H0.out).mono ?_); rintro y w1 ⟨rfl, h1⟩; have H1 := Lib.hid (AB.out _ _ _ _ (.cells #[.bool r1, .int .i64 r2, .int .u64 r3, .bool r4] 40) h1); clear h1 c1 H0))
  obtain ⟨p0, p1, p2, p3⟩ := rs4 (b := w1.heap.size) (T := 40) (r := ⟨r1, r2, r3, r4⟩) (H1.out.obj (by simp))
  obtain ⟨-, z1, z2⟩ := act3 (b := u.heap.size) (k := kd) (g := gen) (x := bits) (H1.out.obj (by simp))
  simp only at p0 p1 p2 p3
  have HO := Lib.hid (fun w5 (h5 : Est PW W q v s' s' [(w1.heap.size, .cells #[.bool r1, .int .i64 r2, .int .u64 r3, .bool r4] 40), (u.heap.size, .cells #[.int .u8 kd, .int .i64 gen, .int .u64 bits] 36)] w5) => And.intro (rs4 (b := w1.heap.size) (T := 40) (r := ⟨r1, r2, r3, r4⟩) (h5.obj (by simp))) (act3 (b := u.heap.size) (k := kd) (g := gen) (x := bits) (h5.obj (by simp))))
  simp only at HO
  clear y0 y1 y2
  generalize w1.alloc (.cells #[.bool r1, .int .i64 r2, .int .u64 r3, .bool r4] 40) = w3 at *
  go_region_held3 (fun u' => u'.cell? ⟨w1.heap.size, 0, none⟩ = some (.bool r1) ∧ u'.cell? ⟨w1.heap.size, 1, none⟩ = some (.int .i64 r2) ∧ u'.cell? ⟨w1.heap.size, 2, none⟩ = some (.int .u64 r3) ∧ u'.cell? ⟨w1.heap.size, 3, none⟩ = some (.bool r4) ∧ u'.cell? ⟨u.heap.size, 1, none⟩ = some (.int .i64 gen) ∧ u'.cell? ⟨u.heap.size, 2, none⟩ = some (.int .u64 bits)) (first | assumption | exact ⟨p0, p1, p2, p3, z1, z2⟩) (first
    | (go_at_call 22; (with_reducible refine (d2 _).mono ?_); rintro y w4 ⟨rfl, hb⟩; have H4 := Lib.hid (AO.out _ _ _ _ _ H1.out (undrewE hb)); have s4 : _ ∧ _ ∧ _ ∧ _ ∧ _ ∧ _ := ⟨cell_on p0 (undrewE hb), cell_on p1 (undrewE hb), cell_on p2 (undrewE hb), cell_on p3 (undrewE hb), cell_on z1 (undrewE hb), cell_on z2 (undrewE hb)⟩; clear hb)
    | (go_at_call 24; (with_reducible refine (c2.out _ _ H4.out).mono ?_); rintro y w5 ⟨rfl, h1⟩; have H5 := Lib.hid h1; have hh := HO.out _ h1; have s5 : _ ∧ _ ∧ _ ∧ _ ∧ _ ∧ _ := ⟨hh.1.1, hh.1.2.1, hh.1.2.2.1, hh.1.2.2.2, hh.2.2.1, hh.2.2.2⟩; clear h1 hh))
  go_wp2
  go_ret
  exact ⟨rfl, H5.out.less (fun x hx => by cases hx)⟩
theorem step_any {PW : Pw} (P : Way17 PW) {W u : World} {q v : Nat} {s : El} (h : Est PW W q v s s [] u) (hg : Good s) {a : Ac} (ha : AcNum a) :
    Calls Try.prog 9 #[.pointer (some ⟨q, 0, none⟩), .pointer (some ⟨v, 0, none⟩), .agg #[.int .u8 a.kind, .int .i64 a.gen, .int .u64 a.bits]] u fun y w' => y = .returned (.bool true) ∧ Est PW W q v (actOf s a) (actOf s a) [] w' := by
  by_cases h0 : a.kind % 6 = 0
  · exact step_stand P h hg ha h0
  · by_cases h5 : a.kind % 6 = 5
    · exact step_raise P h ha h5
    · exact step_take P h hg ha h0 h5
end Go.Proofs.Ythehbphpchmdiaa.Elect
