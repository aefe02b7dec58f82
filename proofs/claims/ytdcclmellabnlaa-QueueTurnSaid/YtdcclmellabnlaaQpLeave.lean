/-
  The program's leave, head, Take, Expire and Put, of any queue of up to 16 items, and of none.
-/
import Derived.Test.YtdcclmellabnlaaQpDelete
namespace Go.Proofs.Ytdcclmellabnlaa.Queue
open Go.RowKit
open _root_.Go.Proofs.Ytdcclmellabnlaa.Codec (lt_of_heap frozen_of heap_set below_new own_below)
open _root_.Go.Proofs.Ytdcclmellabnlaa.Kit (Enc Lies Own At Kept Laid Off cell_on lt_heap take_snoc below_drewN box5 ints own_keep own_lt cells)
open _root_.Go.Proofs.Ytdcclmellabnlaa.Ledger (spot spot_at spot_none spot_cases)

theorem filter_none_id {l : List It} {id : Int} (h : ∀ x ∈ l, x.id ≠ id) : l.filter (isId id) = [] ∧ l.filter (fun x => !isId id x) = l := by
  refine ⟨List.filter_eq_nil_iff.2 fun x hx => by simp [isId, h x hx], List.filter_eq_self.2 fun x hx => by simp [isId, h x hx]⟩
theorem place_cons (x : It) (l : List It) (id : Int) : place (x :: l) id = if x.id = id then 0 else if place l id < 0 then -1 else place l id + 1 := by
  unfold place
  rw [spot]
  by_cases h : x.id = id <;> simp [h]
/-- What goes by its name. -/
theorem take_filter {id : Int} : ∀ {l : List It}, (l.Pairwise fun a b => a.id ≠ b.id) → (take l id).1 = l.filter (fun x => !isId id x) ∧ (take l id).2 = head (l.filter (isId id))
  | [], _ => ⟨rfl, rfl⟩
  | x :: l, h => by
    obtain ⟨h1, h2⟩ := List.pairwise_cons.1 h
    obtain ⟨i1, i2⟩ := take_filter h2
    by_cases hx : x.id = id
    · have hp : place (x :: l) id = 0 := by rw [place_cons, if_pos hx]
      obtain ⟨f1, f2⟩ := filter_none_id (l := l) (id := id) (fun y hy => by have := h1 y hy; omega)
      unfold take
      rw [if_neg (by omega)]
      have e : (the (x :: l) id) = x := by unfold the; rw [hp]; rfl
      rw [e, hp]
      simp only [List.filter_cons, isId, hx, beq_self_eq_true, if_true, Bool.not_true, Bool.false_eq_true, if_false]
      exact ⟨f2.symm, rfl⟩
    · have hb : isId id x = false := by simp [isId, hx]
      simp only [List.filter_cons, hb, Bool.false_eq_true, if_false, Bool.not_false, if_true]
      unfold take at i1 i2 ⊢
      have hp := place_cons x l id
      rw [if_neg hx] at hp
      by_cases hl : place l id < 0
      · rw [if_pos hl] at hp i1 i2
        rw [if_pos (by omega)]
        exact ⟨congrArg (x :: ·) i1, i2⟩
      · rw [if_neg hl] at hp i1 i2
        rw [if_neg (by omega)]
        have ht : (place (x :: l) id).toNat = (place l id).toNat + 1 := by omega
        have e : the (x :: l) id = the l id := by unfold the; rw [ht]; rfl
        rw [e, ht, List.eraseIdx_cons_succ]
        exact ⟨congrArg (x :: ·) i1, i2⟩
set_option maxRecDepth 100000 in
set_option maxHeartbeats 2000000 in
theorem head_any {l : List It} {p : Option Addr} {d : Nat} {w : World} (h : Lies item w p l) :
    Calls Try.prog 35 #[.slice p l.length d] w fun e w' => e = .returned (.tuple #[val (head l).1, .bool (head l).2]) ∧ Below w.heap.size w w' := by
  have hb := lay w (.cells #[.int .i64 0, .int .i64 0, .int .i64 0, .int .i64 0, .int .i64 0] 35)
  have K := heap_alloc_new w (.cells #[.int .i64 0, .int .i64 0, .int .i64 0, .int .i64 0, .int .i64 0] 35)
  cases l with
  | nil =>
    go_enter Try.func35, Try.ntmps35
    go_wp2
    refine bodyPost_ret (v := .tuple #[val z, .bool false]) (by simp [results, Try.results35, go_sem, val, z]) rfl ⟨rfl, lay _ _⟩
  | cons x l =>
    obtain ⟨b, o, rfl, ha⟩ := lies_at (h.below hb) (show 0 < (x :: l).length by simp)
    obtain ⟨k0, k1, k2, k3, k4⟩ := at5 ha
    simp only [List.getD_cons_zero, Nat.zero_mul, Nat.add_zero] at k0 k1 k2 k3 k4
    simp only [head]
    have hne : (((x :: l).length : Int) == 0) = false := by simp only [List.length_cons, beq_eq_false_iff_ne]; omega
    have hpos : (0 : Int) < ((x :: l).length : Int) := by simp
    generalize (x :: l).length = n at *
    obtain ⟨xi, xk, xc, xs, xt⟩ := x
    simp only [val] at *
    clear h ha
    go_enter Try.func35, Try.ntmps35
    go_wp2
    refine bodyPost_ret (v := .tuple #[val ⟨xi, xk, xc, xs, xt⟩, .bool true]) (by simp [results, Try.results35, go_sem, val]) rfl ⟨rfl, lay _ _⟩
set_option maxRecDepth 100000 in
set_option maxHeartbeats 4000000 in
theorem leave_any {F : Nat → Prop} {B q : Nat} {w : World} {room : Int} {l : List It} {y : Value} (h : Pqy F B w q room l y) (hB : B ≤ w.heap.size) (hl : l.length ≤ 16) {c g0 : Nat} {id : Int} {f : It → Bool} (eg : Ent g0) (hg : Gives c id g0 f) (hc : w.cell? ⟨c, 0, none⟩ = some (.int .i64 id)) (hcy : y.ownBlock ≠ some c) :
    Calls Try.prog 38 #[.pointer (some ⟨q, 0, none⟩), fnv g0 c] w fun e w' => ∃ p d, e = .returned (.slice p (l.filter f).length d) ∧ Lies item w' p (l.filter f) ∧ Moved Pq F B w q room (l.filter fun x => !f x) w' := by
  obtain ⟨p, d, rfl, c1, hlies, -, -⟩ := h.cell
  have HH := Lib.hid h
  have hp := picked_any eg hg (d := d) hlies (by omega) hc
  have HD := Lib.hid (fun (u : World) (hu : Below w.heap.size w u) => delete_any eg hg (h.own.on hu) (by omega) (cell_on hc hu) hcy)
  have HLT := Lib.hid (fun b (e : (Value.slice p l.length d).ownBlock = some b) => own_lt h.own e)
  clear h hg hc hcy hlies
  generalize l.filter f = R1 at *
  generalize (l.filter fun x => !f x) = R2 at *
  have hqlt := HH.out.lt
  go_enter Try.func38, Try.ntmps38
  go_wp2_with (first
    | (go_at_call 28; (with_reducible refine hp.mono ?_); rintro e u1 ⟨y0, rfl, ho, hb⟩; have HO := Lib.hid ho; have HB1 := Lib.hid hb; have c2 := cell_on c1 hb; clear ho hb hp c1)
    | (go_at_call 50; (with_reducible refine (HD.out _ HB1.out).mono ?_); rintro e u2 ⟨y', rfl, ho2, hown, hg2⟩; obtain ⟨p2, d2, rfl, -, -⟩ := own_slice ho2; obtain ⟨f0, c3, D⟩ := (HH.out.below HB1.out).turn (Nat.le_trans hB HB1.out.size) hg2 ho2 (fun g e => .inl (hown ▸ e)); have HO2 := Lib.hid (Own.set (b := q) (o := 1) (u := .slice p2 R2.length d2) (own_keep HO.out (fun b e => hg2.block b (own_lt HO.out e) (fun e2 => Nat.lt_irrefl b (Nat.lt_of_lt_of_le (HLT.out b e2.symm) (World.ownsRow.lt HO.out b e).1)))) hqlt); clear c2 HD ho2 hown hg2))
  have HM := Lib.hid (D.out.lift hB HB1.out)
  obtain ⟨p0, d0, rfl, hl0, -⟩ := own_slice HO2.out
  have HL0 := Lib.hid hl0
  clear hl0
  go_ret
  exact ⟨_, _, rfl, HL0.out, HM.out⟩
set_option maxRecDepth 100000 in
set_option maxHeartbeats 1000000 in
theorem nleave_any (fv : Value) (w : World) : Calls Try.prog 38 #[.pointer none, fv] w fun e w' => e = .returned (.slice none 0 0) ∧ Below w.heap.size w w' := by
  go_enter Try.func38, Try.ntmps38
  go_wp2
  go_ret
  exact ⟨rfl, Below.refl _ _⟩
/-- An item is stored into a box that is none of the queue's. -/
theorem moved_set5 {F G : Nat → Prop} {B q g : Nat} {w u u' : World} {room : Int} {l : List It} (h : Moved Pq G B u q room l u') (hB : B ≤ w.heap.size) (hb : Below w.heap.size w u) (hF : ∀ k, F k → G k) (hF2 : ∀ k, F k → k < w.heap.size) (hx : G g) (hg : w.heap.size ≤ g) (x : It) : Moved Pq F B w q room l (set5 u' g x) := by
  obtain ⟨y, hy⟩ := h.pw
  have hbel : Below B w (set5 u' g x) := set5_below ((hb.mono hB).trans h.below) (by omega) x
  refine ⟨⟨y, hy.ge, fun e => hy.nf (hF _ e), (set5_off x (show q ≠ g by rintro rfl; exact hy.nf hx)).trans hy.blk, own_keep hy.own (fun b e => set5_off x (show b ≠ g by rintro rfl; exact hy.nfy _ e hx)), fun k e e2 => hy.nfy k e (hF _ e2), fun k e => Nat.lt_of_lt_of_le (hF2 k e) hbel.size⟩, ⟨hbel.size, fun k cs t z e ht => ?_⟩, hbel, fun k e hk => ?_⟩
  · have hk := lt_heap e
    exact (set5_off x (by omega)).trans (h.off.block k cs t z ((hb.block k hk).trans e) ht)
  · exact (set5_off x (by omega)).trans ((h.rest k (hF k e) (Nat.lt_of_lt_of_le hk hb.size)).trans (hb.block k hk))
theorem Pqy.box {F : Nat → Prop} {B q : Nat} {w : World} {room : Int} {l : List It} {y : Value} (h : Pqy F B w q room l y) (o : Obj) : Pqy (fun g => F g ∨ g = w.heap.size) B (w.alloc o) q room l y :=
  (h.grow (lay w o)).sub (fun g hg => hg.elim .inl (fun e => .inr (by subst e; simp)))
set_option maxRecDepth 100000 in
set_option maxHeartbeats 2000000 in
theorem ptake_any {F : Nat → Prop} {B q : Nat} {w : World} {room : Int} {l : List It} (h : Pq F B w q room l) (hB : B ≤ w.heap.size) (hg : Good room l) (hl : l.length ≤ 16) (id : Int) :
    Calls Try.prog 20 #[.pointer (some ⟨q, 0, none⟩), .int .i64 id] w fun e w' => e = .returned (.tuple #[val (take l id).2.1, .bool (take l id).2.2]) ∧ Moved Pq F B w q room (take l id).1 w' := by
  obtain ⟨y, hy⟩ := h
  obtain ⟨e1, e2⟩ := take_filter (id := id) hg.names
  rw [e1, e2]
  have HZ := Lib.hid (lay w (.cells #[.int .i64 0, .int .i64 0, .int .i64 0, .int .i64 0, .int .i64 0] 35))
  have KZ := Lib.hid (heap_alloc_new w (.cells #[.int .i64 0, .int .i64 0, .int .i64 0, .int .i64 0, .int .i64 0] 35))
  have hn := named_any id (w.alloc (.cells #[.int .i64 0, .int .i64 0, .int .i64 0, .int .i64 0, .int .i64 0] 35))
  have hyz := hy.box (.cells #[.int .i64 0, .int .i64 0, .int .i64 0, .int .i64 0, .int .i64 0] 35)
  have HLV := Lib.hid (fun (u : World) (hu : Below (w.alloc (.cells #[.int .i64 0, .int .i64 0, .int .i64 0, .int .i64 0, .int .i64 0] 35)).heap.size (w.alloc (.cells #[.int .i64 0, .int .i64 0, .int .i64 0, .int .i64 0, .int .i64 0] 35)) u) (hc : u.cell? ⟨w.heap.size + 1, 0, none⟩ = some (.int .i64 id)) => leave_any (hyz.below hu) (Nat.le_trans (Nat.le_trans hB HZ.out.size) hu.size) hl ent_named (gives_named (w.heap.size + 1) id) hc (fun e => by have := own_lt hy.own e; omega))
  have HFL := Lib.hid hy.fl
  have HBB := Lib.hid hB
  clear hy e1 e2 hyz
  generalize l.filter (isId id) = R1 at *
  generalize (l.filter fun x => !isId id x) = R2 at *
  have HH := Lib.hid (fun (u : World) (p : Option Addr) (d : Nat) (hp : Lies item u p R1) => head_any (d := d) hp)
  generalize head R1 = hd at *
  obtain ⟨⟨xi, xk, xc, xs, xt⟩, ok⟩ := hd
  simp only [val] at *
  go_enter Try.func20, Try.ntmps20
  go_wp2_with (first
    | (go_at_call 39; (with_reducible refine hn.mono ?_); rintro e u1 ⟨rfl, hc, hb⟩; have HB1 := Lib.hid hb; have HC := Lib.hid (show u1.cell? ⟨w.heap.size + 1, 0, none⟩ = some (.int .i64 id) from by simpa using hc); have HK1 := Lib.hid ((hb.block _ (lt_heap KZ.out)).trans KZ.out); clear hb hc hn)
    | (go_at_call 38; (with_reducible refine (HLV.out _ HB1.out HC.out).mono ?_); rintro e u2 ⟨p2, d2, rfl, hl2, hm⟩; have HM := Lib.hid hm; have HL2 := Lib.hid hl2; have HK2 := Lib.hid ((hm.rest w.heap.size (.inr rfl) (lt_heap HK1.out)).trans HK1.out); clear hl2 hm HLV)
    | (go_at_call 35; (with_reducible refine (HH.out _ _ _ HL2.out).mono ?_); rintro e u3 ⟨rfl, hb⟩; have HK3 := Lib.hid ((hb.block _ (lt_heap HK2.out)).trans HK2.out); have HM3 := Lib.hid (HM.out.on (Nat.le_trans (Nat.le_trans HBB.out HZ.out.size) HB1.out.size) hb); obtain ⟨b0, b1, b2, b3, b4⟩ := box5 HK3.out; obtain ⟨f0, f1, f2, f3, f4⟩ := Kit.frozen5 HK3.out; clear hb HH))
  rw [show ((((u3.setCell ⟨w.heap.size, 0, none⟩ (.int .i64 xi)).setCell ⟨w.heap.size, 1, none⟩ (.int .i64 xk)).setCell ⟨w.heap.size, 2, none⟩ (.int .i64 xc)).setCell ⟨w.heap.size, 3, none⟩ (.int .i64 xs)).setCell ⟨w.heap.size, 4, none⟩ (.int .i64 xt) = set5 u3 w.heap.size ⟨xi, xk, xc, xs, xt⟩ from rfl]
  obtain ⟨e0, e1, e2, e3, e4⟩ := box5 (set5_block HK3.out ⟨xi, xk, xc, xs, xt⟩)
  have HE := Lib.hid (moved_set5 HM3.out HBB.out (HZ.out.trans (HB1.out.mono HZ.out.size)) (fun k hk => .inl hk) HFL.out (.inr rfl) (Nat.le_refl _) ⟨xi, xk, xc, xs, xt⟩)
  generalize set5 u3 w.heap.size ⟨xi, xk, xc, xs, xt⟩ = u4 at *
  refine bodyPost_ret (v := .tuple #[val ⟨xi, xk, xc, xs, xt⟩, .bool ok]) (by simp [results, Try.results20, go_sem, val, e0, e1, e2, e3, e4]) rfl ⟨rfl, HE.out⟩
set_option maxRecDepth 100000 in
set_option maxHeartbeats 2000000 in
theorem ntake_any (id : Int) (w : World) : Calls Try.prog 20 #[.pointer none, .int .i64 id] w fun e w' => e = .returned (.tuple #[val z, .bool false]) ∧ Below w.heap.size w w' := by
  have HZ := Lib.hid (lay w (.cells #[.int .i64 0, .int .i64 0, .int .i64 0, .int .i64 0, .int .i64 0] 35))
  have KZ := Lib.hid (heap_alloc_new w (.cells #[.int .i64 0, .int .i64 0, .int .i64 0, .int .i64 0, .int .i64 0] 35))
  have hn := named_any id (w.alloc (.cells #[.int .i64 0, .int .i64 0, .int .i64 0, .int .i64 0, .int .i64 0] 35))
  have HLV := Lib.hid nleave_any
  have HH := Lib.hid (fun (u : World) => head_any (l := []) (p := none) (d := 0) (w := u) (.inl rfl))
  simp only [head, val, z, List.length_nil] at *
  go_enter Try.func20, Try.ntmps20
  go_wp2_with (first
    | (go_at_call 39; (with_reducible refine hn.mono ?_); rintro e u1 ⟨rfl, hc, hb⟩; have HB1 := Lib.hid (HZ.out.trans (hb.mono HZ.out.size)); have HK1 := Lib.hid ((hb.block _ (lt_heap KZ.out)).trans KZ.out); clear hb hc hn)
    | (go_at_call 38; (with_reducible refine (HLV.out _ _).mono ?_); rintro e u2 ⟨rfl, hb⟩; have HB2 := Lib.hid (HB1.out.trans (hb.mono HB1.out.size)); have HK2 := Lib.hid ((hb.block _ (lt_heap HK1.out)).trans HK1.out); clear hb HLV)
    | (go_at_call 35; (with_reducible refine (HH.out _).mono ?_); rintro e u3 ⟨rfl, hb⟩; have HK3 := Lib.hid ((hb.block _ (lt_heap HK2.out)).trans HK2.out); have HB3 := Lib.hid (HB2.out.trans (hb.mono HB2.out.size)); obtain ⟨b0, b1, b2, b3, b4⟩ := box5 HK3.out; obtain ⟨f0, f1, f2, f3, f4⟩ := Kit.frozen5 HK3.out; clear hb HH))
  rw [show ((((u3.setCell ⟨w.heap.size, 0, none⟩ (.int .i64 0)).setCell ⟨w.heap.size, 1, none⟩ (.int .i64 0)).setCell ⟨w.heap.size, 2, none⟩ (.int .i64 0)).setCell ⟨w.heap.size, 3, none⟩ (.int .i64 0)).setCell ⟨w.heap.size, 4, none⟩ (.int .i64 0) = set5 u3 w.heap.size ⟨0, 0, 0, 0, 0⟩ from rfl]
  obtain ⟨e0, e1, e2, e3, e4⟩ := box5 (set5_block HK3.out ⟨0, 0, 0, 0, 0⟩)
  have HE := Lib.hid (set5_below HB3.out (Nat.le_refl _) ⟨0, 0, 0, 0, 0⟩)
  generalize set5 u3 w.heap.size ⟨0, 0, 0, 0, 0⟩ = u4 at *
  refine bodyPost_ret (v := .tuple #[val z, .bool false]) (by simp [results, Try.results20, go_sem, val, z, e0, e1, e2, e3, e4]) rfl ⟨rfl, HE.out⟩
set_option maxRecDepth 100000 in
set_option maxHeartbeats 2000000 in
theorem pexpire_any {F : Nat → Prop} {B q : Nat} {w : World} {room : Int} {l : List It} (h : Pq F B w q room l) (hB : B ≤ w.heap.size) (hl : l.length ≤ 16) (now : Int) :
    Calls Try.prog 22 #[.pointer (some ⟨q, 0, none⟩), .int .i64 now] w fun e w' => ∃ p c, e = .returned (.slice p (expire l now).2.length c) ∧ Lies item w' p (expire l now).2 ∧ Moved Pq F B w q room (expire l now).1 w' := by
  obtain ⟨y, hy⟩ := h
  rw [show (expire l now).1 = l.filter (fun x => !due now x) from rfl, show (expire l now).2 = l.filter (due now) from rfl]
  have hb := lay w (.cells #[.int .i64 now] 3)
  have hc := cell_of_row _ w.heap.size 0 _ _ (0, 0) (heap_alloc_new w (.cells #[.int .i64 now] 3))
  have HLV := leave_any (hy.below hb) (Nat.le_trans hB hb.size) hl ent_expire (gives_expire w.heap.size now) hc (fun e => by have := own_lt hy.own e; omega)
  have HF := Lib.hid (fun (w' : World) (l' : List It) (hm : Moved Pq F B _ q room l' w') => hm.lift hB hb)
  clear hy hc hb
  generalize l.filter (due now) = R1 at *
  generalize (l.filter fun x => !due now x) = R2 at *
  go_enter Try.func22, Try.ntmps22
  go_wp2_with (go_at_call 38; (with_reducible refine HLV.mono ?_); rintro e u2 ⟨p2, d2, rfl, hl2, hm⟩; have HM := Lib.hid (HF.out _ _ hm); have HL2 := Lib.hid hl2; clear hl2 hm HLV)
  go_ret
  exact ⟨_, _, rfl, HL2.out, HM.out⟩
set_option maxRecDepth 100000 in
set_option maxHeartbeats 2000000 in
theorem nexpire_any (now : Int) (w : World) : Calls Try.prog 22 #[.pointer none, .int .i64 now] w fun e w' => ∃ p c, e = .returned (.slice p 0 c) ∧ Below w.heap.size w w' := by
  have HB := Lib.hid (lay w (.cells #[.int .i64 now] 3))
  have HLV := Lib.hid nleave_any
  go_enter Try.func22, Try.ntmps22
  go_wp2_with (go_at_call 38; (with_reducible refine (HLV.out _ _).mono ?_); rintro e u2 ⟨rfl, hb⟩; have HB2 := Lib.hid (HB.out.trans (hb.mono HB.out.size)); clear hb HLV)
  go_ret
  exact ⟨_, _, rfl, HB2.out⟩
end Go.Proofs.Ytdcclmellabnlaa.Queue
