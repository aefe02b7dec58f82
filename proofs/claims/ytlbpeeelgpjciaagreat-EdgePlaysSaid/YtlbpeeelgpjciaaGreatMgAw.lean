/-
  The program's leave, head, Take, Expire and Put, of any queue of up to 16 items, and of none.
  In turn: what taking the first one of a key, again and again, does to the items; their order, their places. Plain functions, no program.
  The program's serve and Grant, of any edge that is kept well.
  The program's Grant, Close, Drop, Expire, Waiting and Leases, of any edge that is kept well.
-/
import Derived.Deep.RegionHeld3
import Derived.Test.YtlbpeeelgpjciaaGreatMgAv
namespace Go.Proofs.YtlbpeeelgpjciaaGreat.Queue
open Go.RowKit
open _root_.Go.Proofs.YtlbpeeelgpjciaaGreat.Codec (lt_of_heap frozen_of heap_set below_new own_below)
open _root_.Go.Proofs.YtlbpeeelgpjciaaGreat.Kit (Enc Lies Own At Kept Laid Off cell_on lt_heap take_snoc below_drewN box5 ints own_keep own_lt cells)
open _root_.Go.Proofs.YtlbpeeelgpjciaaGreat.Ledger (spot spot_at spot_none spot_cases)

theorem filter_none_id {l : List It} {id : Int} (h : ∀ x ∈ l, x.id ≠ id) : l.filter (isId id) = [] ∧ l.filter (fun x => !isId id x) = l := by
  refine ⟨List.filter_eq_nil_iff.2 fun x hx => by simp [isId, h x hx], List.filter_eq_self.2 fun x hx => by simp [isId, h x hx]⟩
theorem place_cons (x : It) (l : List It) (id : Int) : place (x :: l) id = if x.id = id then 0 else if place l id < 0 then -1 else place l id + 1 := by
  unfold place
  rw [spot]
  by_cases h : x.id = id <;> simp [h]
/-- What goes by its name. -/
theorem take_filter {id : Int} : ∀ {l : List It}, (l.Pairwise fun a b => a.id ≠ b.id) → (take l id).1 = l.filter (fun x => !isId id x) ∧ (take l id).2 = head (l.filter (isId id))
  | [], _ => ⟨rfl, rfl⟩
  | x :: l, h => by
    obtain ⟨h1, h2⟩ := List.pairwise_cons.1 h
    obtain ⟨i1, i2⟩ := take_filter h2
    by_cases hx : x.id = id
    · have hp : place (x :: l) id = 0 := by rw [place_cons, if_pos hx]
      obtain ⟨f1, f2⟩ := filter_none_id (l := l) (id := id) (fun y hy => by have := h1 y hy; omega)
      unfold take
      rw [if_neg (by omega)]
      have e : (the (x :: l) id) = x := by unfold the; rw [hp]; rfl
      rw [e, hp]
      simp only [List.filter_cons, isId, hx, beq_self_eq_true, if_true, Bool.not_true, Bool.false_eq_true, if_false]
      exact ⟨f2.symm, rfl⟩
    · have hb : isId id x = false := by simp [isId, hx]
      simp only [List.filter_cons, hb, Bool.false_eq_true, if_false, Bool.not_false, if_true]
      unfold take at i1 i2 ⊢
      have hp := place_cons x l id
      rw [if_neg hx] at hp
      by_cases hl : place l id < 0
      · rw [if_pos hl] at hp i1 i2
        rw [if_pos (by omega)]
        exact ⟨congrArg (x :: ·) i1, i2⟩
      · rw [if_neg hl] at hp i1 i2
        rw [if_neg (by omega)]
        have ht : (place (x :: l) id).toNat = (place l id).toNat + 1 := by omega
        have e : the (x :: l) id = the l id := by unfold the; rw [ht]; rfl
        rw [e, ht, List.eraseIdx_cons_succ]
        exact ⟨congrArg (x :: ·) i1, i2⟩
set_option maxRecDepth 100000 in
set_option maxHeartbeats 2000000 in
theorem head_any {l : List It} {p : Option Addr} {d : Nat} {w : World} (h : Lies item w p l) :
    Calls Tryz.prog 117 #[.slice p l.length d] w fun e w' => e = .returned (.tuple #[val (head l).1, .bool (head l).2]) ∧ Below w.heap.size w w' := by
  have hb := lay w (.cells #[.int .i64 0, .int .i64 0, .int .i64 0, .int .i64 0, .int .i64 0] 77)
  have K := heap_alloc_new w (.cells #[.int .i64 0, .int .i64 0, .int .i64 0, .int .i64 0, .int .i64 0] 77)
  cases l with
  | nil =>
    go_enter Tryz.func117, Tryz.ntmps117
    go_wp2
    refine bodyPost_ret (v := .tuple #[val z, .bool false]) (by simp [results, Tryz.results117, go_sem, val, z]) rfl ⟨rfl, lay _ _⟩
  | cons x l =>
    obtain ⟨b, o, rfl, ha⟩ := lies_at (h.below hb) (show 0 < (x :: l).length by simp)
    obtain ⟨k0, k1, k2, k3, k4⟩ := at5 ha
    simp only [List.getD_cons_zero, Nat.zero_mul, Nat.add_zero] at k0 k1 k2 k3 k4
    simp only [head]
    have hne : (((x :: l).length : Int) == 0) = false := by simp only [List.length_cons, beq_eq_false_iff_ne]; omega
    have hpos : (0 : Int) < ((x :: l).length : Int) := by simp
    generalize (x :: l).length = n at *
    obtain ⟨xi, xk, xc, xs, xt⟩ := x
    simp only [val] at *
    clear h ha
    go_enter Tryz.func117, Tryz.ntmps117
    go_wp2
    refine bodyPost_ret (v := .tuple #[val ⟨xi, xk, xc, xs, xt⟩, .bool true]) (by simp [results, Tryz.results117, go_sem, val]) rfl ⟨rfl, lay _ _⟩
set_option maxRecDepth 100000 in
set_option maxHeartbeats 4000000 in
theorem leave_any {F : Nat → Prop} {B q : Nat} {w : World} {room : Int} {l : List It} {y : Value} (h : Pqy F B w q room l y) (hB : B ≤ w.heap.size) (hl : l.length ≤ 16) {c g0 : Nat} {id : Int} {f : It → Bool} (eg : Ent g0) (hg : Gives c id g0 f) (hc : w.cell? ⟨c, 0, none⟩ = some (.int .i64 id)) (hcy : y.ownBlock ≠ some c) :
    Calls Tryz.prog 111 #[.pointer (some ⟨q, 0, none⟩), fnv g0 c] w fun e w' => ∃ p d, e = .returned (.slice p (l.filter f).length d) ∧ Lies item w' p (l.filter f) ∧ Moved Pq F B w q room (l.filter fun x => !f x) w' := by
  obtain ⟨p, d, rfl, c1, hlies, -, -⟩ := h.cell
  have HH := Lib.hid h
  have hp := picked_any eg hg (d := d) hlies (by omega) hc
  have HD := Lib.hid (fun (u : World) (hu : Below w.heap.size w u) => delete_any eg hg (h.own.on hu) (by omega) (cell_on hc hu) hcy)
  have HLT := Lib.hid (fun b (e : (Value.slice p l.length d).ownBlock = some b) => own_lt h.own e)
  clear h hg hc hcy hlies
  generalize l.filter f = R1 at *
  generalize (l.filter fun x => !f x) = R2 at *
  have hqlt := HH.out.lt
  go_enter Tryz.func111, Tryz.ntmps111
  go_wp2_with (first
    | (go_at_call 113; (with_reducible refine hp.mono ?_); rintro e u1 ⟨y0, rfl, ho, hb⟩; have HO := Lib.hid ho; have HB1 := Lib.hid hb; have c2 := cell_on c1 hb; clear ho hb hp c1)
    | (go_at_call 153; (with_reducible refine (HD.out _ HB1.out).mono ?_); rintro e u2 ⟨y', rfl, ho2, hown, hg2⟩; obtain ⟨p2, d2, rfl, -, -⟩ := own_slice ho2; obtain ⟨f0, c3, D⟩ := (HH.out.below HB1.out).turn (Nat.le_trans hB HB1.out.size) hg2 ho2 (fun g e => .inl (hown ▸ e)); have HO2 := Lib.hid (Own.set (b := q) (o := 1) (u := .slice p2 R2.length d2) (own_keep HO.out (fun b e => hg2.block b (own_lt HO.out e) (fun e2 => Nat.lt_irrefl b (Nat.lt_of_lt_of_le (HLT.out b e2.symm) (World.ownsRow.lt HO.out b e).1)))) hqlt); clear c2 HD ho2 hown hg2))
  have HM := Lib.hid (D.out.lift hB HB1.out)
  obtain ⟨p0, d0, rfl, hl0, -⟩ := own_slice HO2.out
  have HL0 := Lib.hid hl0
  clear hl0
  go_ret
  exact ⟨_, _, rfl, HL0.out, HM.out⟩
set_option maxRecDepth 100000 in
set_option maxHeartbeats 1000000 in
theorem nleave_any (fv : Value) (w : World) : Calls Tryz.prog 111 #[.pointer none, fv] w fun e w' => e = .returned (.slice none 0 0) ∧ Below w.heap.size w w' := by
  go_enter Tryz.func111, Tryz.ntmps111
  go_wp2
  go_ret
  exact ⟨rfl, Below.refl _ _⟩
/-- An item is stored into a box that is none of the queue's. -/
theorem moved_set5 {F G : Nat → Prop} {B q g : Nat} {w u u' : World} {room : Int} {l : List It} (h : Moved Pq G B u q room l u') (hB : B ≤ w.heap.size) (hb : Below w.heap.size w u) (hF : ∀ k, F k → G k) (hF2 : ∀ k, F k → k < w.heap.size) (hx : G g) (hg : w.heap.size ≤ g) (x : It) : Moved Pq F B w q room l (set5 u' g x) := by
  obtain ⟨y, hy⟩ := h.pw
  have hbel : Below B w (set5 u' g x) := set5_below ((hb.mono hB).trans h.below) (by omega) x
  refine ⟨⟨y, hy.ge, fun e => hy.nf (hF _ e), (set5_off x (show q ≠ g by rintro rfl; exact hy.nf hx)).trans hy.blk, own_keep hy.own (fun b e => set5_off x (show b ≠ g by rintro rfl; exact hy.nfy _ e hx)), fun k e e2 => hy.nfy k e (hF _ e2), fun k e => Nat.lt_of_lt_of_le (hF2 k e) hbel.size⟩, ⟨hbel.size, fun k cs t z e ht => ?_⟩, hbel, fun k e hk => ?_⟩
  · have hk := lt_heap e
    exact (set5_off x (by omega)).trans (h.off.block k cs t z ((hb.block k hk).trans e) ht)
  · exact (set5_off x (by omega)).trans ((h.rest k (hF k e) (Nat.lt_of_lt_of_le hk hb.size)).trans (hb.block k hk))
theorem Pqy.box {F : Nat → Prop} {B q : Nat} {w : World} {room : Int} {l : List It} {y : Value} (h : Pqy F B w q room l y) (o : Obj) : Pqy (fun g => F g ∨ g = w.heap.size) B (w.alloc o) q room l y :=
  (h.grow (lay w o)).sub (fun g hg => hg.elim .inl (fun e => .inr (by subst e; simp)))
set_option maxRecDepth 100000 in
set_option maxHeartbeats 2000000 in
theorem ptake_any {F : Nat → Prop} {B q : Nat} {w : World} {room : Int} {l : List It} (h : Pq F B w q room l) (hB : B ≤ w.heap.size) (hg : Good room l) (hl : l.length ≤ 16) (id : Int) :
    Calls Tryz.prog 58 #[.pointer (some ⟨q, 0, none⟩), .int .i64 id] w fun e w' => e = .returned (.tuple #[val (take l id).2.1, .bool (take l id).2.2]) ∧ Moved Pq F B w q room (take l id).1 w' := by
  obtain ⟨y, hy⟩ := h
  obtain ⟨e1, e2⟩ := take_filter (id := id) hg.names
  rw [e1, e2]
  have HZ := Lib.hid (lay w (.cells #[.int .i64 0, .int .i64 0, .int .i64 0, .int .i64 0, .int .i64 0] 77))
  have KZ := Lib.hid (heap_alloc_new w (.cells #[.int .i64 0, .int .i64 0, .int .i64 0, .int .i64 0, .int .i64 0] 77))
  have hn := named_any id (w.alloc (.cells #[.int .i64 0, .int .i64 0, .int .i64 0, .int .i64 0, .int .i64 0] 77))
  have hyz := hy.box (.cells #[.int .i64 0, .int .i64 0, .int .i64 0, .int .i64 0, .int .i64 0] 77)
  have HLV := Lib.hid (fun (u : World) (hu : Below (w.alloc (.cells #[.int .i64 0, .int .i64 0, .int .i64 0, .int .i64 0, .int .i64 0] 77)).heap.size (w.alloc (.cells #[.int .i64 0, .int .i64 0, .int .i64 0, .int .i64 0, .int .i64 0] 77)) u) (hc : u.cell? ⟨w.heap.size + 1, 0, none⟩ = some (.int .i64 id)) => leave_any (hyz.below hu) (Nat.le_trans (Nat.le_trans hB HZ.out.size) hu.size) hl ent_named (gives_named (w.heap.size + 1) id) hc (fun e => by have := own_lt hy.own e; omega))
  have HFL := Lib.hid hy.fl
  have HBB := Lib.hid hB
  clear hy e1 e2 hyz
  generalize l.filter (isId id) = R1 at *
  generalize (l.filter fun x => !isId id x) = R2 at *
  have HH := Lib.hid (fun (u : World) (p : Option Addr) (d : Nat) (hp : Lies item u p R1) => head_any (d := d) hp)
  generalize head R1 = hd at *
  obtain ⟨⟨xi, xk, xc, xs, xt⟩, ok⟩ := hd
  simp only [val] at *
  go_enter Tryz.func58, Tryz.ntmps58
  go_wp2_with (first
    | (go_at_call 118; (with_reducible refine hn.mono ?_); rintro e u1 ⟨rfl, hc, hb⟩; have HB1 := Lib.hid hb; have HC := Lib.hid (show u1.cell? ⟨w.heap.size + 1, 0, none⟩ = some (.int .i64 id) from by simpa using hc); have HK1 := Lib.hid ((hb.block _ (lt_heap KZ.out)).trans KZ.out); clear hb hc hn)
    | (go_at_call 111; (with_reducible refine (HLV.out _ HB1.out HC.out).mono ?_); rintro e u2 ⟨p2, d2, rfl, hl2, hm⟩; have HM := Lib.hid hm; have HL2 := Lib.hid hl2; have HK2 := Lib.hid ((hm.rest w.heap.size (.inr rfl) (lt_heap HK1.out)).trans HK1.out); clear hl2 hm HLV)
    | (go_at_call 117; (with_reducible refine (HH.out _ _ _ HL2.out).mono ?_); rintro e u3 ⟨rfl, hb⟩; have HK3 := Lib.hid ((hb.block _ (lt_heap HK2.out)).trans HK2.out); have HM3 := Lib.hid (HM.out.on (Nat.le_trans (Nat.le_trans HBB.out HZ.out.size) HB1.out.size) hb); obtain ⟨b0, b1, b2, b3, b4⟩ := box5 HK3.out; obtain ⟨f0, f1, f2, f3, f4⟩ := Kit.frozen5 HK3.out; clear hb HH))
  rw [show ((((u3.setCell ⟨w.heap.size, 0, none⟩ (.int .i64 xi)).setCell ⟨w.heap.size, 1, none⟩ (.int .i64 xk)).setCell ⟨w.heap.size, 2, none⟩ (.int .i64 xc)).setCell ⟨w.heap.size, 3, none⟩ (.int .i64 xs)).setCell ⟨w.heap.size, 4, none⟩ (.int .i64 xt) = set5 u3 w.heap.size ⟨xi, xk, xc, xs, xt⟩ from rfl]
  obtain ⟨e0, e1, e2, e3, e4⟩ := box5 (set5_block HK3.out ⟨xi, xk, xc, xs, xt⟩)
  have HE := Lib.hid (moved_set5 HM3.out HBB.out (HZ.out.trans (HB1.out.mono HZ.out.size)) (fun k hk => .inl hk) HFL.out (.inr rfl) (Nat.le_refl _) ⟨xi, xk, xc, xs, xt⟩)
  generalize set5 u3 w.heap.size ⟨xi, xk, xc, xs, xt⟩ = u4 at *
  refine bodyPost_ret (v := .tuple #[val ⟨xi, xk, xc, xs, xt⟩, .bool ok]) (by simp [results, Tryz.results58, go_sem, val, e0, e1, e2, e3, e4]) rfl ⟨rfl, HE.out⟩
set_option maxRecDepth 100000 in
set_option maxHeartbeats 2000000 in
theorem ntake_any (id : Int) (w : World) : Calls Tryz.prog 58 #[.pointer none, .int .i64 id] w fun e w' => e = .returned (.tuple #[val z, .bool false]) ∧ Below w.heap.size w w' := by
  have HZ := Lib.hid (lay w (.cells #[.int .i64 0, .int .i64 0, .int .i64 0, .int .i64 0, .int .i64 0] 77))
  have KZ := Lib.hid (heap_alloc_new w (.cells #[.int .i64 0, .int .i64 0, .int .i64 0, .int .i64 0, .int .i64 0] 77))
  have hn := named_any id (w.alloc (.cells #[.int .i64 0, .int .i64 0, .int .i64 0, .int .i64 0, .int .i64 0] 77))
  have HLV := Lib.hid nleave_any
  have HH := Lib.hid (fun (u : World) => head_any (l := []) (p := none) (d := 0) (w := u) (.inl rfl))
  simp only [head, val, z, List.length_nil] at *
  go_enter Tryz.func58, Tryz.ntmps58
  go_wp2_with (first
    | (go_at_call 118; (with_reducible refine hn.mono ?_); rintro e u1 ⟨rfl, hc, hb⟩; have HB1 := Lib.hid (HZ.out.trans (hb.mono HZ.out.size)); have HK1 := Lib.hid ((hb.block _ (lt_heap KZ.out)).trans KZ.out); clear hb hc hn)
    | (go_at_call 111; (with_reducible refine (HLV.out _ _).mono ?_); rintro e u2 ⟨rfl, hb⟩; have HB2 := Lib.hid (HB1.out.trans (hb.mono HB1.out.size)); have HK2 := Lib.hid ((hb.block _ (lt_heap HK1.out)).trans HK1.out); clear hb HLV)
    | (go_at_call 117; (with_reducible refine (HH.out _).mono ?_); rintro e u3 ⟨rfl, hb⟩; have HK3 := Lib.hid ((hb.block _ (lt_heap HK2.out)).trans HK2.out); have HB3 := Lib.hid (HB2.out.trans (hb.mono HB2.out.size)); obtain ⟨b0, b1, b2, b3, b4⟩ := box5 HK3.out; obtain ⟨f0, f1, f2, f3, f4⟩ := Kit.frozen5 HK3.out; clear hb HH))
  rw [show ((((u3.setCell ⟨w.heap.size, 0, none⟩ (.int .i64 0)).setCell ⟨w.heap.size, 1, none⟩ (.int .i64 0)).setCell ⟨w.heap.size, 2, none⟩ (.int .i64 0)).setCell ⟨w.heap.size, 3, none⟩ (.int .i64 0)).setCell ⟨w.heap.size, 4, none⟩ (.int .i64 0) = set5 u3 w.heap.size ⟨0, 0, 0, 0, 0⟩ from rfl]
  obtain ⟨e0, e1, e2, e3, e4⟩ := box5 (set5_block HK3.out ⟨0, 0, 0, 0, 0⟩)
  have HE := Lib.hid (set5_below HB3.out (Nat.le_refl _) ⟨0, 0, 0, 0, 0⟩)
  generalize set5 u3 w.heap.size ⟨0, 0, 0, 0, 0⟩ = u4 at *
  refine bodyPost_ret (v := .tuple #[val z, .bool false]) (by simp [results, Tryz.results58, go_sem, val, z, e0, e1, e2, e3, e4]) rfl ⟨rfl, HE.out⟩
set_option maxRecDepth 100000 in
set_option maxHeartbeats 2000000 in
theorem pexpire_any {F : Nat → Prop} {B q : Nat} {w : World} {room : Int} {l : List It} (h : Pq F B w q room l) (hB : B ≤ w.heap.size) (hl : l.length ≤ 16) (now : Int) :
    Calls Tryz.prog 56 #[.pointer (some ⟨q, 0, none⟩), .int .i64 now] w fun e w' => ∃ p c, e = .returned (.slice p (expire l now).2.length c) ∧ Lies item w' p (expire l now).2 ∧ Moved Pq F B w q room (expire l now).1 w' := by
  obtain ⟨y, hy⟩ := h
  rw [show (expire l now).1 = l.filter (fun x => !due now x) from rfl, show (expire l now).2 = l.filter (due now) from rfl]
  have hb := lay w (.cells #[.int .i64 now] 3)
  have hc := cell_of_row _ w.heap.size 0 _ _ (0, 0) (heap_alloc_new w (.cells #[.int .i64 now] 3))
  have HLV := leave_any (hy.below hb) (Nat.le_trans hB hb.size) hl ent_expire (gives_expire w.heap.size now) hc (fun e => by have := own_lt hy.own e; omega)
  have HF := Lib.hid (fun (w' : World) (l' : List It) (hm : Moved Pq F B _ q room l' w') => hm.lift hB hb)
  clear hy hc hb
  generalize l.filter (due now) = R1 at *
  generalize (l.filter fun x => !due now x) = R2 at *
  go_enter Tryz.func56, Tryz.ntmps56
  go_wp2_with (go_at_call 111; (with_reducible refine HLV.mono ?_); rintro e u2 ⟨p2, d2, rfl, hl2, hm⟩; have HM := Lib.hid (HF.out _ _ hm); have HL2 := Lib.hid hl2; clear hl2 hm HLV)
  go_ret
  exact ⟨_, _, rfl, HL2.out, HM.out⟩
set_option maxRecDepth 100000 in
set_option maxHeartbeats 2000000 in
theorem nexpire_any (now : Int) (w : World) : Calls Tryz.prog 56 #[.pointer none, .int .i64 now] w fun e w' => ∃ p c, e = .returned (.slice p 0 c) ∧ Below w.heap.size w w' := by
  have HB := Lib.hid (lay w (.cells #[.int .i64 now] 3))
  have HLV := Lib.hid nleave_any
  go_enter Tryz.func56, Tryz.ntmps56
  go_wp2_with (go_at_call 111; (with_reducible refine (HLV.out _ _).mono ?_); rintro e u2 ⟨rfl, hb⟩; have HB2 := Lib.hid (HB.out.trans (hb.mono HB.out.size)); clear hb HLV)
  go_ret
  exact ⟨_, _, rfl, HB2.out⟩
end Go.Proofs.YtlbpeeelgpjciaaGreat.Queue

namespace Go.Proofs.YtlbpeeelgpjciaaGreat.Queue

def other (k : Int) (x : It) : Bool := !(x.key == k)
theorem uniq {l : List It} (h : l.Pairwise fun a b => a.id ≠ b.id) : ∀ {a b : It}, a ∈ l → b ∈ l → a.id = b.id → a = b := by
  induction l with
  | nil => intro a b ha; cases ha
  | cons x t ih =>
    intro a b ha hb e
    obtain ⟨h1, h2⟩ := List.pairwise_cons.1 h
    rcases List.mem_cons.1 ha with rfl | ha'
    · rcases List.mem_cons.1 hb with rfl | hb'
      · rfl
      · exact absurd e (h1 b hb')
    · rcases List.mem_cons.1 hb with rfl | hb'
      · exact absurd e.symm (h1 a ha')
      · exact ih h2 ha' hb' e
theorem mem_ofc {l : List It} {k c : Int} {x : It} : x ∈ ofc l k c ↔ x ∈ l ∧ x.key = k ∧ x.cls = c := by
  simp [ofc, isOf]
theorem mem_of {l : List It} {k : Int} {x : It} (h : x ∈ of l k) : x ∈ l ∧ x.key = k := by
  simp only [of, List.mem_append, mem_ofc] at h
  rcases h with (h | h) | h <;> exact ⟨h.1, h.2.1⟩
theorem of_mem {room : Int} {l : List It} (hg : Good room l) {k : Int} {x : It} (hx : x ∈ l) (hk : x.key = k) : x ∈ of l k := by
  have hw := (hg.each x hx).1
  have hc : x.cls = 0 ∨ x.cls = 1 ∨ x.cls = 2 := by unfold wrong at hw; omega
  simp only [of, List.mem_append, mem_ofc]
  rcases hc with h | h | h <;> simp [hx, hk, h]
theorem filter_comm (p q : It → Bool) (l : List It) : (l.filter p).filter q = (l.filter q).filter p := by
  rw [List.filter_filter, List.filter_filter]
  exact List.filter_congr fun x _ => Bool.and_comm _ _
theorem of_filter (p : It → Bool) (l : List It) (k : Int) : of (l.filter p) k = (of l k).filter p := by
  simp only [of, ofc, List.filter_append]
  rw [filter_comm p, filter_comm p, filter_comm p]
theorem take_mem {l : List It} (hn : l.Pairwise fun a b => a.id ≠ b.id) {x : It} (hx : x ∈ l) : take l x.id = (l.filter (fun y => !isId x.id y), x, true) ∧ (l.filter fun y => !isId x.id y).length + 1 = l.length := by
  have hp : 0 ≤ place l x.id := by
    apply Int.not_lt.1
    intro h
    exact place_none h x hx rfl
  obtain ⟨h1, h2, h3⟩ := place_some hp
  have e := (take_filter (id := x.id) hn).1
  unfold take at e ⊢
  rw [if_neg (by omega)] at e ⊢
  simp only at e
  refine ⟨by rw [e, uniq hn h3 hx h2], ?_⟩
  rw [← e, List.length_eraseIdx, if_pos h1]
  omega
/-- The first one of a key is taken. -/
theorem turn_one {room : Int} {l t : List It} (hg : Good room l) {k : Int} {x : It} (h : of l k = x :: t) :
    x.key = k ∧ x ∈ l ∧ take l x.id = (l.filter (fun y => !isId x.id y), x, true) ∧ of (l.filter fun y => !isId x.id y) k = t ∧ (l.filter fun y => !isId x.id y).filter (other k) = l.filter (other k) ∧ (l.filter fun y => !isId x.id y).length + 1 = l.length ∧ Good room (l.filter fun y => !isId x.id y) := by
  obtain ⟨hx, hk⟩ := mem_of (l := l) (k := k) (x := x) (by rw [h]; exact List.mem_cons_self)
  obtain ⟨h1, h2⟩ := take_mem hg.names hx
  refine ⟨hk, hx, h1, ?_, ?_, h2, good_sub hg List.filter_sublist⟩
  · have hn : (of l k).Pairwise fun a b => a.id ≠ b.id := by
      have hs : ∀ c, (ofc l k c).Pairwise fun a b => a.id ≠ b.id := fun c => hg.names.sublist List.filter_sublist
      have hd : ∀ c d, c ≠ d → ∀ a ∈ ofc l k c, ∀ b ∈ ofc l k d, a.id ≠ b.id := fun c d hcd a ha b hb e => by
        rw [mem_ofc] at ha hb
        have := uniq hg.names ha.1 hb.1 e
        rw [this] at ha
        exact hcd (ha.2.2.symm.trans hb.2.2)
      unfold of
      rw [List.pairwise_append, List.pairwise_append]
      refine ⟨⟨hs 0, hs 1, hd 0 1 (by decide)⟩, hs 2, fun a ha b hb => ?_⟩
      rcases List.mem_append.1 ha with ha | ha
      · exact hd 0 2 (by decide) a ha b hb
      · exact hd 1 2 (by decide) a ha b hb
    rw [of_filter, h]
    rw [h] at hn
    obtain ⟨n1, -⟩ := List.pairwise_cons.1 hn
    rw [List.filter_cons]
    simp only [isId, beq_self_eq_true, Bool.not_true, Bool.false_eq_true, if_false]
    exact List.filter_eq_self.2 fun y hy => by
      have := n1 y hy
      simp only [Bool.not_eq_true', beq_eq_false_iff_ne]
      exact fun e => this e.symm
  · rw [filter_comm]
    exact List.filter_eq_self.2 fun y hy => by
      obtain ⟨hy1, hy2⟩ := List.mem_filter.1 hy
      simp only [isId, Bool.not_eq_true', beq_eq_false_iff_ne]
      intro e
      rw [uniq hg.names hy1 hx e] at hy2
      simp [other, hk] at hy2
/-- Where none of the key is left, all are others'. -/
theorem of_none {room : Int} {l : List It} (hg : Good room l) {k : Int} (h : of l k = []) : l.filter (other k) = l :=
  List.filter_eq_self.2 fun y hy => by
    simp only [other, Bool.not_eq_true', beq_eq_false_iff_ne]
    intro e
    have := of_mem hg hy e
    rw [h] at this
    cases this
theorem place_nonneg {l : List It} {x : It} (hx : x ∈ l) : 0 ≤ place l x.id := by
  apply Int.not_lt.1
  intro h
  exact place_none h x hx rfl
theorem place_lt {l : List It} (hn : l.Pairwise fun a b => a.id ≠ b.id) : l.Pairwise fun a b => place l a.id < place l b.id := by
  induction l with
  | nil => exact .nil
  | cons x t ih =>
    obtain ⟨h1, h2⟩ := List.pairwise_cons.1 hn
    have hp : ∀ y ∈ t, place (x :: t) y.id = place t y.id + 1 := fun y hy => by
      rw [place_cons, if_neg (h1 y hy)]
      have := place_nonneg hy
      split <;> omega
    refine List.pairwise_cons.2 ⟨fun y hy => ?_, ?_⟩
    · have := place_nonneg hy
      rw [hp y hy, place_cons, if_pos rfl]
      omega
    · exact (ih h2).imp_of_mem fun {a b} ha hb h => by
        rw [hp a ha, hp b hb]
        omega
/-- By classes, and within a class as they came. -/
theorem of_sorted {room : Int} {l : List It} (hg : Good room l) (k : Int) : (of l k).Pairwise fun a b => a.cls < b.cls ∨ a.cls = b.cls ∧ place l a.id < place l b.id := by
  have hs : ∀ c, (ofc l k c).Pairwise fun a b => a.cls < b.cls ∨ a.cls = b.cls ∧ place l a.id < place l b.id := fun c =>
    ((place_lt hg.names).sublist (l₁ := ofc l k c) List.filter_sublist).imp_of_mem fun {a b} ha hb h => .inr ⟨by rw [(mem_ofc.1 ha).2.2, (mem_ofc.1 hb).2.2], h⟩
  have hd : ∀ c d : Int, c < d → ∀ a ∈ ofc l k c, ∀ b ∈ ofc l k d, a.cls < b.cls ∨ a.cls = b.cls ∧ place l a.id < place l b.id := fun c d hcd a ha b hb =>
    .inl (by rw [(mem_ofc.1 ha).2.2, (mem_ofc.1 hb).2.2]; exact hcd)
  unfold of
  rw [List.pairwise_append, List.pairwise_append]
  refine ⟨⟨hs 0, hs 1, hd 0 1 (by decide)⟩, hs 2, fun a ha b hb => ?_⟩
  rcases List.mem_append.1 ha with ha | ha
  · exact hd 0 2 (by decide) a ha b hb
  · exact hd 1 2 (by decide) a ha b hb
theorem sorted_at {room : Int} {l : List It} (hg : Good room l) (k : Int) {i : Nat} (hi : i + 1 < (of l k).length) :
    ((of l k).getD i z).cls < ((of l k).getD (i + 1) z).cls ∨ ((of l k).getD i z).cls = ((of l k).getD (i + 1) z).cls ∧ place l ((of l k).getD i z).id < place l ((of l k).getD (i + 1) z).id := by
  have h := List.pairwise_iff_getElem.1 (of_sorted hg k) i (i + 1) (by omega) hi (by omega)
  have e1 : (of l k).getD i z = (of l k)[i] := by simp [List.getD, show i < (of l k).length by omega]
  have e2 : (of l k).getD (i + 1) z = (of l k)[i + 1] := by simp [List.getD, hi]
  rw [e1, e2]
  exact h
theorem others_at (k : Int) : ∀ (l : List It) (j : Nat), j < l.length → other k (l.getD j z) = true →
    ((l.take j).filter (other k)).length < (l.filter (other k)).length ∧ (l.filter (other k)).getD ((l.take j).filter (other k)).length z = l.getD j z
  | [], j, h, _ => by simp at h
  | x :: l, 0, _, h => by
    have h' : other k x = true := by simpa using h
    simp [h']
  | x :: l, j + 1, hj, h => by
    have ih := others_at k l j (by simpa using hj) (by simpa [List.getD] using h)
    by_cases hx : other k x = true
    · simp only [List.take_succ_cons, List.filter_cons, hx, if_true, List.length_cons, List.getD_cons_succ]
      exact ⟨by omega, ih.2⟩
    · simp only [List.take_succ_cons, List.filter_cons, hx, Bool.false_eq_true, if_false, List.getD_cons_succ]
      exact ih
theorem others_take (k : Int) {l : List It} {j : Nat} (hj : j < l.length) : ((l.take (j + 1)).filter (other k)).length = ((l.take j).filter (other k)).length + (if other k (l.getD j z) = true then 1 else 0) := by
  rw [Kit.take_snoc z hj, List.filter_append, List.length_append]
  simp only [List.filter_cons, List.filter_nil]
  split <;> simp
theorem head_drop (l : List It) {j : Nat} (hj : j ≤ l.length) : head (l.drop j) = (l.getD j z, decide (j < l.length)) := by
  by_cases h : j < l.length
  · rw [List.drop_eq_getElem_cons h]
    simp [head, List.getD, h]
  · have : j = l.length := by omega
    subst this
    simp [head, List.getD]
end Go.Proofs.YtlbpeeelgpjciaaGreat.Queue

namespace Go.Proofs.YtlbpeeelgpjciaaGreat.Edge
open Go.RowKit
open _root_.Go.Proofs.YtlbpeeelgpjciaaGreat.Codec (lt_of_heap frozen_of heap_set below_new)
open _root_.Go.Proofs.YtlbpeeelgpjciaaGreat.Kit (Enc Lies At Kept Laid Off cell_on lt_heap take_snoc below_drewN own_keep box5)
open _root_.Go.Proofs.YtlbpeeelgpjciaaGreat.Lease (Lz Num spend)
open _root_.Go.Proofs.YtlbpeeelgpjciaaGreat.Queue (It take)
open _root_.Go.Proofs.YtlbpeeelgpjciaaGreat.Demand (Nt)

/-- What is left of a key, when its first ones are served. -/
theorem served {c : Cf} (key now : Int) : ∀ (m t : List It) (e : Eg), Good c e → Queue.of e.Q key = m ++ t → (serves key now m e).2.length = m.length → Queue.of (serves key now m e).1.Q key = t
  | [], t, e, _, h, _ => by simpa [serves] using h
  | x :: m, t, e, hg, h, hl => by
    obtain ⟨-, -, h1, h2, -, -, -⟩ := Queue.turn_one hg.q (show Queue.of e.Q key = x :: (m ++ t) from h)
    simp only [serves] at hl ⊢
    split at hl
    · rename_i hs
      rw [if_pos hs]
      refine served key now m t _ (good_take (good_spend hg key x.cost now) x.id) ?_ (by simpa using hl)
      show Queue.of (take e.Q x.id).1 key = m ++ t
      rw [h1]
      exact h2
    · simp at hl
section
variable {R : Nat → Prop} {B q qw qq qd : Nat} {w w' u u' : World} {y : Value} {c : Cf} {e e' e2 : Eg}
/-- Rows of answers that are newer than the first world turn. -/
theorem Moves.push (m : Moves R B w q y qw qq qd c e' u) (hB : B ≤ w.heap.size) (k : Kept [79] u u') (b : Below w.heap.size u u') : Moves R B w q y qw qq qd c e' u' :=
  ⟨m.inn.kept ⟨k.size, fun g o e ht => k.obj g o e fun cs t z e2 h => ht cs t z e2 (by simp at h; simp [h])⟩,
    ⟨Nat.le_trans m.off.size k.size, fun g cs t z e ht => (b.block g (lt_of_heap e)).trans (m.off.block g cs t z e ht)⟩, m.below.trans (b.mono hB),
    fun g cs z hr hg => k.block g _ _ _ (m.rest g cs z hr hg) (by decide), ⟨Nat.le_trans m.off2.size k.size, fun g cs t z e ht => k.block g _ _ _ (m.off2.block g cs t z e ht) (by rintro h; simp only [List.mem_singleton] at h; subst h; simp [theirs] at ht)⟩⟩
def slen : Value → Nat
  | .slice _ n _ => n
  | _ => 0
/-- A box of an item's stays. -/
theorem Moves.box (m : Moves R B w q y qw qq qd c e' w') {g : Nat} (hr : R g) {x : It} (hg : w.heap[g]? = some (.cells #[.int .i64 x.id, .int .i64 x.key, .int .i64 x.cost, .int .i64 x.cls, .int .i64 x.til] 77 (0, 0))) :
    w'.heap[g]? = some (.cells #[.int .i64 x.id, .int .i64 x.key, .int .i64 x.cost, .int .i64 x.cls, .int .i64 x.til] 77 (0, 0)) := m.rest g _ _ hr hg
theorem Moves.sub {F : Nat → Prop} (h : Moves R B w q y qw qq qd c e' w') (hF : ∀ g, F g → R g) : Moves F B w q y qw qq qd c e' w' := ⟨h.inn.sub hF, h.off, h.below, fun g cs z hr hg => h.rest g cs z (hF g hr) hg, h.off2⟩
/-- Behind a new box, which is none of the queue's. -/
theorem box_in (h : In R B w q y qw qq qd c e) (x : It) : In (fun k => k = w.heap.size) B (w.alloc (.cells #[.int .i64 x.id, .int .i64 x.key, .int .i64 x.cost, .int .i64 x.cls, .int .i64 x.til] 77)) q y qw qq qd c e :=
  (h.grow (lay w _)).sub fun g hg => .inr (by subst hg; simp)
set_option maxRecDepth 100000 in
set_option maxHeartbeats 8000000 in
theorem pserve_any (P : Queue.Way12 Queue.Pq) (h : In (fun _ => False) B w q y qw qq qd c e) (hB : B ≤ w.heap.size) (hg : Good c e) (hf : e.L.length ≤ 150 ∧ e.Q.length ≤ 16) {key now : Int} (hk : Num key) :
    Calls Tryz.prog 48 #[.pointer (some ⟨q, 0, none⟩), .int .i64 key, .int .i64 now] w fun e' w' => ∃ v, e' = .returned v ∧ Says w' v (serve e key now).2 ∧ Moves (fun _ => False) B w q y qw qq qd c (serve e key now).1 w' := by
  have HBB := Lib.hid hB
  have HV := Lib.hid h
  have hlen := Queue.of_len e.Q key
  have hlq := hf.2
  have SV := Lib.hid (show serve e key now = serves key now (Queue.of e.Q key) e from rfl)
  have OF := Lib.hid (fun (j : Nat) (hj : (serves key now ((Queue.of e.Q key).take j) e).2.length = ((Queue.of e.Q key).take j).length) => served key now ((Queue.of e.Q key).take j) ((Queue.of e.Q key).drop j) e hg (List.take_append_drop j _).symm hj)
  have HQ0 := Lib.hid (fun x (hx : x ∈ Queue.of e.Q key) => (hg.q.each x (Queue.mem_of hx).1).2)
  generalize serve e key now = R at *
  generalize Queue.of e.Q key = l at *
  have S0 := Lib.hid (show serves key now (l.take 0) e = (e, []) from rfl)
  have SS := Lib.hid (fun (j : Nat) (hj : j < l.length) => show serves key now (l.take (j + 1)) e = _ from by rw [take_snoc Queue.z hj, serves_snoc])
  have ST := Lib.hid (fun (j : Nat) (hj : j < l.length) (hs : (serves key now (l.take (j + 1)) e).2.length < (l.take (j + 1)).length) => show serves key now l e = serves key now (l.take (j + 1)) e from by
    have := serves_stop key now (l.take (j + 1)) (l.drop (j + 1)) e hs
    rwa [List.take_append_drop] at this)
  have SL := Lib.hid (show serves key now l e = serves key now (l.take l.length) e by rw [List.take_length])
  have SG := Lib.hid (fun j => good_serves key now (l.take j) hg)
  have SF := Lib.hid (fun j => len_serves key now (l.take j) e)
  have HD := Lib.hid (fun j (hj : j ≤ l.length) => Queue.head_drop l hj)
  have HF := Lib.hid hf
  have HQN := Lib.hid HQ0.out
  generalize hsv : (fun j => serves key now (l.take j) e) = SE
  have hsv' : ∀ j, serves key now (l.take j) e = SE j := fun j => by rw [← hsv]
  simp only [hsv'] at S0 SS ST SL SG SF OF
  clear h hg hf hB hsv hsv'
  go_enter Tryz.func48, Tryz.ntmps48
  go_wp2
  go_loopw [7] (fun o wr => ∃ (j : Nat) (p : Option Addr) (d : Nat), j ≤ l.length ∧ o = .slice p j d ∧ Hid (Kit.Own ans 79 w.heap.size wr o (SE j).2) ∧ Hid ((SE j).2.length = j) ∧ Hid (Moves (fun _ => False) B w q y qw qq qd c (SE j).1 wr)) (fun o _ => l.length - slen o)
  case atStart => exact ⟨0, none, 0, by omega, rfl, by rw [S0.out]; exact Lib.hid (Kit.Own.none _ _ _ _), by rw [S0.out]; exact Lib.hid rfl, by rw [S0.out]; exact Lib.hid (Moves.same HV.out HBB.out (Below.refl _ _))⟩
  case round =>
    obtain ⟨j, p, d, hj, rfl, hown, hn, hst⟩ := hrel
    have hgd := SG.out j
    obtain ⟨f1, f2, f3⟩ := SF.out j
    have hfl : (SE j).1.L.length ≤ 150 := by have := HF.out.1; omega
    have hfq : (SE j).1.Q.length ≤ 16 := by have := HF.out.2; omega
    have k10 := hst.out.inn.sees.k10
    have hBwr := Lib.hid (Nat.le_trans HBB.out hst.out.off.size)
    have c1 := P.first hst.out.inn.qu hgd.q hfq key hk
    rw [OF.out j (by rw [hn.out, List.length_take]; omega), HD.out j hj] at c1
    have HI1 := Lib.hid (fun u (hu : Below wr.heap.size wr u) => hst.out.on HBB.out hu)
    have HIB := Lib.hid (fun u (x : It) (hu : Below wr.heap.size wr u) => box_in (hst.out.on HBB.out hu).inn x)
    have hgd' := Lib.hid hgd
    have hfl' := Lib.hid hfl
    have HTK := Lib.hid (fun v (g : Nat) (L : List Lz) (id : Int) (hi : Queue.Num id) (hv : In (fun k => k = g) B v q y qw qq qd c ⟨L, (SE j).1.Q, (SE j).1.D⟩) (hb : B ≤ v.heap.size) => etake P hv hb hgd.q hfq id hi)
    have HNM := Lib.hid (fun hjl : j < l.length => (HQN.out _ (List.getElem_mem hjl)).1)
    by_cases hlt : j < l.length
    · have HID := Lib.hid (show Queue.Num (l.getD j Queue.z).id by have := HNM.out hlt; simpa [List.getD, hlt] using this)
      have HSS := Lib.hid (SS.out j hlt)
      have HST := Lib.hid (ST.out j hlt)
      rw [if_pos (by rw [hn.out, List.length_take]; omega)] at HSS
      rw [decide_eq_true hlt] at c1
      have HLT := Lib.hid (show (l.take (j + 1)).length = j + 1 by simp; omega)
      clear SS ST SG SF hfq f1 f2 f3 HF S0 SL HD OF HNM HQN P
      generalize l.getD j Queue.z = x at *
      have HIBx := Lib.hid (fun u => HIB.out u x)
      have HBX := Lib.hid (fun u : World => heap_alloc_new u (.cells #[.int .i64 x.id, .int .i64 x.key, .int .i64 x.cost, .int .i64 x.cls, .int .i64 x.til] 77))
      have HMB := Lib.hid (fun u (e' : Eg) (w' : World) (m : Moves (fun k => k = u.heap.size) B (u.alloc (.cells #[.int .i64 x.id, .int .i64 x.key, .int .i64 x.cost, .int .i64 x.cls, .int .i64 x.til] 77)) q y qw qq qd c e' w') => box5 (m.box (x := x) rfl (HBX.out u)))
      clear HIB
      obtain ⟨xi, xk, xc, xs, xt⟩ := x
      simp only [Queue.val] at *
      have hsn := fun h => spend_no (L := (SE j).1.L) (k := key) (x := xc) (now := now) h
      generalize hse : SE j = S at *
      obtain ⟨⟨L, Q, D⟩, told⟩ := S
      simp only at *
      generalize hsp : spend L key xc now = SP at *
      obtain ⟨L', gen, ok⟩ := SP
      simp only at *
      go_wp2_with (first
        | (go_at_call 99; (with_reducible refine c1.mono ?_); rintro e1 w1 ⟨rfl, hb⟩; have HB1 := Lib.hid hb; clear hb c1))
      have HI2 := Lib.hid (HIBx.out _ HB1.out)
      have HM2 := Lib.hid (HI1.out _ (HB1.out.trans ((lay w1 (.cells #[.int .i64 xi, .int .i64 xk, .int .i64 xc, .int .i64 xs, .int .i64 xt] 77)).mono HB1.out.size)))
      have HK2 := Lib.hid (HBX.out w1)
      have HZ2 := Lib.hid (Nat.le_trans hBwr.out (Nat.le_trans HB1.out.size (lay w1 (.cells #[.int .i64 xi, .int .i64 xk, .int .i64 xc, .int .i64 xs, .int .i64 xt] 77)).size))
      have HO2 := Lib.hid (hown.out.on (HB1.out.trans ((lay w1 (.cells #[.int .i64 xi, .int .i64 xk, .int .i64 xc, .int .i64 xs, .int .i64 xt] 77)).mono HB1.out.size)))
      clear HB1 HIBx HBX HMB HI1 k10 hst hown
      generalize w1.heap.size = g at *
      generalize w1.alloc (.cells #[.int .i64 xi, .int .i64 xk, .int .i64 xc, .int .i64 xs, .int .i64 xt] 77) = w2 at *
      have HI2D := Lib.hid (HI2.out.below (Below.refl _ w2).drew)
      have HSP2 := espend HI2D.out (Nat.le_trans HZ2.out (Below.refl w2.heap.size w2).drew.size) hgd'.out.l hfl'.out (cost := xc) (now := now) hk
      have hM2D := Lib.hid (HM2.out.on HBB.out (Below.refl _ w2).drew)
      have hO2D := Lib.hid (HO2.out.on (Below.refl _ w2).drew)
      have s0 := HI2.out.sees.k0
      have s2 := (box5 HK2.out).2.2.1
      simp only [hsp] at HSP2
      have HTKx := Lib.hid (fun v (L : List Lz) hv hb => HTK.out v g L xi HID.out hv hb)
      clear HTK
      cases ok
      · have HR := Lib.hid (show R = (⟨L, Q, D⟩, told) by
          have e1 := HSS.out
          rw [if_neg (by simp)] at e1
          rw [SV.out, HST.out (by rw [e1, HLT.out]; simp only; have := hn.out; omega), e1])
        obtain rfl := hsn rfl
        clear HSS HST SV hsn hse HTKx
        go_wp2
        go_region_held3 (fun u => u.cell? ⟨q, 0, none⟩ = some (.pointer (some ⟨qw, 0, none⟩)) ∧ u.cell? ⟨g, 2, none⟩ = some (.int .i64 xc)) (first | assumption | exact ⟨s0, s2⟩) (first
          | (go_at_call 100; (with_reducible refine HSP2.mono ?_); rintro e1 w3 ⟨rfl, h3⟩; have H3 := Lib.hid h3; have y3 : _ ∧ _ := ⟨h3.inn.sees.k0, (box5 (h3.box (x := ⟨xi, xk, xc, xs, xt⟩) rfl HK2.out)).2.2.1⟩; clear h3 HSP2))
        go_wp2
        refine bodyPost_ret (v := .slice p j d) (by simp [results, Tryz.results48, go_sem]) rfl ?_
        refine ⟨_, rfl, ?_, ?_⟩
        · rw [HR.out]
          have := says_own (Kit.Own.off hO2D.out H3.out.off (by simp [mine]))
          exact this
        · rw [HR.out]
          exact hM2D.out.trans (H3.out.sub fun _ h => h.elim)
      · have HE := Lib.hid (show SE (j + 1) = (⟨L', (take Q xi).1, D⟩, told ++ [⟨xi, gen, 0⟩]) by have e1 := HSS.out; rwa [if_pos (by simp)] at e1)
        clear HSS HST SV hsn hse HLT
        go_wp2
        go_region_held3 (fun u => u.cell? ⟨q, 0, none⟩ = some (.pointer (some ⟨qw, 0, none⟩)) ∧ u.cell? ⟨g, 2, none⟩ = some (.int .i64 xc)) (first | assumption | exact ⟨s0, s2⟩) (first
          | (go_at_call 100; (with_reducible refine HSP2.mono ?_); rintro e1 w3 ⟨rfl, h3⟩; have H3 := Lib.hid h3; have y3 : _ ∧ _ := ⟨h3.inn.sees.k0, (box5 (h3.box (x := ⟨xi, xk, xc, xs, xt⟩) rfl HK2.out)).2.2.1⟩; clear h3 HSP2))
        clear y3 s0 s2
        have HK3 := Lib.hid (H3.out.box (x := ⟨xi, xk, xc, xs, xt⟩) rfl HK2.out)
        have s10 := H3.out.inn.sees.k10
        have s1 := (box5 HK3.out).1
        have hB3 := Lib.hid (Nat.le_trans HZ2.out (Nat.le_trans (Below.refl w2.heap.size w2).drew.size H3.out.off.size))
        have HI3D := Lib.hid (H3.out.inn.below (Below.refl _ w3).drew)
        have c3 := HTKx.out _ L' HI3D.out (Nat.le_trans hB3.out (Below.refl w3.heap.size w3).drew.size)
        have hM3D := Lib.hid ((hM2D.out.trans (H3.out.sub fun _ h => h.elim)).on HBB.out (Below.refl _ w3).drew)
        have hO3D := Lib.hid ((Kit.Own.off hO2D.out H3.out.off (by simp [mine])).on (Below.refl _ w3).drew)
        clear HTKx HI2D HI2 HM2 HO2 hM2D hO2D
        go_wp2
        go_region_held3 (fun u => u.cell? ⟨q, 10, none⟩ = some (.pointer (some ⟨qq, 0, none⟩)) ∧ u.cell? ⟨g, 0, none⟩ = some (.int .i64 xi)) (first | assumption | exact ⟨s10, s1⟩) (first
          | (go_at_call 58; (with_reducible refine c3.mono ?_); rintro e1 w4 ⟨rfl, h4⟩; have H4 := Lib.hid h4; have y4 : _ ∧ _ := ⟨h4.inn.sees.k10, (box5 (h4.box (x := ⟨xi, xk, xc, xs, xt⟩) rfl HK3.out)).1⟩; clear h4 c3))
        clear s10 s1
        obtain ⟨-, s1⟩ := y4
        have hM4 := Lib.hid (hM3D.out.trans (H4.out.sub fun _ h => h.elim))
        have hO4 := Lib.hid (Kit.Own.off hO3D.out H4.out.off (by simp [mine]))
        clear HI3D hM3D hO3D H3 H4 HK3 HK2
        have c5 := granted_any xi gen w4
        simp only [aval] at c5
        go_wp2_with (first
          | (go_at_call 45; (with_reducible refine c5.mono ?_); rintro e1 w5 ⟨rfl, hb⟩; have hM5 := Lib.hid (hM4.out.on HBB.out hb); have hO5 := Lib.hid (hO4.out.on hb); clear hb c5)
          | (at_builtin; refine push_at laidA rfl _ _ rfl w.heap.size w5 (.slice p j d) rfl told j hn.out hO5.out hM5.out.off.size (lay _ _) w5.heap.size ⟨xi, gen, 0⟩ rfl (heap_alloc_new _ _) (by omega) ?_; intro p6 c6 w6 R6 K6 B6))
        go_roundw
        case rel => exact ⟨j + 1, p6, c6, by omega, rfl, by rw [HE.out]; exact R6, by rw [HE.out]; exact Lib.hid (by simp [hn.out]), by rw [HE.out]; exact Lib.hid ((hM5.out.on HBB.out (lay w5 _)).push HBB.out K6 B6)⟩
        case measure => simp only [slen]; omega
    · obtain rfl : j = l.length := by omega
      have HR := Lib.hid (show R = SE l.length by rw [SV.out, SL.out])
      rw [decide_eq_false hlt] at c1
      have HT := Lib.hid (says_own hown.out)
      clear SS ST SG SF hfl hfq f1 f2 f3 hgd HF S0 SL HD OF HNM HQN HTK HIB hgd' hfl' P
      generalize l.getD l.length Queue.z = x at *
      obtain ⟨xi, xk, xc, xs, xt⟩ := x
      simp only [Queue.val] at *
      go_wp2_with (first
        | (go_at_call 99; (with_reducible refine c1.mono ?_); rintro e1 w1 ⟨rfl, hb⟩; have HB1 := Lib.hid hb; clear hb c1))
      refine bodyPost_ret (v := .slice p l.length d) (by simp [results, Tryz.results48, go_sem]) rfl ?_
      have hbx := HB1.out.trans ((lay w1 (.cells #[.int .i64 xi, .int .i64 xk, .int .i64 xc, .int .i64 xs, .int .i64 xt] 77)).mono HB1.out.size)
      exact ⟨_, rfl, by rw [HR.out]; exact HT.out.below hbx, by rw [HR.out]; exact hst.out.on HBB.out hbx⟩
end
end Go.Proofs.YtlbpeeelgpjciaaGreat.Edge

namespace Go.Proofs.YtlbpeeelgpjciaaGreat.Edge
open Go.RowKit
open _root_.Go.Proofs.YtlbpeeelgpjciaaGreat.Codec (lt_of_heap frozen_of heap_set below_new)
open _root_.Go.Proofs.YtlbpeeelgpjciaaGreat.Kit (Enc Lies At Kept Laid Off cell_on lt_heap take_snoc below_drewN own_keep box5)
open _root_.Go.Proofs.YtlbpeeelgpjciaaGreat.Lease (Lz Num spend)
open _root_.Go.Proofs.YtlbpeeelgpjciaaGreat.Queue (It take)
open _root_.Go.Proofs.YtlbpeeelgpjciaaGreat.Demand (Nt)

section
variable {R : Nat → Prop} {B q qw qq qd : Nat} {w w' u u' : World} {y : Value} {c : Cf} {e e' e2 : Eg}
set_option maxRecDepth 100000 in
set_option maxHeartbeats 4000000 in
theorem pgrant_any (P : Queue.Way12 Queue.Pq) (h : In (fun _ => False) B w q y qw qq qd c e) (hB : B ≤ w.heap.size) (hg : Good c e) (hf : Lens e) (x : Lz) (hx : Lease.Nums x) (now : Int) :
    Calls Tryz.prog 20 #[.pointer (some ⟨q, 0, none⟩), Lease.val x, .int .i64 now] w fun e' w' => ∃ v, e' = .returned v ∧ Says w' v (grant e x now).2 ∧ Moves (fun _ => False) B w q y qw qq qd c (grant e x now).1 w' := by
  have hbx := lay w (.cells #[.int .i64 x.key, .int .i64 x.gen, .int .i64 x.amount, .int .i64 x.spent, .int .i64 x.til] 40)
  have HM1 := Lib.hid (Moves.same h hB hbx)
  have HM1D := Lib.hid (Moves.same h hB (hbx.trans ((Below.refl _ _).drew.mono hbx.size)))
  have s0 := HM1.out.inn.sees.k0
  have c1 := eput HM1D.out.inn (Nat.le_trans hB hbx.size) hg.l hf.1 x hx
  have c2 := fun u (hs : In (fun _ => False) B u q y qw qq qd c ⟨(Lease.put e.L x).1, e.Q, e.D⟩) (hb : B ≤ u.heap.size) => pserve_any P hs hb (good_put hg hx) ⟨by have := Lease.len_put e.L x; have := hf.1; simp only; omega, hf.2.1⟩ (now := now) hx.1
  have hG : grant e x now = if (Lease.put e.L x).2 = 0 then serve ⟨(Lease.put e.L x).1, e.Q, e.D⟩ x.key now else (e, []) := rfl
  have hno : (Lease.put e.L x).2 ≠ 0 → (Lease.put e.L x).1 = e.L := by
    unfold Lease.put
    split
    · intro _; rfl
    · split
      · intro _; rfl
      · intro h0; exact absurd rfl h0
  have HB := Lib.hid (Nat.le_trans hB hbx.size)
  have HK := Lib.hid (heap_alloc_new w (.cells #[.int .i64 x.key, .int .i64 x.gen, .int .i64 x.amount, .int .i64 x.spent, .int .i64 x.til] 40))
  have HBW := Lib.hid hB
  generalize grant e x now = R at *
  generalize Lease.put e.L x = PU at *
  obtain ⟨L', f⟩ := PU
  obtain ⟨xk, xg, xa, xs, xt⟩ := x
  simp only [Lease.val] at *
  obtain ⟨b0, b1, b2, b3, b4⟩ := box5 HK.out
  clear h hg hf hx P hbx HM1
  by_cases hf : f = 0
  · subst hf
    rw [if_pos rfl] at hG
    subst hG
    clear hno
    go_enter Tryz.func20, Tryz.ntmps20
    go_wp2
    generalize w.alloc (.cells #[.int .i64 xk, .int .i64 xg, .int .i64 xa, .int .i64 xs, .int .i64 xt] 40) = w0 at *
    generalize w.heap.size = g at *
    go_region_held3 (fun u => u.cell? ⟨q, 0, none⟩ = some (.pointer (some ⟨qw, 0, none⟩)) ∧ u.cell? ⟨g, 0, none⟩ = some (.int .i64 xk) ∧ u.cell? ⟨g, 1, none⟩ = some (.int .i64 xg) ∧ u.cell? ⟨g, 2, none⟩ = some (.int .i64 xa) ∧ u.cell? ⟨g, 3, none⟩ = some (.int .i64 xs) ∧ u.cell? ⟨g, 4, none⟩ = some (.int .i64 xt)) (first | assumption | exact ⟨s0, b0, b1, b2, b3, b4⟩) (first
      | (go_at_call 47; (with_reducible refine c1.mono ?_); rintro e1 w1 ⟨rfl, h1⟩; have H1 := Lib.hid h1; have y1 : _ ∧ _ := ⟨h1.inn.sees.k0, box5 (h1.off2.block g _ _ _ HK.out (by simp [theirs]))⟩; clear h1 c1))
    clear s0 b0 b1 b2 b3 b4
    obtain ⟨-, b0, -⟩ := y1
    have hb1 := Lib.hid (Nat.le_trans HB.out (Nat.le_trans (Below.refl w0.heap.size w0).drew.size H1.out.off.size))
    go_wp2_with (go_at_call 48; (with_reducible refine (c2 _ H1.out.inn hb1.out).mono ?_); rintro e1 w2 ⟨v, rfl, ht, h2⟩; have H2 := Lib.hid h2; have HT := Lib.hid ht; clear h2 ht c2)
    go_ret
    exact ⟨v, rfl, HT.out, HM1D.out.trans (H1.out.trans H2.out)⟩
  · rw [if_neg hf] at hG
    subst hG
    obtain rfl := hno hf
    have hf2 : (f != 0) = true := by simp [hf]
    clear hno c2
    go_enter Tryz.func20, Tryz.ntmps20
    go_wp2
    generalize w.alloc (.cells #[.int .i64 xk, .int .i64 xg, .int .i64 xa, .int .i64 xs, .int .i64 xt] 40) = w0 at *
    generalize w.heap.size = g at *
    go_region_held3 (fun u => u.cell? ⟨q, 0, none⟩ = some (.pointer (some ⟨qw, 0, none⟩)) ∧ u.cell? ⟨g, 0, none⟩ = some (.int .i64 xk) ∧ u.cell? ⟨g, 1, none⟩ = some (.int .i64 xg) ∧ u.cell? ⟨g, 2, none⟩ = some (.int .i64 xa) ∧ u.cell? ⟨g, 3, none⟩ = some (.int .i64 xs) ∧ u.cell? ⟨g, 4, none⟩ = some (.int .i64 xt)) (first | assumption | exact ⟨s0, b0, b1, b2, b3, b4⟩) (first
      | (go_at_call 47; (with_reducible refine c1.mono ?_); rintro e1 w1 ⟨rfl, h1⟩; have H1 := Lib.hid h1; have y1 : _ ∧ _ := ⟨h1.inn.sees.k0, box5 (h1.off2.block g _ _ _ HK.out (by simp [theirs]))⟩; clear h1 c1))
    clear s0 b0 b1 b2 b3 b4
    go_wp2
    go_ret
    exact ⟨_, rfl, says_none _, HM1D.out.trans H1.out⟩
set_option maxRecDepth 100000 in
set_option maxHeartbeats 4000000 in
theorem pclose_any (h : In R B w q y qw qq qd c e) (hB : B ≤ w.heap.size) (hg : Good c e) (hf : Lens e) {key gen : Int} (hk : Num key) :
    Calls Tryz.prog 25 #[.pointer (some ⟨q, 0, none⟩), .int .i64 key, .int .i64 gen] w fun e' w' => e' = .returned (.int .i64 (close e key gen).2) ∧ Moves R B w q y qw qq qd c (close e key gen).1 w' := by
  have c1 := eclose h hB hg.l (gen := gen) hk
  have c2 := fun u (hs : In R B u q y qw qq qd c ⟨(Lease.close e.L key gen).1, e.Q, e.D⟩) (hb : B ≤ u.heap.size) => enote hs hb (by have := hf.2.2; simp only; omega) (spent := (Lease.close e.L key gen).2) hk
  have hG : close e key gen = (⟨(Lease.close e.L key gen).1, e.Q, if 0 ≤ (Lease.close e.L key gen).2 then e.D ++ [⟨key, (Lease.close e.L key gen).2⟩] else e.D⟩, (Lease.close e.L key gen).2) := rfl
  have HB := Lib.hid hB
  have s0 := h.sees.k0
  generalize close e key gen = RR at *
  generalize Lease.close e.L key gen = P at *
  obtain ⟨L', n⟩ := P
  simp only at *
  clear h hf hg
  by_cases hn : 0 ≤ n
  · rw [if_pos hn] at hG
    subst hG
    generalize Demand.of (e.D ++ [⟨key, n⟩]) key = dv at *
    go_enter Tryz.func25, Tryz.ntmps25
    go_wp2_with (first
      | (go_at_call 59; (with_reducible refine c1.mono ?_); rintro e1 w1 ⟨rfl, h1⟩; have H1 := Lib.hid h1; have s11 := h1.inn.sees.k11; clear h1 c1)
      | (go_at_call 60; (with_reducible refine (c2 _ H1.out.inn (Nat.le_trans HB.out H1.out.off.size)).mono ?_); rintro e1 w2 ⟨rfl, h2⟩; have H2 := Lib.hid h2; clear h2 c2))
    go_ret
    exact ⟨rfl, H1.out.trans H2.out⟩
  · rw [if_neg hn] at hG
    subst hG
    clear c2
    go_enter Tryz.func25, Tryz.ntmps25
    go_wp2_with (go_at_call 59; (with_reducible refine c1.mono ?_); rintro e1 w1 ⟨rfl, h1⟩; have H1 := Lib.hid h1; clear h1 c1)
    go_ret
    exact ⟨rfl, H1.out⟩
set_option maxRecDepth 100000 in
set_option maxHeartbeats 1000000 in
theorem pdrop_any (h : In R B w q y qw qq qd c e) (hB : B ≤ w.heap.size) (hf : Lens e) (gen : Int) :
    Calls Tryz.prog 18 #[.pointer (some ⟨q, 0, none⟩), .int .i64 gen] w fun e' w' => e' = .returned (.tuple #[]) ∧ Moves R B w q y qw qq qd c (drop e gen) w' := by
  have c1 := edrop h hB hf.1 gen
  have s0 := h.sees.k0
  rw [show drop e gen = ⟨(Lease.drop e.L gen).1, e.Q, e.D⟩ from rfl]
  generalize Lease.drop e.L gen = P at *
  obtain ⟨L', n⟩ := P
  simp only at *
  clear h
  go_enter Tryz.func18, Tryz.ntmps18
  go_wp2_with (go_at_call 41; (with_reducible refine c1.mono ?_); rintro e1 w1 ⟨rfl, h1⟩; have H1 := Lib.hid h1; clear h1 c1)
  go_end0
  exact ⟨rfl, H1.out⟩
set_option maxRecDepth 100000 in
set_option maxHeartbeats 1000000 in
theorem pexpire_any (P : Queue.Way12 Queue.Pq) (h : In R B w q y qw qq qd c e) (hB : B ≤ w.heap.size) (hg : Good c e) (hf : Lens e) {now : Int} (hn : Num now) :
    Calls Tryz.prog 22 #[.pointer (some ⟨q, 0, none⟩), .int .i64 now] w fun e' w' => ∃ v, e' = .returned v ∧ Says w' v (expire e now).2 ∧ Moves R B w q y qw qq qd c (expire e now).1 w' := by
  have c1 := eexpire P h hB hg.q hf.2.1 now hn
  have hlen : (Queue.expire e.Q now).2.length ≤ 1000 := Nat.le_trans (List.length_filter_le _ _) (by have := hf.2.1; omega)
  have c2 := fun u p k (hl : Lies Queue.item u p (Queue.expire e.Q now).2) => answered_any (d := k) hl hlen 3
  have s10 := h.sees.k10
  have HB := Lib.hid hB
  have hG : expire e now = (⟨e.L, (Queue.expire e.Q now).1, e.D⟩, all (Queue.expire e.Q now).2 3) := rfl
  rw [hG]
  generalize Queue.expire e.Q now = PP at *
  obtain ⟨Q', G⟩ := PP
  simp only at *
  generalize all G 3 = AA at *
  clear h hG hlen
  go_enter Tryz.func22, Tryz.ntmps22
  go_wp2_with (first
    | (go_at_call 56; (with_reducible refine c1.mono ?_); rintro e1 w1 ⟨p1, k1, rfl, hl, h1⟩; have H1 := Lib.hid h1; have HL1 := Lib.hid hl; clear h1 hl c1)
    | (go_at_call 55; (with_reducible refine (c2 _ _ _ HL1.out).mono ?_); rintro e1 w2 ⟨v, rfl, ht, hb⟩; have HT := Lib.hid ht; have HB2 := Lib.hid hb; clear ht hb c2))
  go_ret
  exact ⟨v, rfl, HT.out, H1.out.on HB.out HB2.out⟩
set_option maxRecDepth 100000 in
set_option maxHeartbeats 1000000 in
theorem pwaiting_any (h : In R B w q y qw qq qd c e) (hf : Lens e) :
    Calls Tryz.prog 13 #[.pointer (some ⟨q, 0, none⟩)] w fun x w' => ∃ p k, x = .returned (.slice p e.Q.length k) ∧ Lies Queue.item w' p e.Q ∧ Typed w' p 77 ∧ Below w.heap.size w w' := by
  have c1 := Queue.pall_any h.qu hf.2.1
  have s10 := h.sees.k10
  clear h hf
  go_enter Tryz.func13, Tryz.ntmps13
  go_wp2_with (go_at_call 38; (with_reducible refine c1.mono ?_); rintro e1 w1 ⟨v, rfl, ho, hb⟩; have HO := Lib.hid ho; have HB1 := Lib.hid hb; clear ho hb c1)
  go_ret
  obtain ⟨p, k, rfl, hl⟩ := HO.out.lies
  refine ⟨p, k, rfl, hl, ?_, HB1.out⟩
  rintro a rfl
  rcases HO.out.2 with ⟨e, -⟩ | ⟨g, cap, cur, e, -, k, -⟩
  · simp at e
  · simp only [Value.slice.injEq, Option.some.injEq] at e
    obtain ⟨rfl, -, -⟩ := e
    exact ⟨_, _, k⟩
end
end Go.Proofs.YtlbpeeelgpjciaaGreat.Edge
