/-
  An act on both queues (annonalaw12's step), of any act.
-/
import Derived.Test.YtdcclmellabnlaaQueueWay
namespace Go.Proofs.Ytdcclmellabnlaa.Queue
open Go.RowKit
open _root_.Go.Proofs.Ytdcclmellabnlaa.Codec (lt_of_heap frozen_of heap_set below_new own_below)
open _root_.Go.Proofs.Ytdcclmellabnlaa.Kit (Enc Lies Own At Kept Laid Off cell_on lt_heap take_snoc below_drewN box5 ints)

structure Ac where
  kind : Int
  x : It
def za : Ac := ⟨0, z⟩
def actVal (a : Ac) : Value := .agg #[.int .u8 a.kind, .int .i64 a.x.id, .int .i64 a.x.key, .int .i64 a.x.cost, .int .i64 a.x.cls, .int .i64 a.x.til]
def AcNum (a : Ac) : Prop := (0 ≤ a.kind ∧ a.kind ≤ 255) ∧ Nums a.x
/-- What an act makes. -/
def actOf (room : Int) (l : List It) (a : Ac) : List It :=
  if a.kind % 6 = 4 then (take l a.x.id).1 else if a.kind % 6 = 5 then (expire l a.x.til).1 else (put room l a.x).1
theorem good_act {room : Int} {l : List It} (h : Good room l) {a : Ac} (ha : AcNum a) : Good room (actOf room l a) := by
  unfold actOf
  split
  · exact good_take h _
  · split
    · exact good_expire h _
    · exact good_put h ha.2
theorem kinds {k : Int} (_ : 0 ≤ k) : k % 6 = 4 ∨ k % 6 = 5 ∨ (k % 6 = 0 ∨ k % 6 = 1 ∨ k % 6 = 2 ∨ k % 6 = 3) := by omega
theorem box6 {w : World} {b : Nat} {v0 v1 v2 v3 v4 v5 : Value} {T : TypeId} (h : w.heap[b]? = some (.cells #[v0, v1, v2, v3, v4, v5] T (0, 0))) : w.cell? ⟨b, 0, none⟩ = some v0 ∧ w.cell? ⟨b, 1, none⟩ = some v1 ∧ w.cell? ⟨b, 2, none⟩ = some v2 ∧ w.cell? ⟨b, 3, none⟩ = some v3 ∧ w.cell? ⟨b, 4, none⟩ = some v4 ∧ w.cell? ⟨b, 5, none⟩ = some v5 :=
  ⟨by rw [cell_of_row w b 0 _ _ (0, 0) h]; rfl, by rw [cell_of_row w b 1 _ _ (0, 0) h]; rfl, by rw [cell_of_row w b 2 _ _ (0, 0) h]; rfl, by rw [cell_of_row w b 3 _ _ (0, 0) h]; rfl, by rw [cell_of_row w b 4 _ _ (0, 0) h]; rfl, by rw [cell_of_row w b 5 _ _ (0, 0) h]; rfl⟩

/-- Both queues, while acts are done: what is the program's, what is the document's. -/
structure Qst (PW : Pw) (F : Nat → Prop) (W : World) (q v : Nat) (room : Int) (s t : List It) (u : World) : Prop where
  pw : PW F W.heap.size u q room s
  qu : Qu W.heap.size u v room t
  below : Below W.heap.size W u
section
variable {PW : Pw} {F : Nat → Prop} {W u u' : World} {q v : Nat} {room : Int} {s t s' t' : List It}
theorem Qst.on (P : Way12 PW) (h : Qst PW F W q v room s t u) (hb : Below u.heap.size u u') : Qst PW F W q v room s t u' :=
  ⟨P.below h.pw hb, h.qu.below hb, h.below.trans (hb.mono h.below.size)⟩
theorem Qst.own (h : Qst PW F W q v room s t u) (hm : Moved PW F W.heap.size u q room s' u') : Qst PW F W q v room s' t u' :=
  ⟨hm.pw, hm.off |> h.qu.off, h.below.trans hm.below⟩
theorem Qst.ref (P : Way12 PW) (h : Qst PW F W q v room s t u) (hm : Step W.heap.size u v room t' u') : Qst PW F W q v room s t' u' :=
  ⟨P.kept h.pw hm.kept hm.below, hm.qu, h.below.trans hm.below⟩
end
theorem Qst.sub {G : Nat → Prop} {PW : Pw} {F : Nat → Prop} {W u : World} {q v : Nat} {room : Int} {s t : List It} (P : Way12 PW) (h : Qst PW F W q v room s t u) (hg : ∀ g, G g → F g) : Qst PW G W q v room s t u := ⟨P.sub h.pw hg, h.qu, h.below⟩
/-- A new box, that is none of the queue's. -/
theorem Qst.box {PW : Pw} {F : Nat → Prop} {W u : World} {q v : Nat} {room : Int} {s t : List It} (P : Way12 PW) (h : Qst PW F W q v room s t u) (o : Obj) : Qst PW (fun g => F g ∨ g = u.heap.size) W q v room s t (u.alloc o) :=
  ⟨P.sub (P.grow h.pw (lay u o)) (fun g hg => hg.elim .inl (fun e => .inr (by subst e; simp))), h.qu.below (lay u o), h.below.trans ((lay u o).mono h.below.size)⟩
theorem kind_no {k c : Int} (h0 : 0 ≤ k) (h : k % 6 ≠ c) : (k.tmod 6 == c) = false := by
  rw [Int.tmod_eq_emod_of_nonneg h0]; simpa using h
theorem kind_yes {k c : Int} (h0 : 0 ≤ k) (h : k % 6 = c) : (k.tmod 6 == c) = true := by
  rw [Int.tmod_eq_emod_of_nonneg h0]; simpa using h
theorem lies_first {u : World} {p : Option Addr} {i k c s t : Int} (h : Lies item u p [⟨i, k, c, s, t⟩]) : ∃ b o, p = some ⟨b, o, none⟩ ∧ u.cell? ⟨b, o, none⟩ = some (.int .i64 i) ∧ u.cell? ⟨b, o + 1, none⟩ = some (.int .i64 k) ∧ u.cell? ⟨b, o + 2, none⟩ = some (.int .i64 c) ∧ u.cell? ⟨b, o + 3, none⟩ = some (.int .i64 s) ∧ u.cell? ⟨b, o + 4, none⟩ = some (.int .i64 t) := by
  obtain ⟨b, o, rfl, ha⟩ := lies_at h (show 0 < 1 by omega)
  rw [Nat.zero_mul, Nat.add_zero] at ha
  exact ⟨b, o, rfl, at5 ha⟩
/-- Of, of one item that was just laid. -/
theorem of_one (x : It) (u : World) (T : TypeId) : Calls Try.prog 10 #[.slice (some ⟨u.heap.size, 0, none⟩) 1 1] (u.alloc (.cells #[.int .i64 x.id, .int .i64 x.key, .int .i64 x.cost, .int .i64 x.cls, .int .i64 x.til] T)) fun e w' => ∃ q d, e = .returned (.slice q 1 d) ∧ Lies item w' q [x] ∧ Below (u.alloc (.cells #[.int .i64 x.id, .int .i64 x.key, .int .i64 x.cost, .int .i64 x.cls, .int .i64 x.til] T)).heap.size (u.alloc (.cells #[.int .i64 x.id, .int .i64 x.key, .int .i64 x.cost, .int .i64 x.cls, .int .i64 x.til] T)) w' :=
  of_any (l := [x]) (c := 1) (Kit.lies_one (E := item) (x := x) (heap_alloc_new u (.cells #[.int .i64 x.id, .int .i64 x.key, .int .i64 x.cost, .int .i64 x.cls, .int .i64 x.til] T))) (by simp)
theorem of_one_drew (x : It) (u : World) (T : TypeId) : Calls Try.prog 10 #[.slice (some ⟨u.heap.size, 0, none⟩) 1 1] (u.alloc (.cells #[.int .i64 x.id, .int .i64 x.key, .int .i64 x.cost, .int .i64 x.cls, .int .i64 x.til] T)).drew fun e w' => ∃ q d, e = .returned (.slice q 1 d) ∧ Lies item w' q [x] ∧ Below (u.alloc (.cells #[.int .i64 x.id, .int .i64 x.key, .int .i64 x.cost, .int .i64 x.cls, .int .i64 x.til] T)).heap.size (u.alloc (.cells #[.int .i64 x.id, .int .i64 x.key, .int .i64 x.cost, .int .i64 x.cls, .int .i64 x.til] T)).drew w' := of_one x u.drew T
set_option maxRecDepth 100000 in
set_option maxHeartbeats 8000000 in
theorem step_put {PW : Pw} (P : Way12 PW) {F : Nat → Prop} {W w : World} {q v : Nat} {room : Int} {l : List It} (h : Qst PW F W q v room l l w) (hg : Good room l) (hl : l.length ≤ 16) (a : Ac) (ha : AcNum a) (h4 : a.kind % 6 ≠ 4) (h5 : a.kind % 6 ≠ 5) :
    Calls Try.prog 8 #[.pointer (some ⟨q, 0, none⟩), .pointer (some ⟨v, 0, none⟩), actVal a] w fun e w' => e = .returned (.bool true) ∧ Qst PW F W q v room (put room l a.x).1 (put room l a.x).1 w' := by
  have H1 := Lib.hid (h.box P (.cells #[.int .u8 a.kind, .int .i64 a.x.id, .int .i64 a.x.key, .int .i64 a.x.cost, .int .i64 a.x.cls, .int .i64 a.x.til] 37))
  have K := Lib.hid (heap_alloc_new w (.cells #[.int .u8 a.kind, .int .i64 a.x.id, .int .i64 a.x.key, .int .i64 a.x.cost, .int .i64 a.x.cls, .int .i64 a.x.til] 37))
  obtain ⟨b0, b1, b2, b3, b4, b5⟩ := box6 K.out
  have cp := P.put H1.out.pw H1.out.below.size hg hl a.x ha.2
  have cr := Lib.hid (fun u (hu : Qst PW (fun g => F g ∨ g = w.heap.size) W q v room (put room l a.x).1 l u) => rput_any hu.qu hu.below.size (by omega) a.x)
  have co := Lib.hid (fun u => of_one a.x u 35)
  have HP := Lib.hid P
  have g4 := kind_no ha.1.1 h4
  have g5 := kind_no ha.1.1 h5
  generalize put room l a.x = R at *
  obtain ⟨kind, xi, xk, xc, xs, xt⟩ := a
  simp only [val, actVal] at *
  clear P h ha h4 h5
  go_enter Try.func8, Try.ntmps8
  go_wp2_with (first
    | (go_at_call 21; (with_reducible refine cp.mono ?_); rintro e u1 ⟨rfl, hm⟩; have H2 := Lib.hid (H1.out.own hm); have K1 := Lib.hid ((hm.rest _ (.inr rfl) (lt_heap K.out)).trans K.out); clear b0 b1 b2 b3 b4 b5; obtain ⟨b0, b1, b2, b3, b4, b5⟩ := box6 K1.out; have H3 := Lib.hid (H2.out.on HP.out (lay u1 (.cells #[.int .i64 xi, .int .i64 xk, .int .i64 xc, .int .i64 xs, .int .i64 xt] 35))); clear hm cp)
    | (go_at_call 10; (with_reducible refine (co.out _).mono ?_); rintro e u4 ⟨p4, d4, rfl, hq, hbu⟩; have H4 := Lib.hid (H3.out.on HP.out hbu); obtain ⟨qb, qo, rfl, y0, y1, y2, y3, y4⟩ := lies_first hq; clear hq hbu co)
    | (go_at_call 26; (with_reducible refine (cr.out _ H4.out).mono ?_); rintro e u5 ⟨rfl, hm⟩; have H5 := Lib.hid (H4.out.ref HP.out hm); clear hm cr))
  go_ret
  exact ⟨rfl, H5.out.sub HP.out (fun g hg => .inl hg)⟩
set_option maxRecDepth 100000 in
set_option maxHeartbeats 8000000 in
theorem step_expire {PW : Pw} (P : Way12 PW) {F : Nat → Prop} {W w : World} {q v : Nat} {room : Int} {l : List It} (h : Qst PW F W q v room l l w) (hg : Good room l) (hl : l.length ≤ 16) (a : Ac) (ha : AcNum a) (h5 : a.kind % 6 = 5) :
    Calls Try.prog 8 #[.pointer (some ⟨q, 0, none⟩), .pointer (some ⟨v, 0, none⟩), actVal a] w fun e w' => e = .returned (.bool true) ∧ Qst PW F W q v room (expire l a.x.til).1 (expire l a.x.til).1 w' := by
  have H1 := Lib.hid (h.box P (.cells #[.int .u8 a.kind, .int .i64 a.x.id, .int .i64 a.x.key, .int .i64 a.x.cost, .int .i64 a.x.cls, .int .i64 a.x.til] 37))
  have K := Lib.hid (heap_alloc_new w (.cells #[.int .u8 a.kind, .int .i64 a.x.id, .int .i64 a.x.key, .int .i64 a.x.cost, .int .i64 a.x.cls, .int .i64 a.x.til] 37))
  obtain ⟨b0, b1, b2, b3, b4, b5⟩ := box6 K.out
  have cp := P.expire H1.out.pw H1.out.below.size hg hl a.x.til ha.2.2.2.2.2
  have cr := Lib.hid (fun u (hu : Qst PW (fun g => F g ∨ g = w.heap.size) W q v room (expire l a.x.til).1 l u) => rexpire_any hu.qu hu.below.size (by omega) a.x.til)
  have hlen : (expire l a.x.til).2.length ≤ 1000 := Nat.le_trans (List.length_filter_le _ _) (by omega)
  have HP := Lib.hid P
  have NE := Lib.hid (show w.heap.size ≠ v from (Nat.ne_of_lt h.qu.lt).symm)
  have g4 := kind_no (c := 4) ha.1.1 (by omega)
  have g5 := kind_yes ha.1.1 h5
  generalize expire l a.x.til = R at *
  have co := Lib.hid (fun u (p : Option Addr) (c : Nat) (hq : Lies item u p R.2) => of_any (c := c) hq hlen)
  have cs := Lib.hid (fun u (p p' : Option Addr) (c c' : Nat) (hq : Lies item u p R.2) (hq' : Lies item u p' R.2) => rsame_any (c := c) (d := c') hq hq' hlen)
  obtain ⟨kind, xi, xk, xc, xs, xt⟩ := a
  simp only [actVal] at *
  clear P h ha h5
  go_enter Try.func8, Try.ntmps8
  go_wp2_with (go_at_call 22; (with_reducible refine cp.mono ?_); rintro e u1 ⟨p1, d1, rfl, hq, hm⟩; have H2 := Lib.hid ((H1.out.own hm).on HP.out (Below.refl _ _).drew); have hk1 := (hm.rest _ (.inr rfl) (lt_heap K.out)).trans K.out; have b := (box6 hk1).2.2.2.2.2; have Q2 := Lib.hid (hq.below (Below.refl _ _).drew); have KL := Lib.hid (lt_heap hk1); have KB := Lib.hid (fun u (hu : Below u1.drew.heap.size u1.drew u) => cell_on (w := u1.drew) b hu); clear b0 b1 b2 b3 b4 b5 hm cp hq hk1)
  go_region_held3 (fun u => u.cell? ⟨w.heap.size, 5, none⟩ = some (.int .i64 xt)) (first | assumption) (first
    | (go_at_call 10; (with_reducible refine (co.out _ _ _ Q2.out).mono ?_); rintro e u4 ⟨p4, d4, rfl, hq, hbu⟩; have H4 := Lib.hid (H2.out.on HP.out hbu); have Q4 := Lib.hid hq; have b' := KB.out _ hbu; clear hq hbu co)
    | (go_at_call 25; (with_reducible refine (cr.out _ H4.out).mono ?_); rintro e u5 ⟨p5, d5, rfl, hq, hm⟩; have H5 := Lib.hid (H4.out.ref HP.out hm); have Q5 := Lib.hid hq; have Q6 := Lib.hid (lies_step Q4.out H4.out.qu hm); have b'' : u5.cell? ⟨w.heap.size, 5, none⟩ = some (.int .i64 xt) := (World.cell?_of_block (hm.only _ NE.out (World.block_lt_of_cell? _ _ b'))).trans b'; clear hm cr hq)
    | (go_at_call 9; (with_reducible refine (cs.out _ _ _ _ _ Q6.out Q5.out).mono ?_); rintro e u6 ⟨rfl, hb⟩; have H6 := Lib.hid (H5.out.on HP.out hb); have b3 := cell_on b'' hb; clear hb cs))
  go_wp2
  go_ret
  exact ⟨rfl, H6.out.sub HP.out (fun g hg => .inl hg)⟩
set_option maxRecDepth 100000 in
set_option maxHeartbeats 8000000 in
theorem step_take {PW : Pw} (P : Way12 PW) {F : Nat → Prop} {W w : World} {q v : Nat} {room : Int} {l : List It} (h : Qst PW F W q v room l l w) (hg : Good room l) (hl : l.length ≤ 16) (a : Ac) (ha : AcNum a) (h4 : a.kind % 6 = 4) :
    Calls Try.prog 8 #[.pointer (some ⟨q, 0, none⟩), .pointer (some ⟨v, 0, none⟩), actVal a] w fun e w' => e = .returned (.bool true) ∧ Qst PW F W q v room (take l a.x.id).1 (take l a.x.id).1 w' := by
  have H1 := Lib.hid (h.box P (.cells #[.int .u8 a.kind, .int .i64 a.x.id, .int .i64 a.x.key, .int .i64 a.x.cost, .int .i64 a.x.cls, .int .i64 a.x.til] 37))
  have K := Lib.hid (heap_alloc_new w (.cells #[.int .u8 a.kind, .int .i64 a.x.id, .int .i64 a.x.key, .int .i64 a.x.cost, .int .i64 a.x.cls, .int .i64 a.x.til] 37))
  obtain ⟨b0, b1, b2, b3, b4, b5⟩ := box6 K.out
  have cp := P.take H1.out.pw H1.out.below.size hg hl a.x.id ha.2.1
  have cr := Lib.hid (fun u (hu : Qst PW (fun g => F g ∨ g = w.heap.size) W q v room (take l a.x.id).1 l u) => rtake_any hu.qu hu.below.size (by omega) a.x.id)
  have HP := Lib.hid P
  have NE := Lib.hid (show w.heap.size ≠ v from (Nat.ne_of_lt h.qu.lt).symm)
  have hv := h.qu.lt
  have g4 := kind_yes ha.1.1 h4
  generalize take l a.x.id = R at *
  have co := Lib.hid (fun u => of_one_drew R.2.1 u 35)
  have eq := Lib.hid (fun (u : World) => eql5 R.2.1 R.2.1 u)
  rw [show same5 R.2.1 R.2.1 = true from same5_iff.2 rfl] at eq
  obtain ⟨R1, ⟨ri, rk, rc, rs, rt⟩, ok⟩ := R
  obtain ⟨kind, xi, xk, xc, xs, xt⟩ := a
  simp only [actVal, val] at *
  clear P h ha h4
  go_enter Try.func8, Try.ntmps8
  go_wp2_with (first
    | (go_at_call 20; (with_reducible refine cp.mono ?_); rintro e u1 ⟨rfl, hm⟩; have H2 := Lib.hid ((H1.out.own hm).on HP.out (lay u1 (.cells #[.int .i64 ri, .int .i64 rk, .int .i64 rc, .int .i64 rs, .int .i64 rt] 35))); have hk1 := (hm.rest _ (.inr rfl) (lt_heap K.out)).trans K.out; have b6 := (box6 hk1).2.1; have hlt1 := lt_heap hk1; have X1 := Lib.hid (heap_alloc_new u1 (.cells #[.int .i64 ri, .int .i64 rk, .int .i64 rc, .int .i64 rs, .int .i64 rt] 35)); clear b0 b1 b2 b3 b4 b5 hm cp hk1)
    | (go_at_call 24; (with_reducible refine (cr.out _ H2.out).mono ?_); rintro e u2 ⟨rfl, hm⟩; have H3 := Lib.hid (H2.out.ref HP.out hm); have X2 := Lib.hid ((hm.only u1.heap.size (by omega) (lt_heap X1.out)).trans X1.out); clear hm cr b6))
  have H4 := Lib.hid (H3.out.on HP.out ((lay u2 (.cells #[.int .i64 ri, .int .i64 rk, .int .i64 rc, .int .i64 rs, .int .i64 rt] 49)).drew))
  have hs : (u2.alloc (.cells #[.int .i64 ri, .int .i64 rk, .int .i64 rc, .int .i64 rs, .int .i64 rt] 49)).drew.cell? ⟨u1.heap.size, 0, none⟩ = some (.int .i64 ri) ∧ (u2.alloc (.cells #[.int .i64 ri, .int .i64 rk, .int .i64 rc, .int .i64 rs, .int .i64 rt] 49)).drew.cell? ⟨u1.heap.size, 1, none⟩ = some (.int .i64 rk) ∧ (u2.alloc (.cells #[.int .i64 ri, .int .i64 rk, .int .i64 rc, .int .i64 rs, .int .i64 rt] 49)).drew.cell? ⟨u1.heap.size, 2, none⟩ = some (.int .i64 rc) ∧ (u2.alloc (.cells #[.int .i64 ri, .int .i64 rk, .int .i64 rc, .int .i64 rs, .int .i64 rt] 49)).drew.cell? ⟨u1.heap.size, 3, none⟩ = some (.int .i64 rs) ∧ (u2.alloc (.cells #[.int .i64 ri, .int .i64 rk, .int .i64 rc, .int .i64 rs, .int .i64 rt] 49)).drew.cell? ⟨u1.heap.size, 4, none⟩ = some (.int .i64 rt) ∧ (u2.alloc (.cells #[.int .i64 ri, .int .i64 rk, .int .i64 rc, .int .i64 rs, .int .i64 rt] 49)).drew.cell? ⟨u2.heap.size, 0, none⟩ = some (.int .i64 ri) ∧ (u2.alloc (.cells #[.int .i64 ri, .int .i64 rk, .int .i64 rc, .int .i64 rs, .int .i64 rt] 49)).drew.cell? ⟨u2.heap.size, 1, none⟩ = some (.int .i64 rk) ∧ (u2.alloc (.cells #[.int .i64 ri, .int .i64 rk, .int .i64 rc, .int .i64 rs, .int .i64 rt] 49)).drew.cell? ⟨u2.heap.size, 2, none⟩ = some (.int .i64 rc) ∧ (u2.alloc (.cells #[.int .i64 ri, .int .i64 rk, .int .i64 rc, .int .i64 rs, .int .i64 rt] 49)).drew.cell? ⟨u2.heap.size, 3, none⟩ = some (.int .i64 rs) ∧ (u2.alloc (.cells #[.int .i64 ri, .int .i64 rk, .int .i64 rc, .int .i64 rs, .int .i64 rt] 49)).drew.cell? ⟨u2.heap.size, 4, none⟩ = some (.int .i64 rt) := by
    obtain ⟨c0, c1, c2, c3, c4⟩ := box5 X2.out
    obtain ⟨d0, d1, d2, d3, d4⟩ := box5 (heap_alloc_new u2 (.cells #[.int .i64 ri, .int .i64 rk, .int .i64 rc, .int .i64 rs, .int .i64 rt] 49))
    exact ⟨cell_on c0 (lay u2 _).drew, cell_on c1 (lay u2 _).drew, cell_on c2 (lay u2 _).drew, cell_on c3 (lay u2 _).drew, cell_on c4 (lay u2 _).drew, d0, d1, d2, d3, d4⟩
  have KA : ∀ (u u' : World), Below u.heap.size u u' → (u.cell? ⟨u1.heap.size, 0, none⟩ = some (.int .i64 ri) ∧ u.cell? ⟨u1.heap.size, 1, none⟩ = some (.int .i64 rk) ∧ u.cell? ⟨u1.heap.size, 2, none⟩ = some (.int .i64 rc) ∧ u.cell? ⟨u1.heap.size, 3, none⟩ = some (.int .i64 rs) ∧ u.cell? ⟨u1.heap.size, 4, none⟩ = some (.int .i64 rt) ∧ u.cell? ⟨u2.heap.size, 0, none⟩ = some (.int .i64 ri) ∧ u.cell? ⟨u2.heap.size, 1, none⟩ = some (.int .i64 rk) ∧ u.cell? ⟨u2.heap.size, 2, none⟩ = some (.int .i64 rc) ∧ u.cell? ⟨u2.heap.size, 3, none⟩ = some (.int .i64 rs) ∧ u.cell? ⟨u2.heap.size, 4, none⟩ = some (.int .i64 rt)) → (u'.cell? ⟨u1.heap.size, 0, none⟩ = some (.int .i64 ri) ∧ u'.cell? ⟨u1.heap.size, 1, none⟩ = some (.int .i64 rk) ∧ u'.cell? ⟨u1.heap.size, 2, none⟩ = some (.int .i64 rc) ∧ u'.cell? ⟨u1.heap.size, 3, none⟩ = some (.int .i64 rs) ∧ u'.cell? ⟨u1.heap.size, 4, none⟩ = some (.int .i64 rt) ∧ u'.cell? ⟨u2.heap.size, 0, none⟩ = some (.int .i64 ri) ∧ u'.cell? ⟨u2.heap.size, 1, none⟩ = some (.int .i64 rk) ∧ u'.cell? ⟨u2.heap.size, 2, none⟩ = some (.int .i64 rc) ∧ u'.cell? ⟨u2.heap.size, 3, none⟩ = some (.int .i64 rs) ∧ u'.cell? ⟨u2.heap.size, 4, none⟩ = some (.int .i64 rt)) := fun u u' hb h => ⟨cell_on h.1 hb, cell_on h.2.1 hb, cell_on h.2.2.1 hb, cell_on h.2.2.2.1 hb, cell_on h.2.2.2.2.1 hb, cell_on h.2.2.2.2.2.1 hb, cell_on h.2.2.2.2.2.2.1 hb, cell_on h.2.2.2.2.2.2.2.1 hb, cell_on h.2.2.2.2.2.2.2.2.1 hb, cell_on h.2.2.2.2.2.2.2.2.2 hb⟩
  have KAH := Lib.hid KA
  have g6 : (ok == ok) = true := by simp
  have eq' := eq.out
  clear KA
  generalize (u2.alloc (.cells #[.int .i64 ri, .int .i64 rk, .int .i64 rc, .int .i64 rs, .int .i64 rt] 49)) = u3 at *
  have S5 := Lib.hid (fun (u5 : World) (hb : Below (u3.alloc (.cells #[.int .i64 ri, .int .i64 rk, .int .i64 rc, .int .i64 rs, .int .i64 rt] 35)).heap.size (u3.alloc (.cells #[.int .i64 ri, .int .i64 rk, .int .i64 rc, .int .i64 rs, .int .i64 rt] 35)).drew u5) => KAH.out _ _ hb (KAH.out _ _ ((lay u3 (.cells #[.int .i64 ri, .int .i64 rk, .int .i64 rc, .int .i64 rs, .int .i64 rt] 35)).drew) hs))
  have Q5 := Lib.hid (fun (u5 : World) (hb : Below (u3.alloc (.cells #[.int .i64 ri, .int .i64 rk, .int .i64 rc, .int .i64 rs, .int .i64 rt] 35)).heap.size (u3.alloc (.cells #[.int .i64 ri, .int .i64 rk, .int .i64 rc, .int .i64 rs, .int .i64 rt] 35)).drew u5) => (H4.out.on HP.out (lay u3.drew (.cells #[.int .i64 ri, .int .i64 rk, .int .i64 rc, .int .i64 rs, .int .i64 rt] 35))).on HP.out (show Below (u3.drew.alloc (.cells #[.int .i64 ri, .int .i64 rk, .int .i64 rc, .int .i64 rs, .int .i64 rt] 35)).heap.size (u3.drew.alloc (.cells #[.int .i64 ri, .int .i64 rk, .int .i64 rc, .int .i64 rs, .int .i64 rt] 35)) u5 from hb))
  have hs' : u3.cell? ⟨u1.heap.size, 0, none⟩ = some (.int .i64 ri) ∧ u3.cell? ⟨u1.heap.size, 1, none⟩ = some (.int .i64 rk) ∧ u3.cell? ⟨u1.heap.size, 2, none⟩ = some (.int .i64 rc) ∧ u3.cell? ⟨u1.heap.size, 3, none⟩ = some (.int .i64 rs) ∧ u3.cell? ⟨u1.heap.size, 4, none⟩ = some (.int .i64 rt) ∧ u3.cell? ⟨u2.heap.size, 0, none⟩ = some (.int .i64 ri) ∧ u3.cell? ⟨u2.heap.size, 1, none⟩ = some (.int .i64 rk) ∧ u3.cell? ⟨u2.heap.size, 2, none⟩ = some (.int .i64 rc) ∧ u3.cell? ⟨u2.heap.size, 3, none⟩ = some (.int .i64 rs) ∧ u3.cell? ⟨u2.heap.size, 4, none⟩ = some (.int .i64 rt) := hs
  have l1 := World.block_lt_of_cell? _ _ hs'.1
  have l2 := World.block_lt_of_cell? _ _ hs'.2.2.2.2.2.1
  go_region_with (first
    | (go_at_call 10; (with_reducible refine (co.out _).mono ?_); rintro e u5 ⟨p5, d5, rfl, hq, hbu⟩; obtain ⟨qb, qo, rfl, y0, y1, y2, y3, y4⟩ := lies_first hq; have H5 := Lib.hid (Q5.out u5 hbu); have s5 := S5.out u5 hbu; clear hq co))
  all_goals
    go_wp2
    go_ret
    exact ⟨rfl, H5.out.sub HP.out (fun g hg => .inl hg)⟩
theorem step_any {PW : Pw} (P : Way12 PW) {F : Nat → Prop} {W w : World} {q v : Nat} {room : Int} {l : List It} (h : Qst PW F W q v room l l w) (hg : Good room l) (hl : l.length ≤ 16) (a : Ac) (ha : AcNum a) :
    Calls Try.prog 8 #[.pointer (some ⟨q, 0, none⟩), .pointer (some ⟨v, 0, none⟩), actVal a] w fun e w' => e = .returned (.bool true) ∧ Qst PW F W q v room (actOf room l a) (actOf room l a) w' := by
  unfold actOf
  split
  · rename_i h4
    exact step_take P h hg hl a ha h4
  · rename_i h4
    split
    · rename_i h5
      exact step_expire P h hg hl a ha h5
    · rename_i h5
      exact step_put P h hg hl a ha h4 h5
end Go.Proofs.Ytdcclmellabnlaa.Queue
