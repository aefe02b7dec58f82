/-
  The live question of annonalaw05: it answers true; of what lay when the call began nothing has turned.
-/
import Derived.Test.YtnogfhjeckkckaaFrmDec
import Derived.Test.YtnogfhjeckkckaaFrmEnc
import Derived.Test.YtnogfhjeckkckaaFrmBack2
namespace Go.Proofs.Ytnogfhjeckkckaa.Frame
open Go.RowKit Codec

def F1 : Fr := ⟨2, 1, 2, 7, 0, 5, noTk⟩
def F2 : Fr := ⟨0, 0, 0, 0, 0, 0, ⟨4, 0, [-1, 9], ⟨0, [⟨3, 0, 0, [(1, 2)]⟩]⟩⟩⟩
def F3 : Fr := ⟨3, 0, 0, 1, 0, 0, noTk⟩
theorem ok1 : frameOk F1 = true := by decide
theorem ok2 : frameOk F2 = true := by decide
theorem ok3 : frameOk F3 = false := by decide
theorem len1 : (frameBytes F1).length = 40 := by
  have e : frameBytes F1 = puts [2, 1, 2, 7] ++ eight 5 := by simp [frameBytes, frameNums, F1]
  rw [e, List.length_append, len_puts, len_eight]
  rfl
theorem len2 : (frameBytes F2).length = 128 := by
  have e : frameBytes F2 = puts (frameNums F2) := by simp [frameBytes, F2]
  rw [e, len_puts]
  rfl

/-- Bytes that Encode told. -/
def Told (w : World) (f : Fr) (n : Nat) (e : Ending) (w' : World) : Prop :=
  ∃ p c, e = .returned (.tuple #[.slice p n c, .int .i64 0]) ∧ Cel w' p (frameBytes f) ∧ (p = none → frameBytes f = []) ∧ n = (frameBytes f).length ∧ Below w.heap.size w w'
theorem encode_told (f : Fr) (ps p : Option Addr) (cs c : Nat) (w : World) (hk : (Lit.int .i64 f.kind).wf = true) (h : Lying w f ps p) (hf : frameOk f = true) (n : Nat) (hn : (frameBytes f).length = n) :
    Calls Try.prog 20 #[frameVal f ps p cs c] w (Told w f n) := by
  refine (encode_any f ps p cs c w hk h).mono ?_
  intro e w' he
  unfold Encoded at he
  rw [if_pos hf] at he
  obtain ⟨v, rfl, ho, hb⟩ := he
  obtain ⟨q, d, rfl, _, _, hl, hp⟩ := own_lies ho
  rw [hn]
  exact ⟨q, d, rfl, hl.cel, hp, hn.symm, hb⟩
/-- What Decode tells of a frame's bytes. -/
def Back (w : World) (f : Fr) (e : Ending) (w' : World) : Prop :=
  ∃ ps cs p c, e = .returned (.tuple #[frameVal f ps p cs c, .int .i64 0]) ∧ Lying w' f ps p ∧ Below w.heap.size w w'
theorem frameBytes_ok (f : Fr) : IsBytes (frameBytes f) := by
  unfold frameBytes
  split
  · exact (puts_ok _).append (eight_ok _)
  · exact puts_ok _
theorem decode_back (f : Fr) (q : Option Addr) (n d : Nat) (w : World) (hf : frameOk f = true) (hb0 : 0 ≤ f.bits) (hb1 : f.bits < 18446744073709551616) (hc : Cel w q (frameBytes f)) (hp : q = none → frameBytes f = []) (hn : n = (frameBytes f).length) :
    Calls Try.prog 21 #[.slice q n d] w (Back w f) := by
  subst hn
  have hl := frame_len f hf
  refine (decode_any q d (frameBytes f) w (by omega) (frameBytes_ok f) hc hp).mono ?_
  intro e w' he
  obtain ⟨h1, h2⟩ := bytes_ok f hf hb0 hb1
  obtain ⟨ps, cs, p, c, rfl, hly, hb⟩ := he
  unfold decFr at hly ⊢
  rw [if_pos h1, h2] at hly
  rw [if_pos h1, if_pos h1, h2]
  exact ⟨ps, cs, p, c, rfl, hly, hb⟩

theorem blocks5 (u : World) (o0 o1 o2 o3 o4 : Obj) : (((((u.alloc o0).alloc o1).alloc o2).alloc o3).alloc o4).heap[u.heap.size]? = some o0 ∧ (((((u.alloc o0).alloc o1).alloc o2).alloc o3).alloc o4).heap[u.heap.size + 1]? = some o1 ∧ (((((u.alloc o0).alloc o1).alloc o2).alloc o3).alloc o4).heap[u.heap.size + 1 + 1]? = some o2 ∧ (((((u.alloc o0).alloc o1).alloc o2).alloc o3).alloc o4).heap[u.heap.size + 1 + 1 + 1]? = some o3 ∧ Below u.heap.size u (((((u.alloc o0).alloc o1).alloc o2).alloc o3).alloc o4) := by
  have s1 : (u.alloc o0).heap.size = u.heap.size + 1 := by simp
  have s2 : ((u.alloc o0).alloc o1).heap.size = u.heap.size + 1 + 1 := by simp
  have s3 : (((u.alloc o0).alloc o1).alloc o2).heap.size = u.heap.size + 1 + 1 + 1 := by simp
  have h0 := heap_alloc_new u o0
  have h1 := heap_alloc_new (u.alloc o0) o1
  have h2 := heap_alloc_new ((u.alloc o0).alloc o1) o2
  have h3 := heap_alloc_new (((u.alloc o0).alloc o1).alloc o2) o3
  rw [s1] at h1
  rw [s2] at h2
  rw [s3] at h3
  have up : ∀ (v : World) (o x : Obj) (k : Nat), v.heap[k]? = some x → (v.alloc o).heap[k]? = some x := fun v o x k h => (Below.heap_alloc _ _ _ (lt_of_heap h)).trans h
  exact ⟨up _ _ _ _ (up _ _ _ _ (up _ _ _ _ (up _ _ _ _ h0))), up _ _ _ _ (up _ _ _ _ (up _ _ _ _ h1)), up _ _ _ _ (up _ _ _ _ h2), up _ _ _ _ h3,
    (((((Below.refl _ _).alloc (Nat.le_refl _) _).alloc (by simp) _).alloc (by simp; omega) _).alloc (by simp; omega) _).alloc (by simp; omega) _⟩
theorem lying2 (u : World) (o0 o4 : Obj) : Lying (((((u.alloc o0).alloc (.cells #[.int .i64 (-1), .int .i64 9] 3)).alloc (.cells #[.int .i64 1, .int .i64 2] 49)).alloc (.cells #[.int .i64 3, .int .i64 0, .int .i64 0, .slice (some ⟨u.heap.size + 1 + 1, 0, none⟩) 1 1] 52)).alloc o4) F2 (some ⟨u.heap.size + 1, 0, none⟩) (some ⟨u.heap.size + 1 + 1 + 1, 0, none⟩) := by
  obtain ⟨h0, h1, h2, h3, hb⟩ := blocks5 u o0 (.cells #[.int .i64 (-1), .int .i64 9] 3) (.cells #[.int .i64 1, .int .i64 2] 49) (.cells #[.int .i64 3, .int .i64 0, .int .i64 0, .slice (some ⟨u.heap.size + 1 + 1, 0, none⟩) 1 1] 52) o4
  refine ⟨.inr ⟨_, 0, rfl, fun j hj => ?_⟩, .inr ⟨_, 0, rfl, fun j hj => ?_⟩, (by intro r hr; simp [F2] at hr; rw [hr]; simp), (by simp [F2]), (by simp [F2])⟩
  · rw [cell_of_row _ _ _ _ _ _ h1]
    match j, hj with
    | 0, _ => rfl
    | 1, _ => rfl
  · match j, hj with
    | 0, _ =>
      refine ⟨by rw [cell_of_row _ _ _ _ _ _ h3]; rfl, by rw [cell_of_row _ _ _ _ _ _ h3]; rfl, by rw [cell_of_row _ _ _ _ _ _ h3]; rfl, some ⟨u.heap.size + 1 + 1, 0, none⟩, 1, by rw [cell_of_row _ _ _ _ _ _ h3]; rfl, .inr ⟨_, 0, rfl, fun i hi => ?_⟩⟩
      match i, hi with
      | 0, _ => exact ⟨by rw [cell_of_row _ _ _ _ _ _ h2]; rfl, by rw [cell_of_row _ _ _ _ _ _ h2]; rfl⟩

set_option maxRecDepth 100000 in
set_option maxHeartbeats 4000000 in
theorem alive_any (w : World) : Calls Try.prog 6 #[] w (Asked w true) := by
  have a1 := fun (u : World) => encode_told F1 none none 0 0 u (by decide) ⟨.inl rfl, .inl rfl, (by intro r h; simp [F1, noTk] at h), by simp [F1, noTk], by simp [F1, noTk]⟩ ok1 40 len1
  have a2 := fun (u : World) (q : Option Addr) (d : Nat) (hc : Cel u q (frameBytes F1)) (hp : q = none → frameBytes F1 = []) (hn : 40 = (frameBytes F1).length) => decode_back F1 q 40 d u ok1 (by decide) (by decide) hc hp hn
  unfold Back at a2
  simp only [frameVal, F1, noTk, List.length_nil] at a1 a2
  have a4 := fun (u : World) (o0 o4 : Obj) => encode_told F2 (some ⟨u.heap.size + 1, 0, none⟩) (some ⟨u.heap.size + 1 + 1 + 1, 0, none⟩) 2 1 _ (by decide) (lying2 u o0 o4) ok2 128 len2
  have a5 := fun (u : World) => pright_any F3 none none 0 0 u (by decide) ⟨.inl rfl, .inl rfl, (by intro r h; simp [F3, noTk] at h), by simp [F3, noTk], by simp [F3, noTk]⟩
  rw [ok3] at a5
  simp only [frameVal, F2, F3, noTk, List.length_nil, List.length_cons] at a4 a5
  have A4 := Lib.hid a4
  have A5 := Lib.hid a5
  have A1 := Lib.hid a1
  have A2 := Lib.hid a2
  clear a1 a2 a4 a5
  go_enter Try.func6, Try.ntmps6
  go_wp2_with (first
    | (go_at_call 20; (with_reducible refine (A1.out _).mono ?_); rintro e w1 ⟨p1, c1, rfl, hc, hp, hn, hb⟩; have HC := Lib.hid hc; have HP := Lib.hid hp; have HN := Lib.hid hn; have B1 := Lib.hid hb; clear hc hp hn hb A1)
    | (go_at_call 21; (with_reducible refine (A2.out _ p1 c1 HC.out HP.out HN.out).mono ?_); rintro e w2 ⟨ps, cs, p, c, rfl, -, hb⟩; have B2 := Lib.hid (B1.out.trans (hb.mono B1.out.size)); clear hb A2 HC HP HN B1)
    | (go_at_call 20; have hx := blocks5 w2 (.cells #[.int .i64 2, .int .i64 1, .int .i64 2, .int .i64 7, .int .i64 0, .int .u64 5, .int .i64 0, .int .i64 0, .slice ps 0 cs, .int .i64 0, .slice p 0 c] 31) (.cells #[.int .i64 (-1), .int .i64 9] 3) (.cells #[.int .i64 1, .int .i64 2] 49) (.cells #[.int .i64 3, .int .i64 0, .int .i64 0, .slice (some ⟨w2.heap.size + 1 + 1, 0, none⟩) 1 1] 52) (.cells #[.int .i64 4, .int .i64 0, .slice (some ⟨w2.heap.size + 1, 0, none⟩) 2 2, .int .i64 0, .slice (some ⟨w2.heap.size + 1 + 1 + 1, 0, none⟩) 1 1] 29); (with_reducible refine (A4.out w2 _ _).mono ?_); rintro e w3 ⟨p3, c3, rfl, -, -, -, hb⟩; have k3 : w3.cell? ⟨w2.heap.size, 3, none⟩ = some (.int .i64 7) := (by rw [cell_of_row _ _ 3 _ _ _ ((hb.block _ (lt_of_heap hx.1)).trans hx.1)]; rfl); have k5 : w3.cell? ⟨w2.heap.size, 5, none⟩ = some (.int .u64 5) := (by rw [cell_of_row _ _ 5 _ _ _ ((hb.block _ (lt_of_heap hx.1)).trans hx.1)]; rfl); have B3 := Lib.hid (B2.out.trans ((hx.2.2.2.2.trans (hb.mono hx.2.2.2.2.size)).mono B2.out.size)); clear hb hx A4 B2)
    | (go_at_call 8; (with_reducible refine (A5.out _).mono ?_); rintro e w4 ⟨rfl, hb⟩; have B4 := Lib.hid (B3.out.trans (hb.mono B3.out.size)); clear hb A5 B3))
  go_ret
  exact ⟨rfl, B4.out⟩
end Go.Proofs.Ytnogfhjeckkckaa.Frame
