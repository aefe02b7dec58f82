/-
  FrameBytes: for all bytes and every cut: the frame of any bytes is as the document says, or the error; what is decoded has these bytes; a part of them, from the beginning, is none's; of more than 4000 bytes the live question alone is asked. No conditions: any bytes, any cut.
-/
import Derived.Test.YtnogfhjeckkckaaRows
import Derived.Test.YtnogfhjeckkckaaFrmAlive
import Derived.Test.YtnogfhjeckkckaaFrmParse
import Derived.Test.YtnogfhjeckkckaaCodecOpen
namespace Go.Proofs.Ytnogfhjeckkckaa.frameBytes
open Go.ChangeShapes Go.WideShapes Go.RowKit Codec
open _root_.Go.Proofs.Ytnogfhjeckkckaa.Frame

/-- Bytes, as a text. -/
theorem cel_text {w : World} {p : Option Addr} {c : Nat} {xs : List Int} (h : Cel w p xs) : (convert 40 9 (.slice p xs.length c)).run Try.prog w = .ok (.string (strOfNums xs)) w := by
  have hs := Try.underlying9
  rcases h with h0 | ⟨b, o, rfl, hc⟩
  · subst h0
    have e : strOfNums [] = ByteArray.empty := by simp [strOfNums]; rfl
    rw [e]
    show (convert 40 9 (.slice p 0 c)).run Try.prog w = _
    rw [run_convert_bytes_string w 40 9 5 p 0 c Try.underlying40 Try.underlying5 hs]
    cases p with
    | none => simp [Conv.bytesToString]
    | some a => simp [Conv.bytesToString, loadCells]; rfl
  · exact run_convert_bytes_arg w 40 5 Try.underlying40 Try.underlying5 b o xs.length c xs rfl hc 9 hs

theorem long (q : Option Addr) (n d : Nat) (cut : Int) (w : World) (h : 4000 < (n : Int)) : Calls Try.prog 4 #[.slice q n d, .int .i64 cut] w (Asked w true) := by
  go_enter Try.func4, Try.ntmps4
  go_wp2_with (go_at_call 6; (with_reducible refine (alive_any _).mono ?_); rintro e w' ⟨rfl, hg⟩)
  go_ret
  exact ⟨rfl, hg⟩

/-- What a way to decode tells, by the cells. -/
def Dec (G : Fr) (err : Int) (u : World) (e : Ending) (u' : World) : Prop := ∃ ps cs p c, e = .returned (.tuple #[frameVal G ps p cs c, .int .i64 err]) ∧ Lying u' G ps p ∧ Below u.heap.size u u'

set_option maxRecDepth 100000 in
set_option maxHeartbeats 4000000 in
/-- Bytes that are none's. -/
theorem bad (q : Option Addr) (n d : Nat) (cut : Int) (w : World) (kind src dst gen hop bits tg th ts : Int) (st : List Int) (rows : List Rw) (hn : (n : Int) ≤ 4000)
    (hd : ∀ u, Below w.heap.size w u → Calls Try.prog 21 #[.slice q n d] u (fun e u' => ∃ ps cs p c, e = .returned (.tuple #[.agg #[.int .i64 kind, .int .i64 src, .int .i64 dst, .int .i64 gen, .int .i64 hop, .int .u64 bits, .int .i64 tg, .int .i64 th, .slice ps st.length cs, .int .i64 ts, .slice p rows.length c], .int .i64 2]) ∧ Lying u' ⟨kind, src, dst, gen, hop, bits, ⟨tg, th, st, ⟨ts, rows⟩⟩⟩ ps p ∧ Below u.heap.size u u'))
    (hp : ∀ u, Below w.heap.size w u → Calls Try.prog 23 #[.slice q n d] u (fun e u' => ∃ ps cs p c, e = .returned (.tuple #[.agg #[.int .i64 kind, .int .i64 src, .int .i64 dst, .int .i64 gen, .int .i64 hop, .int .u64 bits, .int .i64 tg, .int .i64 th, .slice ps st.length cs, .int .i64 ts, .slice p rows.length c], .int .i64 2]) ∧ Lying u' ⟨kind, src, dst, gen, hop, bits, ⟨tg, th, st, ⟨ts, rows⟩⟩⟩ ps p ∧ Below u.heap.size u u'))
    (hs : ∀ u ps cs p c ps' cs' p' c', Lying u ⟨kind, src, dst, gen, hop, bits, ⟨tg, th, st, ⟨ts, rows⟩⟩⟩ ps p → Lying u ⟨kind, src, dst, gen, hop, bits, ⟨tg, th, st, ⟨ts, rows⟩⟩⟩ ps' p' → Calls Try.prog 14 #[.agg #[.int .i64 kind, .int .i64 src, .int .i64 dst, .int .i64 gen, .int .i64 hop, .int .u64 bits, .int .i64 tg, .int .i64 th, .slice ps st.length cs, .int .i64 ts, .slice p rows.length c], .agg #[.int .i64 kind, .int .i64 src, .int .i64 dst, .int .i64 gen, .int .i64 hop, .int .u64 bits, .int .i64 tg, .int .i64 th, .slice ps' st.length cs', .int .i64 ts, .slice p' rows.length c']] u (Asked u true)) :
    Calls Try.prog 4 #[.slice q n d, .int .i64 cut] w (Asked w true) := by
  have HD := Lib.hid hd
  have HP := Lib.hid hp
  have HS := Lib.hid hs
  clear hd hp hs
  go_enter Try.func4, Try.ntmps4
  go_wp2_with (first
    | (go_at_call 21; (with_reducible refine (HD.out _ (Below.refl _ _)).mono ?_); rintro e u1 ⟨ps1, cs1, p1, c1, rfl, hl1, hb1⟩; have bx1 : Below u1.heap.size u1 (u1.alloc (.cells #[.int .i64 kind, .int .i64 src, .int .i64 dst, .int .i64 gen, .int .i64 hop, .int .u64 bits, .int .i64 tg, .int .i64 th, .slice ps1 st.length cs1, .int .i64 ts, .slice p1 rows.length c1] 31)) := ((Below.refl _ _).alloc (Nat.le_refl _) _); have L1 := Lib.hid (hl1.on bx1); have B1 := Lib.hid (hb1.trans (bx1.mono hb1.size)); clear hl1 hb1 bx1 HD)
    | (go_at_call 23; (with_reducible refine (HP.out _ B1.out).mono ?_); rintro e u2 ⟨ps2, cs2, p2, c2, rfl, hl2, hb2⟩; have k0 : u2.cell? ⟨u1.heap.size, 0, none⟩ = some (.int .i64 kind) := frame_ten hb2 0; have k1 : u2.cell? ⟨u1.heap.size, 1, none⟩ = some (.int .i64 src) := frame_ten hb2 1; have k2 : u2.cell? ⟨u1.heap.size, 2, none⟩ = some (.int .i64 dst) := frame_ten hb2 2; have k3 : u2.cell? ⟨u1.heap.size, 3, none⟩ = some (.int .i64 gen) := frame_ten hb2 3; have k4 : u2.cell? ⟨u1.heap.size, 4, none⟩ = some (.int .i64 hop) := frame_ten hb2 4; have k5 : u2.cell? ⟨u1.heap.size, 5, none⟩ = some (.int .u64 bits) := frame_ten hb2 5; have k6 : u2.cell? ⟨u1.heap.size, 6, none⟩ = some (.int .i64 tg) := frame_ten hb2 6; have k7 : u2.cell? ⟨u1.heap.size, 7, none⟩ = some (.int .i64 th) := frame_ten hb2 7; have k8 : u2.cell? ⟨u1.heap.size, 8, none⟩ = some (.slice ps1 st.length cs1) := frame_ten hb2 8; have k9 : u2.cell? ⟨u1.heap.size, 9, none⟩ = some (.int .i64 ts) := frame_ten hb2 9; have k10 : u2.cell? ⟨u1.heap.size, 10, none⟩ = some (.slice p1 rows.length c1) := frame_ten hb2 10; have z1 : u1.heap.size < u2.heap.size := (Nat.lt_of_lt_of_le (by simp) hb2.size); have bx2 : Below u2.heap.size u2 (u2.alloc (.cells #[.int .i64 kind, .int .i64 src, .int .i64 dst, .int .i64 gen, .int .i64 hop, .int .u64 bits, .int .i64 tg, .int .i64 th, .slice ps2 st.length cs2, .int .i64 ts, .slice p2 rows.length c2] 31)) := ((Below.refl _ _).alloc (Nat.le_refl _) _); have L1b := Lib.hid ((L1.out.on hb2).on bx2); have L2 := Lib.hid (hl2.on bx2); have K1 := Lib.hid (hb2.trans (bx2.mono hb2.size)); have B2 := Lib.hid (B1.out.trans ((hb2.trans (bx2.mono hb2.size)).mono B1.out.size)); clear hl2 hb2 bx2 HP L1 B1)
    | (go_at_call 14; (with_reducible refine (HS.out _ ps1 cs1 p1 c1 ps2 cs2 p2 c2 L1b.out L2.out).mono ?_); rintro e u3 ⟨rfl, hb3⟩; clear k0 k1 k2 k3 k4 k5 k6 k7 k8 k9 k10; have k0 : u3.cell? ⟨u1.heap.size, 0, none⟩ = some (.int .i64 kind) := frame_ten (K1.out.trans (hb3.mono K1.out.size)) 0; have k1 : u3.cell? ⟨u1.heap.size, 1, none⟩ = some (.int .i64 src) := frame_ten (K1.out.trans (hb3.mono K1.out.size)) 1; have k2 : u3.cell? ⟨u1.heap.size, 2, none⟩ = some (.int .i64 dst) := frame_ten (K1.out.trans (hb3.mono K1.out.size)) 2; have k3 : u3.cell? ⟨u1.heap.size, 3, none⟩ = some (.int .i64 gen) := frame_ten (K1.out.trans (hb3.mono K1.out.size)) 3; have k4 : u3.cell? ⟨u1.heap.size, 4, none⟩ = some (.int .i64 hop) := frame_ten (K1.out.trans (hb3.mono K1.out.size)) 4; have k5 : u3.cell? ⟨u1.heap.size, 5, none⟩ = some (.int .u64 bits) := frame_ten (K1.out.trans (hb3.mono K1.out.size)) 5; have k6 : u3.cell? ⟨u1.heap.size, 6, none⟩ = some (.int .i64 tg) := frame_ten (K1.out.trans (hb3.mono K1.out.size)) 6; have k7 : u3.cell? ⟨u1.heap.size, 7, none⟩ = some (.int .i64 th) := frame_ten (K1.out.trans (hb3.mono K1.out.size)) 7; have k8 : u3.cell? ⟨u1.heap.size, 8, none⟩ = some (.slice ps1 st.length cs1) := frame_ten (K1.out.trans (hb3.mono K1.out.size)) 8; have k9 : u3.cell? ⟨u1.heap.size, 9, none⟩ = some (.int .i64 ts) := frame_ten (K1.out.trans (hb3.mono K1.out.size)) 9; have k10 : u3.cell? ⟨u1.heap.size, 10, none⟩ = some (.slice p1 rows.length c1) := frame_ten (K1.out.trans (hb3.mono K1.out.size)) 10; have L3 := Lib.hid (L1b.out.on hb3); have B3 := Lib.hid (B2.out.trans (hb3.mono B2.out.size)); clear hb3 HS L1b L2 B2 K1)
    | (go_at_call 6; (with_reducible refine (alive_any _).mono ?_); rintro e u4 ⟨rfl, hb⟩; have B4 := B3.out.trans (hb.mono B3.out.size); clear hb))
  go_ret
  exact ⟨rfl, B4⟩

set_option maxRecDepth 100000 in
set_option maxHeartbeats 4000000 in
/-- Bytes of a frame; a cut that is none. -/
theorem whole (q : Option Addr) (d : Nat) (xs : List Int) (cut : Int) (w : World) (kind src dst gen hop bits tg th ts : Int) (st : List Int) (rows : List Rw) (hn : (xs.length : Int) ≤ 4000)
    (hd : ∀ u, Below w.heap.size w u → Calls Try.prog 21 #[.slice q xs.length d] u (fun e u' => ∃ ps cs p c, e = .returned (.tuple #[.agg #[.int .i64 kind, .int .i64 src, .int .i64 dst, .int .i64 gen, .int .i64 hop, .int .u64 bits, .int .i64 tg, .int .i64 th, .slice ps st.length cs, .int .i64 ts, .slice p rows.length c], .int .i64 0]) ∧ Lying u' ⟨kind, src, dst, gen, hop, bits, ⟨tg, th, st, ⟨ts, rows⟩⟩⟩ ps p ∧ Below u.heap.size u u'))
    (hp : ∀ u, Below w.heap.size w u → Calls Try.prog 23 #[.slice q xs.length d] u (fun e u' => ∃ ps cs p c, e = .returned (.tuple #[.agg #[.int .i64 kind, .int .i64 src, .int .i64 dst, .int .i64 gen, .int .i64 hop, .int .u64 bits, .int .i64 tg, .int .i64 th, .slice ps st.length cs, .int .i64 ts, .slice p rows.length c], .int .i64 0]) ∧ Lying u' ⟨kind, src, dst, gen, hop, bits, ⟨tg, th, st, ⟨ts, rows⟩⟩⟩ ps p ∧ Below u.heap.size u u'))
    (hs : ∀ u ps cs p c ps' cs' p' c', Lying u ⟨kind, src, dst, gen, hop, bits, ⟨tg, th, st, ⟨ts, rows⟩⟩⟩ ps p → Lying u ⟨kind, src, dst, gen, hop, bits, ⟨tg, th, st, ⟨ts, rows⟩⟩⟩ ps' p' → Calls Try.prog 14 #[.agg #[.int .i64 kind, .int .i64 src, .int .i64 dst, .int .i64 gen, .int .i64 hop, .int .u64 bits, .int .i64 tg, .int .i64 th, .slice ps st.length cs, .int .i64 ts, .slice p rows.length c], .agg #[.int .i64 kind, .int .i64 src, .int .i64 dst, .int .i64 gen, .int .i64 hop, .int .u64 bits, .int .i64 tg, .int .i64 th, .slice ps' st.length cs', .int .i64 ts, .slice p' rows.length c']] u (Asked u true))
    (he : ∀ u ps cs p c, Lying u ⟨kind, src, dst, gen, hop, bits, ⟨tg, th, st, ⟨ts, rows⟩⟩⟩ ps p → Calls Try.prog 20 #[.agg #[.int .i64 kind, .int .i64 src, .int .i64 dst, .int .i64 gen, .int .i64 hop, .int .u64 bits, .int .i64 tg, .int .i64 th, .slice ps st.length cs, .int .i64 ts, .slice p rows.length c]] u (Made 5 u xs (fun v => .tuple #[v, .int .i64 0]))) (hc : Cel w q xs)
    (hcut : cut < 0 ∨ (0 ≤ cut ∧ (xs.length : Int) ≤ cut)) :
    Calls Try.prog 4 #[.slice q xs.length d, .int .i64 cut] w (Asked w true) := by
  have HD := Lib.hid hd
  have HP := Lib.hid hp
  have HS := Lib.hid hs
  clear hd hp hs
  have HE := Lib.hid he
  have HC := Lib.hid hc
  clear he hc
  rcases hcut with hcut | ⟨h0, h1⟩
  all_goals
    go_enter Try.func4, Try.ntmps4
    go_wp2_with (first
    | (go_at_call 21; (with_reducible refine (HD.out _ (Below.refl _ _)).mono ?_); rintro e u1 ⟨ps1, cs1, p1, c1, rfl, hl1, hb1⟩; have bx1 : Below u1.heap.size u1 (u1.alloc (.cells #[.int .i64 kind, .int .i64 src, .int .i64 dst, .int .i64 gen, .int .i64 hop, .int .u64 bits, .int .i64 tg, .int .i64 th, .slice ps1 st.length cs1, .int .i64 ts, .slice p1 rows.length c1] 31)) := ((Below.refl _ _).alloc (Nat.le_refl _) _); have L1 := Lib.hid (hl1.on bx1); have B1 := Lib.hid (hb1.trans (bx1.mono hb1.size)); clear hl1 hb1 bx1 HD)
    | (go_at_call 23; (with_reducible refine (HP.out _ B1.out).mono ?_); rintro e u2 ⟨ps2, cs2, p2, c2, rfl, hl2, hb2⟩; have k0 : u2.cell? ⟨u1.heap.size, 0, none⟩ = some (.int .i64 kind) := frame_ten hb2 0; have k1 : u2.cell? ⟨u1.heap.size, 1, none⟩ = some (.int .i64 src) := frame_ten hb2 1; have k2 : u2.cell? ⟨u1.heap.size, 2, none⟩ = some (.int .i64 dst) := frame_ten hb2 2; have k3 : u2.cell? ⟨u1.heap.size, 3, none⟩ = some (.int .i64 gen) := frame_ten hb2 3; have k4 : u2.cell? ⟨u1.heap.size, 4, none⟩ = some (.int .i64 hop) := frame_ten hb2 4; have k5 : u2.cell? ⟨u1.heap.size, 5, none⟩ = some (.int .u64 bits) := frame_ten hb2 5; have k6 : u2.cell? ⟨u1.heap.size, 6, none⟩ = some (.int .i64 tg) := frame_ten hb2 6; have k7 : u2.cell? ⟨u1.heap.size, 7, none⟩ = some (.int .i64 th) := frame_ten hb2 7; have k8 : u2.cell? ⟨u1.heap.size, 8, none⟩ = some (.slice ps1 st.length cs1) := frame_ten hb2 8; have k9 : u2.cell? ⟨u1.heap.size, 9, none⟩ = some (.int .i64 ts) := frame_ten hb2 9; have k10 : u2.cell? ⟨u1.heap.size, 10, none⟩ = some (.slice p1 rows.length c1) := frame_ten hb2 10; have z1 : u1.heap.size < u2.heap.size := (Nat.lt_of_lt_of_le (by simp) hb2.size); have bx2 : Below u2.heap.size u2 (u2.alloc (.cells #[.int .i64 kind, .int .i64 src, .int .i64 dst, .int .i64 gen, .int .i64 hop, .int .u64 bits, .int .i64 tg, .int .i64 th, .slice ps2 st.length cs2, .int .i64 ts, .slice p2 rows.length c2] 31)) := ((Below.refl _ _).alloc (Nat.le_refl _) _); have L1b := Lib.hid ((L1.out.on hb2).on bx2); have L2 := Lib.hid (hl2.on bx2); have K1 := Lib.hid (hb2.trans (bx2.mono hb2.size)); have B2 := Lib.hid (B1.out.trans ((hb2.trans (bx2.mono hb2.size)).mono B1.out.size)); clear hl2 hb2 bx2 HP L1 B1)
    | (go_at_call 14; (with_reducible refine (HS.out _ ps1 cs1 p1 c1 ps2 cs2 p2 c2 L1b.out L2.out).mono ?_); rintro e u3 ⟨rfl, hb3⟩; clear k0 k1 k2 k3 k4 k5 k6 k7 k8 k9 k10; have k0 : u3.cell? ⟨u1.heap.size, 0, none⟩ = some (.int .i64 kind) := frame_ten (K1.out.trans (hb3.mono K1.out.size)) 0; have k1 : u3.cell? ⟨u1.heap.size, 1, none⟩ = some (.int .i64 src) := frame_ten (K1.out.trans (hb3.mono K1.out.size)) 1; have k2 : u3.cell? ⟨u1.heap.size, 2, none⟩ = some (.int .i64 dst) := frame_ten (K1.out.trans (hb3.mono K1.out.size)) 2; have k3 : u3.cell? ⟨u1.heap.size, 3, none⟩ = some (.int .i64 gen) := frame_ten (K1.out.trans (hb3.mono K1.out.size)) 3; have k4 : u3.cell? ⟨u1.heap.size, 4, none⟩ = some (.int .i64 hop) := frame_ten (K1.out.trans (hb3.mono K1.out.size)) 4; have k5 : u3.cell? ⟨u1.heap.size, 5, none⟩ = some (.int .u64 bits) := frame_ten (K1.out.trans (hb3.mono K1.out.size)) 5; have k6 : u3.cell? ⟨u1.heap.size, 6, none⟩ = some (.int .i64 tg) := frame_ten (K1.out.trans (hb3.mono K1.out.size)) 6; have k7 : u3.cell? ⟨u1.heap.size, 7, none⟩ = some (.int .i64 th) := frame_ten (K1.out.trans (hb3.mono K1.out.size)) 7; have k8 : u3.cell? ⟨u1.heap.size, 8, none⟩ = some (.slice ps1 st.length cs1) := frame_ten (K1.out.trans (hb3.mono K1.out.size)) 8; have k9 : u3.cell? ⟨u1.heap.size, 9, none⟩ = some (.int .i64 ts) := frame_ten (K1.out.trans (hb3.mono K1.out.size)) 9; have k10 : u3.cell? ⟨u1.heap.size, 10, none⟩ = some (.slice p1 rows.length c1) := frame_ten (K1.out.trans (hb3.mono K1.out.size)) 10; have L3 := Lib.hid (L1b.out.on hb3); have B3 := Lib.hid (B2.out.trans (hb3.mono B2.out.size)); clear hb3 HS L1b L2 B2 K1)
    | (go_at_call 20; (with_reducible refine (HE.out _ ps1 cs1 p1 c1 L3.out).mono ?_); rintro e u4 ⟨v, rfl, ho, hb4⟩; obtain ⟨pv, cv, rfl⟩ := own_slice ho; have t1 := own_text (P := Try.prog) (s := 9) Try.underlying40 Try.underlying5 Try.underlying9 ho; have t2 : (convert 40 9 (.slice q xs.length d)).run Try.prog u4 = _ := cel_text (HC.out.below (B3.out.trans (hb4.mono B3.out.size))); have B4 := Lib.hid (B3.out.trans (hb4.mono B3.out.size)); clear ho hb4 HE L3 B3; clear k0 k1 k2 k3 k4 k5 k6 k7 k8 k9 k10)
    | (go_at_call 6; (with_reducible refine (alive_any _).mono ?_); rintro e u5 ⟨rfl, hb⟩; have B5 := B4.out.trans (hb.mono B4.out.size); clear hb))
    go_ret
    exact ⟨rfl, B5⟩

set_option maxRecDepth 100000 in
set_option maxHeartbeats 4000000 in
/-- Bytes of a frame; a part of them. -/
theorem part_ (q : Option Addr) (d : Nat) (xs : List Int) (k : Nat) (w : World) (kind src dst gen hop bits tg th ts : Int) (st : List Int) (rows : List Rw) (hn : (xs.length : Int) ≤ 4000)
    (hd : ∀ u, Below w.heap.size w u → Calls Try.prog 21 #[.slice q xs.length d] u (fun e u' => ∃ ps cs p c, e = .returned (.tuple #[.agg #[.int .i64 kind, .int .i64 src, .int .i64 dst, .int .i64 gen, .int .i64 hop, .int .u64 bits, .int .i64 tg, .int .i64 th, .slice ps st.length cs, .int .i64 ts, .slice p rows.length c], .int .i64 0]) ∧ Lying u' ⟨kind, src, dst, gen, hop, bits, ⟨tg, th, st, ⟨ts, rows⟩⟩⟩ ps p ∧ Below u.heap.size u u'))
    (hp : ∀ u, Below w.heap.size w u → Calls Try.prog 23 #[.slice q xs.length d] u (fun e u' => ∃ ps cs p c, e = .returned (.tuple #[.agg #[.int .i64 kind, .int .i64 src, .int .i64 dst, .int .i64 gen, .int .i64 hop, .int .u64 bits, .int .i64 tg, .int .i64 th, .slice ps st.length cs, .int .i64 ts, .slice p rows.length c], .int .i64 0]) ∧ Lying u' ⟨kind, src, dst, gen, hop, bits, ⟨tg, th, st, ⟨ts, rows⟩⟩⟩ ps p ∧ Below u.heap.size u u'))
    (hs : ∀ u ps cs p c ps' cs' p' c', Lying u ⟨kind, src, dst, gen, hop, bits, ⟨tg, th, st, ⟨ts, rows⟩⟩⟩ ps p → Lying u ⟨kind, src, dst, gen, hop, bits, ⟨tg, th, st, ⟨ts, rows⟩⟩⟩ ps' p' → Calls Try.prog 14 #[.agg #[.int .i64 kind, .int .i64 src, .int .i64 dst, .int .i64 gen, .int .i64 hop, .int .u64 bits, .int .i64 tg, .int .i64 th, .slice ps st.length cs, .int .i64 ts, .slice p rows.length c], .agg #[.int .i64 kind, .int .i64 src, .int .i64 dst, .int .i64 gen, .int .i64 hop, .int .u64 bits, .int .i64 tg, .int .i64 th, .slice ps' st.length cs', .int .i64 ts, .slice p' rows.length c']] u (Asked u true))
    (he : ∀ u ps cs p c, Lying u ⟨kind, src, dst, gen, hop, bits, ⟨tg, th, st, ⟨ts, rows⟩⟩⟩ ps p → Calls Try.prog 20 #[.agg #[.int .i64 kind, .int .i64 src, .int .i64 dst, .int .i64 gen, .int .i64 hop, .int .u64 bits, .int .i64 tg, .int .i64 th, .slice ps st.length cs, .int .i64 ts, .slice p rows.length c]] u (Made 5 u xs (fun v => .tuple #[v, .int .i64 0]))) (hc : Cel w q xs)
    (hk : k < xs.length) (hcap : (xs.length : Int) ≤ (d : Int)) (hq : ∃ g o, q = some ⟨g, o, none⟩)
    (hx : ∀ u, Below w.heap.size w u → Calls Try.prog 21 #[.slice q k d] u (fun e u' => ∃ ps cs p c, e = .returned (.tuple #[.agg #[.int .i64 0, .int .i64 0, .int .i64 0, .int .i64 0, .int .i64 0, .int .u64 0, .int .i64 0, .int .i64 0, .slice ps 0 cs, .int .i64 0, .slice p 0 c], .int .i64 2]) ∧ Below u.heap.size u u')) :
    Calls Try.prog 4 #[.slice q xs.length d, .int .i64 (k : Int)] w (Asked w true) := by
  obtain ⟨g, o, rfl⟩ := hq
  have HD := Lib.hid hd
  have HP := Lib.hid hp
  have HS := Lib.hid hs
  clear hd hp hs
  have HE := Lib.hid he
  have HC := Lib.hid hc
  have HX := Lib.hid hx
  clear he hc hx
  go_enter Try.func4, Try.ntmps4
  go_wp2_with (first
    | (go_at_call 21; (with_reducible refine (HD.out _ (Below.refl _ _)).mono ?_); rintro e u1 ⟨ps1, cs1, p1, c1, rfl, hl1, hb1⟩; have bx1 : Below u1.heap.size u1 (u1.alloc (.cells #[.int .i64 kind, .int .i64 src, .int .i64 dst, .int .i64 gen, .int .i64 hop, .int .u64 bits, .int .i64 tg, .int .i64 th, .slice ps1 st.length cs1, .int .i64 ts, .slice p1 rows.length c1] 31)) := ((Below.refl _ _).alloc (Nat.le_refl _) _); have L1 := Lib.hid (hl1.on bx1); have B1 := Lib.hid (hb1.trans (bx1.mono hb1.size)); clear hl1 hb1 bx1 HD)
    | (go_at_call 23; (with_reducible refine (HP.out _ B1.out).mono ?_); rintro e u2 ⟨ps2, cs2, p2, c2, rfl, hl2, hb2⟩; have k0 : u2.cell? ⟨u1.heap.size, 0, none⟩ = some (.int .i64 kind) := frame_ten hb2 0; have k1 : u2.cell? ⟨u1.heap.size, 1, none⟩ = some (.int .i64 src) := frame_ten hb2 1; have k2 : u2.cell? ⟨u1.heap.size, 2, none⟩ = some (.int .i64 dst) := frame_ten hb2 2; have k3 : u2.cell? ⟨u1.heap.size, 3, none⟩ = some (.int .i64 gen) := frame_ten hb2 3; have k4 : u2.cell? ⟨u1.heap.size, 4, none⟩ = some (.int .i64 hop) := frame_ten hb2 4; have k5 : u2.cell? ⟨u1.heap.size, 5, none⟩ = some (.int .u64 bits) := frame_ten hb2 5; have k6 : u2.cell? ⟨u1.heap.size, 6, none⟩ = some (.int .i64 tg) := frame_ten hb2 6; have k7 : u2.cell? ⟨u1.heap.size, 7, none⟩ = some (.int .i64 th) := frame_ten hb2 7; have k8 : u2.cell? ⟨u1.heap.size, 8, none⟩ = some (.slice ps1 st.length cs1) := frame_ten hb2 8; have k9 : u2.cell? ⟨u1.heap.size, 9, none⟩ = some (.int .i64 ts) := frame_ten hb2 9; have k10 : u2.cell? ⟨u1.heap.size, 10, none⟩ = some (.slice p1 rows.length c1) := frame_ten hb2 10; have z1 : u1.heap.size < u2.heap.size := (Nat.lt_of_lt_of_le (by simp) hb2.size); have bx2 : Below u2.heap.size u2 (u2.alloc (.cells #[.int .i64 kind, .int .i64 src, .int .i64 dst, .int .i64 gen, .int .i64 hop, .int .u64 bits, .int .i64 tg, .int .i64 th, .slice ps2 st.length cs2, .int .i64 ts, .slice p2 rows.length c2] 31)) := ((Below.refl _ _).alloc (Nat.le_refl _) _); have L1b := Lib.hid ((L1.out.on hb2).on bx2); have L2 := Lib.hid (hl2.on bx2); have K1 := Lib.hid (hb2.trans (bx2.mono hb2.size)); have B2 := Lib.hid (B1.out.trans ((hb2.trans (bx2.mono hb2.size)).mono B1.out.size)); clear hl2 hb2 bx2 HP L1 B1)
    | (go_at_call 14; (with_reducible refine (HS.out _ ps1 cs1 p1 c1 ps2 cs2 p2 c2 L1b.out L2.out).mono ?_); rintro e u3 ⟨rfl, hb3⟩; clear k0 k1 k2 k3 k4 k5 k6 k7 k8 k9 k10; have k0 : u3.cell? ⟨u1.heap.size, 0, none⟩ = some (.int .i64 kind) := frame_ten (K1.out.trans (hb3.mono K1.out.size)) 0; have k1 : u3.cell? ⟨u1.heap.size, 1, none⟩ = some (.int .i64 src) := frame_ten (K1.out.trans (hb3.mono K1.out.size)) 1; have k2 : u3.cell? ⟨u1.heap.size, 2, none⟩ = some (.int .i64 dst) := frame_ten (K1.out.trans (hb3.mono K1.out.size)) 2; have k3 : u3.cell? ⟨u1.heap.size, 3, none⟩ = some (.int .i64 gen) := frame_ten (K1.out.trans (hb3.mono K1.out.size)) 3; have k4 : u3.cell? ⟨u1.heap.size, 4, none⟩ = some (.int .i64 hop) := frame_ten (K1.out.trans (hb3.mono K1.out.size)) 4; have k5 : u3.cell? ⟨u1.heap.size, 5, none⟩ = some (.int .u64 bits) := frame_ten (K1.out.trans (hb3.mono K1.out.size)) 5; have k6 : u3.cell? ⟨u1.heap.size, 6, none⟩ = some (.int .i64 tg) := frame_ten (K1.out.trans (hb3.mono K1.out.size)) 6; have k7 : u3.cell? ⟨u1.heap.size, 7, none⟩ = some (.int .i64 th) := frame_ten (K1.out.trans (hb3.mono K1.out.size)) 7; have k8 : u3.cell? ⟨u1.heap.size, 8, none⟩ = some (.slice ps1 st.length cs1) := frame_ten (K1.out.trans (hb3.mono K1.out.size)) 8; have k9 : u3.cell? ⟨u1.heap.size, 9, none⟩ = some (.int .i64 ts) := frame_ten (K1.out.trans (hb3.mono K1.out.size)) 9; have k10 : u3.cell? ⟨u1.heap.size, 10, none⟩ = some (.slice p1 rows.length c1) := frame_ten (K1.out.trans (hb3.mono K1.out.size)) 10; have L3 := Lib.hid (L1b.out.on hb3); have B3 := Lib.hid (B2.out.trans (hb3.mono B2.out.size)); clear hb3 HS L1b L2 B2 K1)
    | (go_at_call 20; (with_reducible refine (HE.out _ ps1 cs1 p1 c1 L3.out).mono ?_); rintro e u4 ⟨v, rfl, ho, hb4⟩; obtain ⟨pv, cv, rfl⟩ := own_slice ho; have t1 := own_text (P := Try.prog) (s := 9) Try.underlying40 Try.underlying5 Try.underlying9 ho; have t2 : (convert 40 9 (.slice (some ⟨g, o, none⟩) xs.length d)).run Try.prog u4 = _ := cel_text (HC.out.below (B3.out.trans (hb4.mono B3.out.size))); have B4 := Lib.hid (B3.out.trans (hb4.mono B3.out.size)); clear ho hb4 HE L3 B3; clear k0 k1 k2 k3 k4 k5 k6 k7 k8 k9 k10)
    | (go_at_call 21; (with_reducible refine (HX.out _ B4.out).mono ?_); rintro e u5 ⟨ps5, cs5, p5, c5, rfl, hb⟩; have B5 := Lib.hid ((B4.out.trans (hb.mono B4.out.size)).alloc (B4.out.trans (hb.mono B4.out.size)).size (.cells #[.int .i64 0, .int .i64 0, .int .i64 0, .int .i64 0, .int .i64 0, .int .u64 0, .int .i64 0, .int .i64 0, .slice ps5 0 cs5, .int .i64 0, .slice p5 0 c5] 31)); clear hb B4 HX)
    | (go_at_call 6; (with_reducible refine (alive_any _).mono ?_); rintro e u6 ⟨rfl, hb⟩; have B6 := B5.out.trans (hb.mono B5.out.size); clear hb))
  go_ret
  exact ⟨rfl, B6⟩

theorem same_refl (f : Fr) : sameFrame f f = true := by
  have hi : ∀ l : List Int, sameInts l l = true := fun l => by
    unfold sameInts
    rw [beq_self_eq_true, Bool.true_and]
    exact allTo_true fun j _ => by simp
  have hr : ∀ r : Rw, sameRow r r = true := fun r => by
    unfold sameRow sameLeases
    simp only [beq_self_eq_true, Bool.true_and]
    exact allTo_true fun j _ => by simp [samePair]
  have ht : ∀ t : Tb, sameTable t t = true := fun t => by
    unfold sameTable
    simp only [beq_self_eq_true, Bool.true_and]
    exact allTo_true fun j _ => hr _
  simp [sameFrame, sameToken, hi, ht]

/-- A slice of bytes that came in. -/
theorem open_bytes {H : Type} {enc : TypeId × Value → H} {P : Program} {w : World} {base : Nat} {spare : Nat → Bool} {held : Bool} {r : Reach} {b0 : Nat} {t e : TypeId} {k : IntKind} {v : Value} {d : DataW H} {ps : List MemPlace} (ht : P.underlying t = some (.slice e)) (he : P.underlying e = some (.int k)) (hc : P.cellsOf e = 1)
    (hval : Value.okWide P w r b0 t v) (h : DataW.Trod enc P w base spare held t v d ps) :
    ∃ (p : Option Addr) (c : Nat) (zs : List Int), v = .slice p zs.length c ∧ (p = none → zs = [] ∧ c = 0) ∧ (zs.length : Int) ≤ (c : Int) ∧ (∀ n ∈ zs, (Lit.int k n).wf = true) ∧
      (zs = [] ∨ ∃ b o, p = some ⟨b, o, none⟩ ∧ ∀ j, j < zs.length → w.cell? ⟨b, o + j, none⟩ = some (.int k (zs.getD j 0))) := by
  obtain ⟨a0, len0, cap0, rfl⟩ := okWide_slice ht hval
  obtain ⟨fuel, hf⟩ := h
  rcases open_ints ht he hc hf with ⟨hcs, _⟩ | ⟨x, l, c, zs, hcs, _, hl, hm, hz, _, hcell, hwz⟩
  · simp [Value.cells] at hcs
    obtain ⟨rfl, rfl, rfl⟩ := hcs
    exact ⟨none, 0, [], rfl, fun _ => ⟨rfl, rfl⟩, by simp, (by intro n hn; cases hn), .inl rfl⟩
  · simp [Value.cells] at hcs
    obtain ⟨rfl, rfl, rfl⟩ := hcs
    have hlz : len0 ≤ zs.length := by rw [hz]; split <;> omega
    have hlen : (zs.take len0).length = len0 := by simp; omega
    refine ⟨some x, cap0, zs.take len0, by rw [hlen], (fun e => by cases e), (by rw [hlen]; omega), fun n hn => hwz n (List.mem_of_mem_take hn), ?_⟩
    by_cases h0 : len0 = 0
    · left; simp [h0]
    · right
      obtain ⟨b, o, sp⟩ := x
      have hs : sp = none := by simpa [Addr.add] using World.cell?_spot (hcell 0 (by omega))
      subst hs
      refine ⟨b, o, rfl, fun j hj => ?_⟩
      rw [hlen] at hj
      have := hcell j (by omega)
      rw [add_plain] at this
      rw [this]
      simp [List.getD, hj]

set_option maxHeartbeats 1000000 in
theorem walk (W : World) (q : Option Addr) (d : Nat) (xs : List Int) (hp : q = none → xs = [] ∧ d = 0) (hcap : (xs.length : Int) ≤ (d : Int)) (hw : ∀ n ∈ xs, (Lit.int .u8 n).wf = true) (hc : Cel W q xs) (cut : Int) :
    Calls Try.prog 4 #[.slice q xs.length d, .int .i64 cut] W (Asked W true) := by
  have hy : IsBytes xs := fun x hx => Row.u8_bounds (hw x hx)
  have hp1 : q = none → xs = [] := fun e => (hp e).1
  by_cases hl : xs.length ≤ 4000
  · have hdec := fun (u : World) (hu : Below W.heap.size W u) => decode_any q d xs u (by omega) hy (hc.below hu) hp1
    have hpar := fun (u : World) (hu : Below W.heap.size W u) => parse_any q d xs u (by omega) hy (hc.below hu) hp
    obtain ⟨ea, ef⟩ := alike_ok xs
    have eg : decFr rWay xs = decFr pWay xs := by unfold decFr; rw [ea, ef]
    unfold Decoded at hdec hpar
    rw [eg, ← ea] at hpar
    cases hok : rdOk pWay xs with
    | false =>
      have e0 : decFr pWay xs = ⟨0, 0, 0, 0, 0, 0, noTk⟩ := by unfold decFr; rw [hok]; rfl
      rw [hok, e0] at hdec hpar
      have hs := fun (u : World) (ps : Option Addr) (cs : Nat) (p : Option Addr) (c : Nat) (ps' : Option Addr) (cs' : Nat) (p' : Option Addr) (c' : Nat) (h1 : Lying u ⟨0, 0, 0, 0, 0, 0, noTk⟩ ps p) (h2 : Lying u ⟨0, 0, 0, 0, 0, 0, noTk⟩ ps' p') => same_any ⟨0, 0, 0, 0, 0, 0, noTk⟩ ⟨0, 0, 0, 0, 0, 0, noTk⟩ ps p ps' p' cs c cs' c' u h1 h2
      rw [same_refl] at hs
      exact bad q xs.length d cut W 0 0 0 0 0 0 0 0 0 [] [] (by omega) hdec hpar hs
    | true =>
      have e0 : decFr pWay xs = (rdFrame pWay (xs, false)).1 := by unfold decFr; rw [hok]; rfl
      rw [hok, e0] at hdec hpar
      obtain ⟨h1, h2⟩ := ok_means hok
      have h3 := ok_bytes xs hy hok
      have hkd := kind_in pWay pWay_ok (xs, false) hy
      have hs := fun (u : World) (ps : Option Addr) (cs : Nat) (p : Option Addr) (c : Nat) (ps' : Option Addr) (cs' : Nat) (p' : Option Addr) (c' : Nat) (h1 : Lying u (rdFrame pWay (xs, false)).1 ps p) (h2 : Lying u (rdFrame pWay (xs, false)).1 ps' p') => same_any (rdFrame pWay (xs, false)).1 (rdFrame pWay (xs, false)).1 ps p ps' p' cs c cs' c' u h1 h2
      rw [same_refl] at hs
      have he : ∀ u ps cs p c, Lying u (rdFrame pWay (xs, false)).1 ps p → Calls Try.prog 20 #[frameVal (rdFrame pWay (xs, false)).1 ps p cs c] u (Made 5 u xs (fun v => .tuple #[v, .int .i64 0])) := fun u ps cs p c h => (encode_any _ ps p cs c u hkd h).mono fun e u' k => by
        unfold Encoded at k
        rw [if_pos h2, h3] at k
        exact k
      generalize (rdFrame pWay (xs, false)).1 = G at hdec hpar hs he
      obtain ⟨kind, src, dst, gen, hop, bits, ⟨tg, th, st, ⟨ts, rows⟩⟩⟩ := G
      by_cases hcut : cut < 0 ∨ (0 ≤ cut ∧ (xs.length : Int) ≤ cut)
      · exact whole q d xs cut W kind src dst gen hop bits tg th ts st rows (by omega) hdec hpar hs he hc hcut
      · obtain ⟨k, rfl⟩ : ∃ k : Nat, cut = (k : Int) := ⟨cut.toNat, by omega⟩
        have hk : k < xs.length := by omega
        have hq : ∃ g o, q = some ⟨g, o, none⟩ := by
          rcases hc with h | ⟨g, o, h, _⟩
          · rw [h] at hk; simp at hk
          · exact ⟨g, o, h⟩
        refine part_ q d xs k W kind src dst gen hop bits tg th ts st rows (by omega) hdec hpar hs he hc hk hcap hq (fun u hu => ?_)
        have hlen : (xs.take k).length = k := by simp; omega
        have hcutd := decode_any q d (xs.take k) u (by omega) (hy.take k) ((hc.below hu).take k) (fun e => by rw [hp1 e]; simp)
        rw [hlen] at hcutd
        refine hcutd.mono ?_
        intro e u' hh
        obtain ⟨ps, cs, p, c, rfl, _, hb⟩ := hh
        have hno := part_none xs hy hok k hk
        unfold decFr
        rw [hno]
        exact ⟨ps, cs, p, c, rfl, hb⟩
  · exact long q xs.length d cut W (by omega)

theorem own : ownKnob Try.prog.godebug = none := by kernel_rfl

set_option maxRecDepth 100000 in
theorem lifted (os : Os) (started : os.Started) (H : Type) (enc : TypeId × Value → H) :
    ReturnsInHanded {} Try.checked os 4 .any (Rows.frameBytesSpec.pre6 enc Try.prog Try.f4 Rows.frameBytesRow.domain false) (Rows.frameBytesSpec.post enc Try.prog Try.f4 false true false false) := by
  refine returnsInHanded_of_change (C := Try.checked) own started (by kernel_rfl) Try.func4
    (ChangeSpec.witness6 (enc := enc) (C := Try.checked) false ⟨#[], #[.slice none 0 0, .int .i64 0], []⟩ 16 (by kernel_rfl) (by kernel_rfl) (by kernel_rfl) (by kernel_rfl)) ?_
  intro W base args ds gs before hval0 hW hcnd _
  have hval : ∀ (j : Nat) t v, Try.f4.params[j]? = some t → args[j]? = some v → Value.okWide Try.prog W .any base t v := hval0
  have hW' := hW
  obtain ⟨p, q, hA0, hV, rfl, hfz, hnd⟩ := hW
  have hA : DataW.TrodAll enc Try.prog W 0 (fun _ => true) true Try.f4.params.toList args.toList ds p := hA0
  rw [Try.params4] at hA hval
  obtain ⟨v0, vs0, d0, ds0, p0, q0, hargs, rfl, rfl, h0, r0⟩ := trodAll_cons hA
  obtain ⟨v1, vs1, d1, ds1, p1, q1, rfl, rfl, rfl, h1, r1⟩ := trodAll_cons r0
  obtain ⟨rfl, rfl, rfl⟩ := trodAll_nil r1
  obtain rfl : args = #[v0, v1] := by cases args; simp_all
  obtain ⟨rfl, rfl⟩ := trodVars_none hV
  obtain ⟨p0', c0, zs0, rfl, hn0, hl0, hw0, hz0⟩ := open_bytes Try.underlying40 Try.underlying5 (by kernel_rfl) (hval 0 40 v0 rfl rfl) h0
  obtain ⟨a1, rfl, -, -, -⟩ := open_int Try.underlying3 (hval 1 3 v1 rfl rfl) h1
  clear hA0 hval0
  refine (walk W p0' c0 zs0 hn0 hl0 hw0 hz0 a1).mono fun e W' ⟨he, hg⟩ => ?_
  subst he
  exact ⟨_, rfl, Row.law_post hW' rfl rfl rfl rfl (by kernel_rfl) Try.underlying4 (by kernel_rfl) (by kernel_rfl) hg⟩

theorem over : Rows.frameBytesRow.holds Try.pinned (OpenSpec.ofChange Rows.frameBytesSpec) :=
  OpenClaim.holds_of_wide 4 Try.f4 rfl rfl rfl rfl rfl rfl rfl ⟨rfl, rfl, rfl, rfl, rfl⟩ rfl rfl rfl rfl rfl (by kernel_rfl) Try.func4 (by kernel_rfl)
    (of_decide_eq_true (by kernel_rfl)) (by unfold Func.isWrapper; first | (rw [if_pos (by decide +kernel)]; kernel_rfl) | (rw [if_neg (by decide +kernel)]; exact ⟨rfl, rfl⟩))
    (fun os started H enc _ => lifted os started H enc)

/-- The given statement. -/
theorem proved : Rows.FrameBytesSaid :=
  over
#print axioms proved
end Go.Proofs.Ytnogfhjeckkckaa.frameBytes
