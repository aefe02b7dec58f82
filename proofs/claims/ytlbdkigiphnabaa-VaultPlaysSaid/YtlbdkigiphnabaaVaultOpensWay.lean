/-
  VaultOpens, whatever the program's vault is, if its calls do what is asked of them: for all bytes; of more than 3000 the live question alone is asked.
-/
import Derived.Test.YtlbdkigiphnabaaVaultAlive
namespace Go.Proofs.Ytlbdkigiphnabaa.Vault
open Go.RowKit
open _root_.Go.Proofs.Ytlbdkigiphnabaa.Codec (IsBytes Cel cells8 own_below own_lies lt_of_heap)
open _root_.Go.Proofs.Ytlbdkigiphnabaa.Disk (Sl Ref Dsk Holds all over dWrite eWrite Sli own_sli)

theorem parse_len : ∀ (n : Nat) (b : List Int) (l0 l : List Sv), parse n b l0 = some l → l.length = l0.length + n
  | 0, b, l0, l, h => by simp [parse] at h; simp [h]
  | n + 1, b, l0, l, h => by
    rw [parse] at h
    split at h
    · have := parse_len n _ _ _ h
      simp at this
      omega
    · cases h
theorem states_len {b : List Int} {l : List Sv} (h : states b = some l) : l.length = b.length / 32 := by
  have := parse_len _ _ _ _ h
  simpa using this
/-- append of bytes onto an empty new slice: what is owned. -/
theorem app_row {w : World} {ops : Array Oper} {rest : List Oper} {o : Oper} {a : Act} {Q : Exit → Act → World → Prop} (hgd : o.guard = none) (s y : Operand)
    (ho : o.op = .call { callee := .builtin .append, args := #[s, y], argTypes := #[39, 39] })
    (base : Nat) (v : Value) (hs : a.eval s = v) (hown : w.ownsRow base 5 1 v 0 [])
    (q : Option Addr) (c : Nat) (b : List Int) (n : Nat) (hn : b.length = n) (hy : a.eval y = .slice q n c) (hq : q = none → b = [] ∧ c = 0) (hb : Cel w q b)
    (h63 : (n : Int) ≤ 16777216) (hbase : base ≤ w.heap.size)
    (h : ∀ p k w', w'.ownsRow base 5 1 (.slice p n k) b.length (cells8 b) → w.grownBy w' v.ownBlock → wpList Try.prog ops Q rest (a.put o.dst (.slice p n k)) w') : wpList Try.prog ops Q (o :: rest) a w := by
  subst hn
  refine Disk.app_any hgd s y ho base v 0 [] hs hown q c b hy hq hb (by omega) hbase fun v' w' h1 h2 => ?_
  rw [Nat.zero_add, List.nil_append] at h1
  obtain ⟨p, k, rfl, _⟩ := own_lies h1
  exact h p k w' h1 h2
/-- A text that lies. -/
theorem cel_text {w : World} {p : Option Addr} {c : Nat} {xs : List Int} (h : Cel w p xs) : (convert 39 9 (.slice p xs.length c)).run Try.prog w = .ok (.string (strOfNums xs)) w := by
  have hs := Try.underlying9
  rcases h with h0 | ⟨b, o, rfl, hc⟩
  · subst h0
    have e : strOfNums [] = ByteArray.empty := by simp [strOfNums]; rfl
    rw [e]
    show (convert 39 9 (.slice p 0 c)).run Try.prog w = _
    rw [run_convert_bytes_string w 39 9 5 p 0 c Try.underlying39 Try.underlying5 hs]
    cases p with
    | none => simp [Conv.bytesToString]
    | some a => simp [Conv.bytesToString, loadCells]; rfl
  · exact run_convert_bytes_arg w 39 5 Try.underlying39 Try.underlying5 b o xs.length c xs rfl hc 9 hs

theorem ref_kept7 {B m : Nat} {w w' : World} {room : Int} {s : Sl} {x : Option Nat} (h : Ref 41 5 B w m room s x) (hg : w.grownBy w' (some m)) : Kept own7 w w' := by
  obtain ⟨_, p, c, q, k, hm, _⟩ := h
  exact .grown hm (by decide) hg
/-- The document's disk, made anew with loose bytes. -/
theorem ref_new {B n k : Nat} {u : World} {p : Option Addr} {b : List Int} {x : Option Nat} {u2 : World} (hn : b.length = n) (ho : u.ownsRow u2.heap.size 5 1 (.slice p n k) b.length (cells8 b)) (hx : ∀ g, x = some g → g < u2.heap.size) (hB : B ≤ u.heap.size) :
    Ref 41 5 B (u.alloc (.cells #[.int .i64 3000, .slice none 0 0, .slice p n k] 41)) u.heap.size 3000 ([], b) x := by
  subst hn
  obtain ⟨q', k', e, hS⟩ := own_sli ho hx
  simp only [Value.slice.injEq, true_and] at e
  obtain ⟨rfl, rfl⟩ := e
  exact ⟨hB, none, 0, p, k, heap_alloc_new _ _, .nil, hS.stays (.below ((Below.refl _ _).alloc (Nat.le_refl _) _))⟩
theorem opens_no {PV : Nat → World → Nat → Nat → Int → Vs → Option Nat → Prop} {B d : Nat} {w : World} {room : Int} {s : Sl} {x : Option Nat} {b : List Int} (hb : states b = none) (h : Calls Try.prog 8 #[.pointer (some ⟨d, 0, none⟩)] w fun e w' =>
      (states b = none ∧ e = .returned (.tuple #[.pointer none, .int .i64 2]) ∧ Below w.heap.size w w') ∨
      (∃ l q, states b = some l ∧ e = .returned (.tuple #[.pointer (some ⟨q, 0, none⟩), .int .i64 0]) ∧ Moved PV B w q d room (cut room s, l) x w')) :
    Calls Try.prog 8 #[.pointer (some ⟨d, 0, none⟩)] w fun e w' => e = .returned (.tuple #[.pointer none, .int .i64 2]) ∧ Below w.heap.size w w' := by
  refine h.mono ?_
  rintro e w' (h | ⟨l, q, h, _⟩)
  · exact h.2
  · rw [hb] at h; cases h
theorem opens_yes {PV : Nat → World → Nat → Nat → Int → Vs → Option Nat → Prop} {B d : Nat} {w : World} {room : Int} {s : Sl} {x : Option Nat} {b : List Int} {l : List Sv} (hb : states b = some l) (h : Calls Try.prog 8 #[.pointer (some ⟨d, 0, none⟩)] w fun e w' =>
      (states b = none ∧ e = .returned (.tuple #[.pointer none, .int .i64 2]) ∧ Below w.heap.size w w') ∨
      (∃ l q, states b = some l ∧ e = .returned (.tuple #[.pointer (some ⟨q, 0, none⟩), .int .i64 0]) ∧ Moved PV B w q d room (cut room s, l) x w')) :
    Calls Try.prog 8 #[.pointer (some ⟨d, 0, none⟩)] w fun e w' => ∃ q, e = .returned (.tuple #[.pointer (some ⟨q, 0, none⟩), .int .i64 0]) ∧ Moved PV B w q d room (cut room s, l) x w' := by
  refine h.mono ?_
  rintro e w' (⟨h, _⟩ | ⟨l', q, h, h2, h3⟩)
  · rw [hb] at h; cases h
  · rw [hb] at h
    simp only [Option.some.injEq] at h
    subst h
    exact ⟨q, h2, h3⟩
theorem ropens_no {B m : Nat} {w : World} {room : Int} {s : Sl} {x : Option Nat} {b : List Int} (hb : states b = none) (h : Calls Try.prog 9 #[.pointer (some ⟨m, 0, none⟩)] w fun e w' =>
      (states b = none ∧ e = .returned (.tuple #[.pointer none, .int .i64 2]) ∧ Below w.heap.size w w') ∨
      (∃ l, states b = some l ∧ e = .returned (.tuple #[.pointer (some ⟨w.heap.size, 0, none⟩), .int .i64 0]) ∧ Rv B w' w.heap.size m room (cut room s, l) x ∧ w.grownBy w' (some m))) :
    Calls Try.prog 9 #[.pointer (some ⟨m, 0, none⟩)] w fun e w' => e = .returned (.tuple #[.pointer none, .int .i64 2]) ∧ Below w.heap.size w w' := by
  refine h.mono ?_
  rintro e w' (h | ⟨l, h, _⟩)
  · exact h.2
  · rw [hb] at h; cases h
theorem ropens_yes {B m : Nat} {w : World} {room : Int} {s : Sl} {x : Option Nat} {b : List Int} {l : List Sv} (hb : states b = some l) (h : Calls Try.prog 9 #[.pointer (some ⟨m, 0, none⟩)] w fun e w' =>
      (states b = none ∧ e = .returned (.tuple #[.pointer none, .int .i64 2]) ∧ Below w.heap.size w w') ∨
      (∃ l, states b = some l ∧ e = .returned (.tuple #[.pointer (some ⟨w.heap.size, 0, none⟩), .int .i64 0]) ∧ Rv B w' w.heap.size m room (cut room s, l) x ∧ w.grownBy w' (some m))) :
    Calls Try.prog 9 #[.pointer (some ⟨m, 0, none⟩)] w fun e w' => e = .returned (.tuple #[.pointer (some ⟨w.heap.size, 0, none⟩), .int .i64 0]) ∧ Rv B w' w.heap.size m room (cut room s, l) x ∧ w.grownBy w' (some m) := by
  refine h.mono ?_
  rintro e w' (⟨h, _⟩ | ⟨l', h, h2⟩)
  · rw [hb] at h; cases h
  · rw [hb] at h
    simp only [Option.some.injEq] at h
    subst h
    exact h2

variable {PV : Nat → World → Nat → Nat → Int → Vs → Option Nat → Prop}
theorem opens_long (P : Way PV) (p : Option Addr) (n c : Nat) (W : World) (h : 3000 < (n : Int)) :
    Calls Try.prog 4 #[.slice p n c] W fun e w' => e = .returned (.bool true) ∧ Below W.heap.size W w' := by
  go_enter Try.func4, Try.ntmps4
  go_wp2_with (go_at_call 6; (with_reducible refine (alive_way P _).mono ?_); rintro e w' ⟨rfl, hg⟩)
  go_ret
  exact ⟨rfl, hg⟩

set_option maxRecDepth 100000 in
set_option maxHeartbeats 4000000 in
theorem opens_way (P : Way PV) (p : Option Addr) (c : Nat) (b : List Int) (W : World) (hl : (b.length : Int) ≤ 3000) (hq : p = none → b = [] ∧ c = 0) (hc : Cel W p b) (hy : IsBytes b) :
    Calls Try.prog 4 #[.slice p b.length c] W fun e w' => e = .returned (.bool true) ∧ Below W.heap.size W w' := by
  have hnew := new7 3000 W (by omega) (by omega)
  have hov : over 3000 ([], []) b = false := by simp [over]; omega
  have hd0 : dWrite 3000 ([], []) b = ([], b) := by simp [dWrite, hov]
  have he0 : eWrite 3000 ([], []) b = 0 := by simp [eWrite, hov]
  have hH0 : Holds 3000 ([], []) := by simp [Holds]
  have hH : Holds 3000 ([], b) := by simp [Holds]; omega
  have hcel := fun (u : World) (hu : Below W.heap.size W u) => hc.below hu
  have htext := fun (u : World) (hu : Below W.heap.size W u) => cel_text (c := c) (hcel u hu)
  have hwrite := fun (u : World) (hd : Dsk 65 5 W.heap.size u W.heap.size 3000 ([], []) none) (hu : Below W.heap.size W u) => Disk.write_any hd hH0 (by omega) (by omega) hu.size p c b (hcel u hu) hq (by omega)
  rw [hd0, he0] at hwrite
  have hopen := fun (u : World) (x : Option Nat) (hd : Dsk 65 5 W.heap.size u W.heap.size 3000 ([], b) x) (hu : Below W.heap.size W u) => P.opens hd hu.size hH (by omega) hy
  have hropen := fun (u : World) (m : Nat) (x : Option Nat) (hr : Ref 41 5 W.heap.size u m 3000 ([], b) x) (hx : ∀ g, x = some g → g < u.heap.size) (hu : Below W.heap.size W u) => ropen_any hr hu.size hx hH (by omega) hy
  have HB := Lib.hid (show all (([], b) : Sl) = b from rfl)
  generalize hn : b.length = n at *
  have HN := Lib.hid hn
  have HC := Lib.hid hcel
  have HQ := Lib.hid hq
  have HT := Lib.hid htext
  clear hov hd0 he0 hH0 hcel hq hc htext hn hy
  go_enter Try.func4, Try.ntmps4
  go_wp2_with (first
    | (go_at_call 7; (with_reducible refine hnew.mono ?_); rintro e u1 ⟨rfl, hd, hb⟩; have N1 := Lib.hid hd; have B1 := Lib.hid hb; clear hnew hd hb)
    | (go_at_call 23; (with_reducible refine (hwrite _ N1.out B1.out).mono ?_); rintro e u2 ⟨rfl, x2, hd, ha, hb⟩; have N2 := Lib.hid hd; have B2 := Lib.hid (B1.out.trans hb); have hmade : (u2.alloc (.cells #[] 5)).ownsRow u2.heap.size 5 1 (.slice (some ⟨u2.heap.size, 0, none⟩) 0 0) 0 [] := World.ownsRow_made u2 #[] 0 (Nat.le_refl _) (Nat.zero_le _) rfl; have bn : Below u2.heap.size u2 (u2.alloc (.cells #[] 5)) := (Below.refl _ _).alloc (Nat.le_refl _) _; have HM := Lib.hid hmade; have BN := Lib.hid bn; clear hwrite hd ha hb N1 B1 hmade bn)
    | (at_builtin; refine app_row rfl (.tmp 27) (.tmp 28) rfl u2.heap.size (.slice (some ⟨u2.heap.size, 0, none⟩) 0 0) rfl HM.out p c b n HN.out rfl HQ.out (HC.out _ (B2.out.trans (BN.out.mono B2.out.size))) (by omega) (by simp) ?_; intro p3 k3 u3 ho3 hg3; have hb3 := BN.out.grown hg3 (by simp) (fun k hk => (by simp [Value.ownBlock] at hk; omega)); have O3 := Lib.hid ho3; have BB3 := Lib.hid hb3; clear hg3 ho3 hb3 HM BN))
  have bx : Below u3.heap.size u3 (u3.alloc (.cells #[.int .i64 3000, .slice none 0 0, .slice p3 n k3] 41)) := (Below.refl _ _).alloc (Nat.le_refl _) _
  have N4 := Lib.hid ((N2.out.below BB3.out).below bx)
  have B4 := Lib.hid (B2.out.trans ((BB3.out.trans (bx.mono BB3.out.size)).mono B2.out.size))
  have R4 := Lib.hid (ref_new (x := x2) HN.out O3.out (file_lt N2.out) (Nat.le_trans B2.out.size BB3.out.size))
  clear N2 B2 O3 BB3 bx
  generalize u3.alloc (.cells #[.int .i64 3000, .slice none 0 0, .slice p3 n k3] 41) = u4 at *
  generalize u3.heap.size = m at *
  cases hs : states b with
  | none =>
    have ho1 := opens_no hs (hopen u4 x2 N4.out B4.out)
    have hr1 := fun u (hu : Below u4.heap.size u4 u) => ropens_no hs (hropen u m x2 (R4.out.below hu) (fun g e => Nat.lt_of_lt_of_le (file_lt N4.out g e) hu.size) (B4.out.trans (hu.mono B4.out.size)))
    clear hopen hropen hs
    go_wp2_with (first
      | (go_at_call 8; (with_reducible refine ho1.mono ?_); rintro e u5 ⟨rfl, hb⟩; have D5 := Lib.hid hb; clear ho1 hb)
      | (go_at_call 9; (with_reducible refine (hr1 _ D5.out).mono ?_); rintro e u6 ⟨rfl, hb⟩; have D6 := Lib.hid (D5.out.trans (hb.mono D5.out.size)); clear hr1 hb D5))
    have D7 := Lib.hid D6.out.drew
    have B7 := Lib.hid (B4.out.trans (D7.out.mono B4.out.size))
    have t0 := HT.out _ B7.out
    go_region_held (fun u => (convert 39 9 (.slice p n c)).run Try.prog u = .ok (.string (strOfNums b)) u) (first | assumption | exact t0) (first
      | (go_at_call 6; (with_reducible refine (alive_way P _).mono ?_); rintro e u8 ⟨rfl, hb⟩; have D8 := Lib.hid (D7.out.trans (hb.mono D7.out.size)); have B8 := Lib.hid (B4.out.trans (D8.out.mono B4.out.size)); have t8 := HT.out _ B8.out; clear hb)
      | (go_at_call 24; (with_reducible refine (Disk.file_any (N4.out.below D8.out) hH (by omega)).mono ?_); rintro e u9 ⟨v9, rfl, ho9, hb⟩; have D9 := Lib.hid (D8.out.trans (hb.mono D8.out.size)); have B9 := Lib.hid (B4.out.trans (D9.out.mono B4.out.size)); have t9 := HT.out _ B9.out; have f9 := text7 ho9; rw [HB.out] at f9; clear hb ho9))
    all_goals
      go_wp2
      go_ret
      exact ⟨rfl, B9.out⟩
  | some l =>
    have ho1 := opens_yes hs (hopen u4 x2 N4.out B4.out)
    have hr1 := fun u x hr hx hu => ropens_yes hs (hropen u m x hr hx hu)
    have hlen : (l.length : Int) ≤ 100000000 := by rw [states_len hs, HN.out]; omega
    have hHc : Holds 3000 (cut 3000 ([], b)) := by
      unfold cut
      split
      · exact Disk.holds_replace _ hH
      · exact hH
    clear hopen hropen hs HT HC
    go_wp2_with (first
      | (go_at_call 8; (with_reducible refine ho1.mono ?_); rintro e u5 ⟨q, rfl, x5, hpv, hoff, hb⟩; have PV5 := Lib.hid hpv; have R5 := Lib.hid (hoff.ref R4.out (file_block N4.out)); have B5 := Lib.hid (B4.out.trans hb); clear ho1 hpv hoff hb)
      | (go_at_call 9; (with_reducible refine (hr1 _ _ R5.out (file_lt (P.dsk PV5.out)) B5.out).mono ?_); rintro e u6 ⟨rfl, hrv, hg⟩; have RV6 := Lib.hid hrv; have PV6 := Lib.hid (P.kept PV5.out (ref_kept7 R5.out hg)); have B6 := Lib.hid (B5.out.grown hg B5.out.size (fun k hk => (by cases hk; exact R5.out.1))); clear hr1 hrv hg)
      | (go_at_call 18; (with_reducible refine (same_any RV6.out (P.dsk PV6.out) hHc (by omega) hlen (fun u hu => P.state (P.below PV6.out hu)) (fun u hu => P.recs (P.below PV6.out hu))).mono ?_); rintro e u7 ⟨rfl, hb⟩; have B7 := Lib.hid (B6.out.trans (hb.mono B6.out.size)); clear hb)
      | (go_at_call 6; (with_reducible refine (alive_way P _).mono ?_); rintro e u8 ⟨rfl, hb⟩; have B8 := Lib.hid (B7.out.trans (hb.mono B7.out.size)); clear hb))
    go_ret
    exact ⟨rfl, B8.out⟩
end Go.Proofs.Ytlbdkigiphnabaa.Vault
