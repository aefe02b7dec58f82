/-
  DiskSafe: for every acts and every keep: behind a crash the file begins with what was safe, is a beginning of what it was, and is safe; of more than 60 acts, or 3000 bytes, the live question alone is asked. No conditions: any acts, any keep.
-/
import Derived.Test.YtklljhmedbbkkaaRows
import Derived.Test.YtklljhmedbbkkaaDiskAlive
import Derived.Test.YtklljhmedbbkkaaDiskOpen
namespace Go.Proofs.Ytklljhmedbbkkaa.diskSafe
open Go.ChangeShapes Go.WideShapes Go.RowKit Codec Disk

theorem long (keep : Int) (p : Option Addr) (c : Nat) (l : List Ac) (W : World) (hl : (l.length : Int) ≤ 9223372036854775807) (ha : ActsAt W p l) (hw : Wide l) (hf : fits l = false) :
    Calls Try.prog 4 #[.slice p l.length c, .int .i64 keep] W fun e w' => e = .returned (.bool true) ∧ Below W.heap.size W w' := by
  have hfits := fits_any p c l W hl hw ha
  rw [hf] at hfits
  clear ha hw hf
  go_enter Try.func4, Try.ntmps4
  go_wp2_with (first
    | (go_at_call 5; (with_reducible refine hfits.mono ?_); rintro e w1 ⟨rfl, rfl⟩; clear hfits)
    | (go_at_call 6; (with_reducible refine (alive_any _).mono ?_); rintro e w' ⟨rfl, hg⟩))
  go_ret
  exact ⟨rfl, hg⟩

/-- A text that lies. -/
theorem cel_text {w : World} {p : Option Addr} {c : Nat} {xs : List Int} (h : Cel w p xs) : (convert 33 9 (.slice p xs.length c)).run Try.prog w = .ok (.string (strOfNums xs)) w := by
  have hs := Try.underlying9
  rcases h with h0 | ⟨b, o, rfl, hc⟩
  · subst h0
    have e : strOfNums [] = ByteArray.empty := by simp [strOfNums]; rfl
    rw [e]
    show (convert 33 9 (.slice p 0 c)).run Try.prog w = _
    rw [run_convert_bytes_string w 33 9 5 p 0 c Try.underlying33 Try.underlying5 hs]
    cases p with
    | none => simp [Conv.bytesToString]
    | some a => simp [Conv.bytesToString, loadCells]; rfl
  · exact run_convert_bytes_arg w 33 5 Try.underlying33 Try.underlying5 b o xs.length c xs rfl hc 9 hs

section
variable {B d : Nat} {room : Int} {s : Sl} {x : Option Nat} {w : World}
/-- File, its length a letter. -/
theorem file_len (h : Dsk 44 5 B w d room s x) (hr : Holds room s) (hm : room ≤ 16777216) (n : Nat) (hn : (all s).length = n) :
    Calls Try.prog 14 #[.pointer (some ⟨d, 0, none⟩)] w fun e w' => ∃ p c, e = .returned (.slice p n c) ∧ (n : Int) ≤ (c : Int) ∧ (c : Int) ≤ 9223372036854775807 ∧
      Hid (w'.ownsRow w.heap.size 5 1 (.slice p n c) (all s).length (cells8 (all s))) ∧ Below w.heap.size w w' := by
  refine (file_any h hr hm).mono ?_
  rintro e w' ⟨v, rfl, ho, hb⟩
  obtain ⟨p, c, rfl, h1, h2, _, _⟩ := own_lies ho
  rw [hn] at h1
  have ho2 := ho
  rw [hn] at ho2 ⊢
  unfold maxLen at h2
  exact ⟨p, c, rfl, by omega, by omega, ho2, hb⟩
/-- Safe, its number a letter. -/
theorem safe_len (h : Dsk 44 5 B w d room s x) (a : Nat) (ha : s.1.length = a) :
    Calls Try.prog 13 #[.pointer (some ⟨d, 0, none⟩)] w fun e w' => e = .returned (.int .i64 (a : Int)) ∧ w' = w := by
  subst ha
  refine (safe_any h).mono ?_
  rintro e w' ⟨rfl, rfl⟩
  exact ⟨rfl, rfl⟩
/-- Crash, its number a letter. -/
theorem crash_len (h : Dsk 44 5 B w d room s x) (hr : Holds room s) (hm : room ≤ 16777216) (hBw : B ≤ w.heap.size) (keep : Int) (hk0 : -9223372036854775808 ≤ keep) (hk1 : keep ≤ 9223372036854775807) (G : Int) (hG : gone keep s = G) :
    Calls Try.prog 12 #[.pointer (some ⟨d, 0, none⟩), .int .i64 keep] w fun e w' => e = .returned (.int .i64 G) ∧ _root_.Go.Proofs.Ytklljhmedbbkkaa.Disk.Left 44 5 B w d room (dCrash keep s) x w' := by
  subst hG
  exact crash_any h hr hm hBw keep hk0 hk1
theorem own_cel2 {n c : Nat} {p : Option Addr} {xs : List Int} {base : Nat} (h : w.ownsRow base 5 1 (.slice p n c) xs.length (cells8 xs)) : Cel w p xs := by
  obtain ⟨p', c', e, _, _, hl, _⟩ := own_lies h
  simp only [Value.slice.injEq] at e
  obtain ⟨rfl, _, _⟩ := e
  exact hl.cel
/-- What was made behind a disk's file stays where the disk makes a step. -/
theorem own_aside {u : World} {base n : Nat} {v : Value} {xs : List Value} {x' : Option Nat} (h : w.ownsRow base 5 1 v n xs) (hd : d < base) (hx : ∀ g, x = some g → g < base) (ha : Aside w u d x x') : u.ownsRow base 5 1 v n xs := by
  refine ⟨h.1, ?_⟩
  rcases h.2 with h0 | ⟨g, cap, cur, rfl, h1, h2, h3⟩
  · exact .inl h0
  · refine .inr ⟨g, cap, cur, rfl, h1, (ha.block g (lt_of_heap h2) (by omega) ?_).trans h2, h3⟩
    intro e
    have := hx g e.symm
    omega
end

/-- The numbers of a crash. -/
theorem nums (keep : Int) (s : Sl) (hr : Holds 2500 s) : ∃ (n k a : Nat) (G : Int), (all s).length = n ∧ (all (dCrash keep s)).length = k ∧ s.1.length = a ∧ gone keep s = G ∧ (dCrash keep s).1.length = k ∧ a ≤ k ∧ k ≤ n ∧ n ≤ 2500 ∧ (k : Int) + G = (n : Int) ∧
    all (dCrash keep s) = (all s).take k ∧ ((keep ≤ 0 ∧ k = a) ∨ (0 < keep ∧ G ≠ 0 ∧ (k : Int) - (a : Int) = keep) ∨ (0 < keep ∧ G = 0 ∧ k = n)) := by
  simp only [Holds] at hr
  have h1 := stay_le keep s
  have h2 : (stay keep s : Int) = min (max keep 0) (s.2.length : Int) := by unfold stay; omega
  refine ⟨_, _, _, _, rfl, rfl, rfl, rfl, ?_, ?_, ?_, ?_, ?_, ?_, ?_⟩
  · simp [all, dCrash]
  · simp [all, dCrash]
  · simp [all, dCrash]; omega
  · simp [all]; omega
  · simp [all, dCrash, gone]; omega
  · have e : (all (dCrash keep s)).length = s.1.length + stay keep s := by simp [all, dCrash]; omega
    rw [e]
    simp only [all, dCrash, List.append_nil]
    rw [List.take_append, List.take_of_length_le (l := s.1) (i := s.1.length + stay keep s) (by omega), show s.1.length + stay keep s - s.1.length = stay keep s by omega]
  · simp [all, dCrash, gone]
    omega

theorem below_drewN {b : Nat} {w W : World} (h : Below b w W) (n : Nat) : Below b w (W.drewN n) := ⟨h.os, h.tape, h.output, h.size, h.block⟩
/-- The two texts. -/
theorem texts {u : World} {s t : Sl} {base base' n k cv cn : Nat} {pv pn : Option Addr} (he : all t = (all s).take k) (hk : (all t).length = k) (h1 : u.ownsRow base 5 1 (.slice pv n cv) (all s).length (cells8 (all s))) (h2 : u.ownsRow base' 5 1 (.slice pn k cn) (all t).length (cells8 (all t))) :
    (∀ i, (convert 33 9 (.slice pv k cv)).run Try.prog (u.drewN i) = .ok (.string (strOfNums (all t))) (u.drewN i)) ∧ (∀ i, (convert 33 9 (.slice pn k cn)).run Try.prog (u.drewN i) = .ok (.string (strOfNums (all t))) (u.drewN i)) := by
  have hb : ∀ i, Below u.heap.size u (u.drewN i) := fun i => ⟨rfl, rfl, rfl, Nat.le_refl _, fun _ _ => rfl⟩
  constructor
  · intro i
    have h := cel_text (c := cv) (((own_cel2 h1).take k).below (hb i))
    rwa [← he, hk] at h
  · intro i
    have h := cel_text (c := cn) ((own_cel2 h2).below (hb i))
    rwa [hk] at h

set_option maxRecDepth 100000 in
set_option maxHeartbeats 2000000 in
theorem safe_ (keep : Int) (k0 : -9223372036854775808 ≤ keep) (k1 : keep ≤ 9223372036854775807) (p : Option Addr) (c : Nat) (l : List Ac) (W : World) (hl : (l.length : Int) ≤ 9223372036854775807) (ha : ActsAt W p l) (hw : Wide l) (hf : fits l = true) :
    Calls Try.prog 4 #[.slice p l.length c, .int .i64 keep] W fun e w' => e = .returned (.bool true) ∧ Below W.heap.size W w' := by
  have hfits := fits_any p c l W hl hw ha
  rw [hf] at hfits
  have hnew := new_ok 2500 W (by omega) (by omega)
  have HA := Lib.hid ha
  have HW := Lib.hid hw
  have HF := Lib.hid hf
  have HS := fun k hk => Lib.hid (steps_snoc 2500 ([], []) l k hk)
  have HH := fun k => Lib.hid (holds_steps (room := 2500) (by omega) (l.take k))
  have N0 : Hid (Both W.heap.size W W.heap.size (W.heap.size + 1) 2500 (dSteps 2500 ([], []) (l.take 0)) ((W.alloc (.cells #[.int .i64 2500, .slice none 0 0, .int .i64 0] 44)).alloc (.cells #[.int .i64 2500, .slice none 0 0, .slice none 0 0] 37))) :=
    ⟨⟨none, pair_new 2500 W⟩, ((Below.refl _ _).alloc (Nat.le_refl _) _).alloc (by simp) _⟩
  clear ha hw hf
  go_enter Try.func4, Try.ntmps4
  go_wp2_with (first
    | (go_at_call 5; (with_reducible refine hfits.mono ?_); rintro e w1 ⟨rfl, rfl⟩; clear hfits)
    | (go_at_call 7; (with_reducible refine hnew.mono ?_); rintro e w1 ⟨rfl, rfl⟩; clear hnew))
  go_loopw [9] (fun i wr => ∃ k : Nat, k ≤ l.length ∧ i = .int .i64 (k : Int) ∧ Hid (Both W.heap.size W W.heap.size (W.heap.size + 1) 2500 (dSteps 2500 ([], []) (l.take k)) wr)) (fun i _ => l.length - (intOf i).toNat)
  case atStart => exact ⟨0, by omega, rfl, N0⟩
  case round =>
    obtain ⟨k, hk, rfl, hbo⟩ := hrel
    obtain ⟨⟨x, hp⟩, hb⟩ := hbo.out
    by_cases hlt : k < l.length
    · obtain ⟨g, o, rfl, hc⟩ : ∃ g o, p = some ⟨g, o, none⟩ ∧ _ := by
        rcases HA.out with h | h
        · rw [h] at hlt; simp at hlt
        · exact h
      obtain ⟨d0, d2, q, cq, d1, hq, hbc⟩ := act_on hb (hc k hlt)
      obtain ⟨w0, w1, w2, w3, _⟩ := wide_at HW.out k hlt
      have hstep := step_any (l.getD k noAc) q cq hp (HH k).out (by omega) (by omega) hb.size w0 w1 w2 w3 hbc hq (fits_out HF.out k hlt)
      rw [← (HS k hlt).out] at hstep
      have hlt' : (k : Int) < (l.length : Int) := by omega
      generalize (l.getD k noAc).kind = y0 at *
      generalize (l.getD k noAc).n = y2 at *
      generalize (l.getD k noAc).b.length = y1 at *
      have HB := Lib.hid hb
      clear hbo hp hb hc hbc hq N0 HA HW HS HH HF
      go_wp2_with (go_at_call 15; (with_reducible refine hstep.mono ?_); rintro e w3 ⟨rfl, h3, hb3⟩; have N3 := Lib.hid (show Both W.heap.size W _ _ _ _ _ from ⟨h3, HB.out.trans hb3⟩); clear hstep h3 hb3)
      go_roundw
      case rel => exact ⟨k + 1, by omega, by go_num, N3⟩
      case measure => simp [intOf]; omega
    · obtain rfl : k = l.length := by omega
      have hH := (HH l.length).out
      have hHc := holds_crash keep hH
      obtain ⟨n, k, a, G, en, ek, ea, eG, ek1, h1, h2, h3, h4, etake, hcase⟩ := nums keep _ hH
      have hf1 := file_len hp.dsk hH (by omega) n en
      have hdlt := hp.dsk.lt
      have hxlt := hp.own_lt
      have HP := Lib.hid hp
      have HB := Lib.hid hb
      have HE := Lib.hid (And.intro ek (And.intro ea (And.intro eG (And.intro ek1 etake))))
      have HHH := Lib.hid (And.intro hH hHc)
      have i1 : (a : Int) ≤ (k : Int) := by omega
      have i2 : (k : Int) ≤ (n : Int) := by omega
      have i3 : (n : Int) ≤ 2500 := by omega
      have g1 : decide (n < a) = false := by simp; omega
      have g2 : decide (k < a) = false := by simp; omega
      have g3 : IntKind.i64.wrap ((k : Int) + G) = (n : Int) := (IntWalk.i64_in _ (by omega)).trans h4
      have g6 : IntKind.i64.wrap (k : Int) = (k : Int) := IntWalk.i64_in _ (by omega)
      have G0 : 0 ≤ G := by omega
      have G1 : G ≤ 2500 := by omega
      generalize dSteps 2500 ([], []) (l.take l.length) = s at *
      clear hbo hp hb N0 HA HW HS HH HF hH hHc en ek ea eG ek1 etake h1 h2 h3 h4
      rcases hcase with ⟨c1, rfl⟩ | ⟨c1, c2, c3⟩ | ⟨c1, rfl, rfl⟩
      all_goals
        go_wp2_with (first
          | (go_at_call 14; (with_reducible refine hf1.mono ?_); rintro e u1 ⟨pv, cv, rfl, v1, v2, O1, b1⟩; have P1 := Lib.hid (HP.out.below b1); have B1 := Lib.hid (HB.out.trans (b1.mono HB.out.size)); clear hf1 b1 HP HB)
          | (go_at_call 13; (with_reducible refine (safe_len P1.out.dsk _ HE.out.2.1).mono ?_); rintro e u9 ⟨rfl, hu⟩; subst hu)
          | (go_at_call 12; (with_reducible refine (crash_len P1.out.dsk HHH.out.1 (by omega) B1.out.size keep k0 k1 _ HE.out.2.2.1).mono ?_); rintro e u2 ⟨rfl, x2, hd2, ha2, hb2⟩; have O2 := Lib.hid (own_aside O1.out hdlt hxlt ha2); have D2 := Lib.hid hd2; have B2 := Lib.hid (B1.out.trans hb2); clear hd2 ha2 hb2 O1 P1 B1)
          | (go_at_call 14; (with_reducible refine (file_len D2.out HHH.out.2 (by omega) _ HE.out.1).mono ?_); rintro e u3 ⟨pn, cn, rfl, v3, v4, O3, b3⟩; have TW := Lib.hid (texts HE.out.2.2.2.2 HE.out.1 (own_below O2.out b3) O3.out); have D3 := Lib.hid (D2.out.below b3); have B3 := Lib.hid (B2.out.trans (b3.mono B2.out.size)); clear b3 O2 O3 D2 B2))
        obtain ⟨t1, t2⟩ := TW.out
        have hq := fun i => (safe_len (D3.out.below (show Below u3.heap.size u3 (u3.drewN i) from ⟨rfl, rfl, rfl, Nat.le_refl _, fun _ _ => rfl⟩)) _ HE.out.2.2.2.1)
        have B4 := fun i => Lib.hid (below_drewN B3.out i)
        generalize strOfNums (all (dCrash keep s)) = T at t1 t2
        clear TW D3 B3 HE HHH hdlt hxlt
        go_quiet ((go_at_call 13; exact Calls.quiet_of_same (hq _)))
        go_wp2_with (go_at_call 6; (with_reducible refine (alive_any _).mono ?_); rintro e w' ⟨rfl, hg⟩)
        go_ret
        exact ⟨rfl, (B4 _).out.trans (hg.mono (B4 _).out.size)⟩

theorem walk (p : Option Addr) (c : Nat) (l : List Ac) (hl : (l.length : Int) ≤ 9223372036854775807) (keep : Int) (wk : (Lit.int .i64 keep).wf = true) (W : World) (ha : ActsAt W p l) (hw : Wide l) :
    Calls Try.prog 4 #[.slice p l.length c, .int .i64 keep] W fun e w' => e = .returned (.bool true) ∧ Below W.heap.size W w' := by
  by_cases hf : fits l = true
  · exact safe_ keep (num_i64 wk).1 (num_i64 wk).2 p c l W hl ha hw hf
  · exact long keep p c l W hl ha hw (Bool.eq_false_iff.2 hf)

theorem own : ownKnob Try.prog.godebug = none := by kernel_rfl

set_option maxRecDepth 100000 in
theorem lifted (os : Os) (started : os.Started) (H : Type) (enc : TypeId × Value → H) :
    ReturnsInHanded {} Try.checked os 4 .any (Rows.diskSafeSpec.pre6 enc Try.prog Try.f4 Rows.diskSafeRow.domain false) (Rows.diskSafeSpec.post enc Try.prog Try.f4 false true false false) := by
  refine returnsInHanded_of_change (C := Try.checked) own started (by kernel_rfl) Try.func4
    (ChangeSpec.witness6 (enc := enc) (C := Try.checked) false ⟨#[], #[.slice none 0 0, .int .i64 0], []⟩ 16 (by kernel_rfl) (by kernel_rfl) (by kernel_rfl) (by kernel_rfl)) ?_
  intro W base args ds gs before hval0 hW hcnd _
  have hval : ∀ (j : Nat) t v, Try.f4.params[j]? = some t → args[j]? = some v → Value.okWide Try.prog W .any base t v := hval0
  have hW' := hW
  obtain ⟨p, q, hA0, hV, rfl, hfz, hnd⟩ := hW
  have hA : DataW.TrodAll enc Try.prog W 0 (fun _ => true) true Try.f4.params.toList args.toList ds p := hA0
  rw [Try.params4] at hA hval
  obtain ⟨v0, vs0, d0, ds0, p0, q0, hargs, rfl, rfl, h0, r0⟩ := trodAll_cons hA
  obtain ⟨v1, vs1, d1, ds1, p1, q1, rfl, rfl, rfl, h1, r1⟩ := trodAll_cons r0
  obtain ⟨rfl, rfl, rfl⟩ := trodAll_nil r1
  obtain rfl : args = #[v0, v1] := by cases args; simp_all
  obtain ⟨rfl, rfl⟩ := trodVars_none hV
  obtain ⟨p0', c0, l0, rfl, hl0, ha0, hw0⟩ := Disk.open_acts (hval 0 22 v0 rfl rfl) h0
  obtain ⟨a1, rfl, -, -, w1⟩ := open_int Try.underlying3 (hval 1 3 v1 rfl rfl) h1
  clear hA0 hval0
  refine (walk p0' c0 l0 hl0 a1 w1 W ha0 hw0).mono fun e W' ⟨he, hg⟩ => ?_
  subst he
  exact ⟨_, rfl, Row.law_post hW' rfl rfl rfl rfl (by kernel_rfl) Try.underlying4 (by kernel_rfl) (by kernel_rfl) hg⟩

theorem over : Rows.diskSafeRow.holds Try.pinned (OpenSpec.ofChange Rows.diskSafeSpec) :=
  OpenClaim.holds_of_wide 4 Try.f4 rfl rfl rfl rfl rfl rfl rfl ⟨rfl, rfl, rfl, rfl, rfl⟩ rfl rfl rfl rfl rfl (by kernel_rfl) Try.func4 (by kernel_rfl)
    (of_decide_eq_true (by kernel_rfl)) (by unfold Func.isWrapper; first | (rw [if_pos (by decide +kernel)]; kernel_rfl) | (rw [if_neg (by decide +kernel)]; exact ⟨rfl, rfl⟩))
    (fun os started H enc _ => lifted os started H enc)

/-- The given statement. -/
theorem proved : Rows.DiskSafeSaid :=
  over
#print axioms proved
end Go.Proofs.Ytklljhmedbbkkaa.diskSafe
