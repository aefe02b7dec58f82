/-
  The document's Open, of any disk: the vault of its bytes, or the error, and nothing; of what is not the disk's own block nothing has turned.
-/
import Derived.Test.YtlbdkigiphnabaaVaultOpenPlain
namespace Go.Proofs.Ytlbdkigiphnabaa.Vault
open Go.RowKit
open _root_.Go.Proofs.Ytlbdkigiphnabaa.Codec (Cel Lies cells8 Made own_below own_lies lt_of_heap St Rdr Stays IsBytes rUpto)
open _root_.Go.Proofs.Ytlbdkigiphnabaa.Disk (Sl Ref Made2 Holds dReplace all)

/-- What lies while the records are read. -/
structure Lop (W : World) (v m rb : Nat) (pb : Option Addr) (D : List Int) (k : Nat) (l : List Sv) (u : World) : Prop where
  rdr : Rdr 73 5 u rb (D.drop (32 * k)) false
  vlt : Vlt 52 47 W.heap.size u v m l
  lies : Lies 5 u pb D
  below : Below W.heap.size W u
  ge : W.heap.size ≤ rb

theorem file_nil2 {w : World} {base n c : Nat} {p : Option Addr} {xs : List Int} (h : w.ownsRow base 5 1 (.slice p n c) xs.length (cells8 xs)) : p = none → xs = [] ∧ c = 0 := by
  intro e
  subst e
  rcases h.2 with ⟨e, h0⟩ | ⟨g, cap, cur, e, _⟩
  · simp only [Value.slice.injEq] at e
    exact ⟨List.eq_nil_of_length_eq_zero h0, e.2.2⟩
  · cases e
/-- append of bytes onto an empty new slice, the length a letter. -/
theorem app_len {w : World} {ops : Array Oper} {rest : List Oper} {o : Oper} {a : Act} {Q : Exit → Act → World → Prop} (hgd : o.guard = none) (s y : Operand)
    (ho : o.op = .call { callee := .builtin .append, args := #[s, y], argTypes := #[39, 39] })
    (base : Nat) (v : Value) (hs : a.eval s = v) (hown : w.ownsRow base 5 1 v 0 [])
    (q : Option Addr) (c : Nat) (b : List Int) (n : Nat) (hn : b.length = n) (hy : a.eval y = .slice q n c) (hq : q = none → b = [] ∧ c = 0) (hb : Cel w q b)
    (h63 : (n : Int) ≤ 16777216) (hbase : base ≤ w.heap.size)
    (h : ∀ p k w', n ≤ k → (k ≤ maxLen ∧ Lies 5 w' p b ∧ base ≤ w'.heap.size) → w.grownBy w' v.ownBlock → wpList Try.prog ops Q rest (a.put o.dst (.slice p n k)) w') : wpList Try.prog ops Q (o :: rest) a w := by
  subst hn
  refine Disk.app_any hgd s y ho base v 0 [] hs hown q c b hy hq hb (by omega) hbase fun v' w' h1 h2 => ?_
  rw [Nat.zero_add, List.nil_append] at h1
  obtain ⟨p, k, rfl, k1, k2, k3, _⟩ := own_lies h1
  exact h p k w' k1 ⟨k2, k3, Nat.le_trans hbase h2.size⟩ h2

theorem box_at {u : World} {b : Nat} {a1 a2 a3 a4 : Value} (h : u.heap[b]? = some (.cells #[a1, a2, a3, a4] 47 (0, 0))) :
    u.cell? ⟨b, 0, none⟩ = some a1 ∧ u.cell? ⟨b, 1, none⟩ = some a2 ∧ u.cell? ⟨b, 2, none⟩ = some a3 ∧ u.cell? ⟨b, 3, none⟩ = some a4 ∧ ∀ o, u.frozen? ⟨b, o, none⟩ = false :=
  ⟨by rw [cell_of_row u b 0 _ _ (0, 0) h]; rfl, by rw [cell_of_row u b 1 _ _ (0, 0) h]; rfl, by rw [cell_of_row u b 2 _ _ (0, 0) h]; rfl, by rw [cell_of_row u b 3 _ _ (0, 0) h]; rfl, fun _ => Codec.frozen_of h⟩
theorem rdr_set {u : World} {rb b : Nat} {l : List Int} {f : Bool} {cs : Array Value} (h : Rdr 73 5 u rb l f) (hk : u.heap[b]? = some (.cells cs 47 (0, 0))) (ne : rb ≠ b) (o : Nat) (y : Value) : Rdr 73 5 (u.setCell ⟨b, o, none⟩ y) rb l f :=
  h.keep (.grown hk (by decide) (Codec.grown_set b o y)) ((Codec.grown_set b o y).block rb h.lt (by simpa using ne))
theorem grown_below5 {w w' : World} {r : Option Nat} (hb : Below w.heap.size w w') : w.grownBy w' r := ⟨hb.os, hb.tape, hb.output, hb.size, fun k hk _ => hb.block k hk⟩
theorem last_at {B v m : Nat} {l : List Sv} {a1 a2 a3 a4 : Int} {u : World} (h : Vlt 52 47 B u v m l) (hl : (l.length : Int) ≤ 100000000) (ha : last l = ⟨a1, a2, a3, a4⟩) :
    Calls Try.prog 31 #[.pointer (some ⟨v, 0, none⟩)] u fun e w' => e = .returned (.agg #[.int .i64 a1, .int .i64 a2, .int .i64 a3, .int .i64 a4]) ∧ Below u.heap.size u w' := by
  have := rlast_any h hl
  rw [ha] at this
  exact this
theorem replace_len {B m : Nat} {room : Int} {x : Option Nat} {w : World} {d : Sl} {q : Option Addr} {k n : Nat} {b : List Int} (h : Ref 41 5 B w m room d x) (hx : ∀ g, x = some g → g < w.heap.size) (hb : b.length = n) (hc : Cel w q b) (hq : q = none → b = [] ∧ k = 0) (hl : (n : Int) ≤ 16777216) :
    Calls Try.prog 32 #[.pointer (some ⟨m, 0, none⟩), .slice q n k] w fun e w' => ∃ eR, e = .returned (.int .i64 eR) ∧ Made2 41 5 B w m room (dReplace room d b) x w' := by
  subst hb
  refine (Disk.rreplace_any h hx q k b hc hq hl).mono ?_
  rintro e w' ⟨rfl, h⟩
  exact ⟨_, rfl, h⟩
/-- A number is read. -/
theorem num_at (rb : Nat) (b : List Int) (f : Bool) (x : Int) (b' : List Int) (f' : Bool) (u : World) (h : Rdr 73 5 u rb b f) (hy : IsBytes b) (e : rUpto M (b, f) = (x, b', f')) :
    Calls Try.prog 29 #[.pointer (some ⟨rb, 0, none⟩)] u fun e w' => e = .returned (.int .i64 x) ∧ Rdr 73 5 w' rb b' f' ∧ u.grownBy w' (some rb) := by
  have := Codec.rnum_any rb (b, f) u h hy
  rw [show rUpto 4611686018427387904 (b, f) = (x, b', f') from e] at this
  exact this
/-- How a round goes on. -/
theorem case_of {q k : Nat} {D : List Int} {l : List Sv} {s : Sv} {f4 r10 r11 : Bool} {b4 : List Int} (hlt : k < q) (hst : states D = parse (q - k) (D.drop (32 * k)) l ∧ l.length = k)
    (h : (f4 = true ∧ right (four (D.drop (32 * k))) = false) ∨ (f4 = false ∧ s = four (D.drop (32 * k)) ∧ b4 = (D.drop (32 * k)).drop 32)) (h10 : right s = r10) (h11 : rises (last l) s = r11) :
    (f4 = true ∧ states D = none) ∨ (f4 = false ∧ r10 = false ∧ states D = none) ∨ (f4 = false ∧ r10 = true ∧ r11 = false ∧ states D = none) ∨
      (f4 = false ∧ r10 = true ∧ r11 = true ∧ b4 = D.drop (32 * (k + 1)) ∧ states D = parse (q - (k + 1)) (D.drop (32 * (k + 1))) (l ++ [s]) ∧ (l ++ [s]).length = k + 1) := by
  have hp : parse (q - k) (D.drop (32 * k)) l = if right (four (D.drop (32 * k))) = true ∧ rises (last l) (four (D.drop (32 * k))) = true then parse (q - (k + 1)) ((D.drop (32 * k)).drop 32) (l ++ [four (D.drop (32 * k))]) else none := by
    rw [show q - k = (q - (k + 1)) + 1 by omega]
    rfl
  have hd : (D.drop (32 * k)).drop 32 = D.drop (32 * (k + 1)) := by rw [List.drop_drop]; congr 1
  rw [hd] at hp h
  rcases h with ⟨h4, hr⟩ | ⟨h4, rfl, hb⟩
  · exact .inl ⟨h4, by rw [hst.1, hp, if_neg (by simp [hr])]⟩
  · cases r10 with
    | false => exact .inr (.inl ⟨h4, rfl, by rw [hst.1, hp, if_neg (by simp [h10])]⟩)
    | true =>
      cases r11 with
      | false => exact .inr (.inr (.inl ⟨h4, rfl, rfl, by rw [hst.1, hp, if_neg (by simp [h11])]⟩))
      | true => exact .inr (.inr (.inr ⟨h4, rfl, rfl, hb, by rw [hst.1, hp, if_pos ⟨h10, h11⟩], by simp [hst.2]⟩))

theorem Lop.keep {W wr u : World} {v m rb k : Nat} {pb : Option Addr} {D : List Int} {l : List Sv} (h : Lop W v m rb pb D k l wr) (G : wr.grownBy u (some rb)) :
    Vlt 52 47 W.heap.size u v m l ∧ Lies 5 u pb D ∧ Below W.heap.size W u := by
  obtain ⟨p, c, hh, _⟩ := h.rdr
  refine ⟨h.vlt.other hh (by decide) ?_ G, h.lies.keep (.grown hh (by decide) G), h.below.grown G h.below.size (fun k hk => by cases hk; exact h.ge)⟩
  rintro rfl
  obtain ⟨_, p', c', hv, _⟩ := h.vlt
  rw [hh] at hv
  simp at hv

section
variable {B m : Nat} {room : Int} {d : Sl} {x : Option Nat} {w : World}
set_option maxRecDepth 100000 in
set_option maxHeartbeats 2000000 in
theorem ropen_any (h : Ref 41 5 B w m room d x) (hB : B ≤ w.heap.size) (hx : ∀ g, x = some g → g < w.heap.size) (hh : Holds room d) (hm : room ≤ 16777216) (hy : IsBytes (all d)) :
    Calls Try.prog 9 #[.pointer (some ⟨m, 0, none⟩)] w fun e w' =>
      (states (all d) = none ∧ e = .returned (.tuple #[.pointer none, .int .i64 2]) ∧ Below w.heap.size w w') ∨
      (∃ l, states (all d) = some l ∧ e = .returned (.tuple #[.pointer (some ⟨w.heap.size, 0, none⟩), .int .i64 0]) ∧ Rv B w' w.heap.size m room (cut room d, l) x ∧ w.grownBy w' (some m)) := by
  have hb0 : Below w.heap.size w (w.alloc (.cells #[.pointer (some ⟨m, 0, none⟩), .slice none 0 0] 52)) := (Below.refl _ _).alloc (Nat.le_refl _) _
  have hfile := Disk.rfile_any (h.below hb0) hh hm
  have hD : ((all d).length : Int) ≤ 16777216 := by simp only [Holds] at hh; simp [all]; omega
  have hv0 : Vlt 52 47 w.heap.size (w.alloc (.cells #[.pointer (some ⟨m, 0, none⟩), .slice none 0 0] 52)) w.heap.size m [] := ⟨Nat.le_refl _, none, 0, heap_alloc_new _ _, World.ownsRow_nil _ _ _ _⟩
  obtain ⟨i0, hi, hz0, hz1, hz2⟩ := info_parts infoS
  have H := Lib.hid h
  have HX := Lib.hid hx
  have HY := Lib.hid hy
  clear h hx hy
  generalize hDD : all d = D at *
  have HD := Lib.hid hDD
  clear hDD
  generalize hDl : D.length = n at *
  have HN := Lib.hid hDl
  clear hDl
  go_enter Try.func9, Try.ntmps9
  go_wp2_with (first
    | (go_at_call 28; (with_reducible refine hfile.mono ?_); rintro e w1 ⟨vf, rfl, ho, hb⟩; obtain ⟨pf, cf, rfl, hcf, hcm, hlf, hpf⟩ := own_lies ho; rw [HN.out] at hcf ⊢; have HF := Lib.hid hlf; have HO := Lib.hid ho; have B1 := Lib.hid (hb0.trans (hb.mono hb0.size)); have HV := Lib.hid (hv0.below hb); have HPF := Lib.hid (file_nil2 ho); have bn : Below w1.heap.size w1 (w1.alloc (.cells #[] 5)) := (Below.refl _ _).alloc (Nat.le_refl _) _; have hmade : (w1.alloc (.cells #[] 5)).ownsRow w1.heap.size 5 1 (.slice (some ⟨w1.heap.size, 0, none⟩) 0 0) 0 [] := World.ownsRow_made w1 #[] 0 (Nat.le_refl _) (Nat.zero_le _) rfl; have HM := Lib.hid hmade; have BN := Lib.hid bn; clear hfile ho hlf hb hv0 hb0 hpf hmade bn)
    | (at_builtin; refine app_len rfl (.tmp 20) (.tmp 21) rfl w1.heap.size (.slice (some ⟨w1.heap.size, 0, none⟩) 0 0) rfl HM.out pf cf D n HN.out rfl HPF.out ((HF.out.cel).below BN.out) hD (by simp) ?_; intro p2 k2 w2 hk2 hl2 hg2; have hb2 := BN.out.grown hg2 (by simp) (fun k hk => (by simp [Value.ownBlock] at hk; omega)); have L2 := Lib.hid hl2; have BB2 := Lib.hid hb2; clear hg2 hl2 hb2 HM BN))
  obtain ⟨hk2m, hl2, hs2⟩ := L2.out
  have bn3 : Below w2.heap.size w2 (w2.alloc (.cells #[.slice p2 n k2, .bool false] 73)) := (Below.refl _ _).alloc (Nat.le_refl _) _
  have b13 := BB2.out.trans (bn3.mono hs2)
  have L0 : Hid (Lop w w.heap.size m w2.heap.size pf D 0 [] (w2.alloc (.cells #[.slice p2 n k2, .bool false] 73))) := by
    refine ⟨?_, HV.out.below b13, HF.out.keep (.below b13), B1.out.trans (b13.mono B1.out.size), Nat.le_trans B1.out.size hs2⟩
    have hn := HN.out
    subst hn
    exact ⟨p2, k2, heap_alloc_new _ _, hk2, hk2m, hl2.keep (.below bn3)⟩
  obtain ⟨q, hqq⟩ : ∃ q, n / 32 = q := ⟨_, rfl⟩
  have S0 : Hid (states D = parse (q - 0) (D.drop (32 * 0)) [] ∧ ([] : List Sv).length = 0) := ⟨by unfold states; rw [HN.out, hqq]; rfl, rfl⟩
  have hq0 : (n : Int) / 32 = (q : Int) := by omega
  have hq1 : 32 * (q : Int) ≤ (n : Int) := by omega
  have hq2 : (q : Int) ≤ 16777216 := by omega
  rw [hq0]
  have HQ := Lib.hid hqq
  clear hqq hq0
  have HPN := Lib.hid (show pf = none → n = 0 from fun e => by have := (HPF.out e).1; rw [← HN.out, this]; rfl)
  have hcf' : (n : Int) ≤ (cf : Int) := by omega
  unfold maxLen at hcm
  clear hk2m hl2 hs2 bn3 b13 L2 BB2 HF HO HV HPF B1 hcf hk2
  go_loopw [8] (fun i wr => ∃ (k : Nat) (l : List Sv), k ≤ q ∧ i = .int .i64 (k : Int) ∧ Hid (Lop w w.heap.size m w2.heap.size pf D k l wr) ∧ Hid (states D = parse (q - k) (D.drop (32 * k)) l ∧ l.length = k)) (fun i _ => q - (intOf i).toNat)
  case atStart => exact ⟨0, [], by omega, rfl, L0, S0⟩
  case round =>
    obtain ⟨k, l, hk, rfl, hlo, hst⟩ := hrel
    clear L0 S0
    by_cases hlt : k < q
    · have hlt' : (k : Int) < (q : Int) := by omega
      have hL := hlo.out
      have hc32 : 32 ≤ (D.drop (32 * k)).length := by rw [List.length_drop, HN.out]; omega
      have hyc : IsBytes (D.drop (32 * k)) := HY.out.drop _
      rcases e1 : rUpto M (D.drop (32 * k), false) with ⟨x1, b1, f1⟩
      rcases e2 : rUpto M (b1, f1) with ⟨x2, b2, f2⟩
      rcases e3 : rUpto M (b2, f2) with ⟨x3, b3, f3⟩
      rcases e4 : rUpto M (b3, f3) with ⟨x4, b4, f4⟩
      have y1 : IsBytes b1 := by have := Codec.rUpto_ok (s := (D.drop (32 * k), false)) M hyc; rwa [e1] at this
      have y2 : IsBytes b2 := by have := Codec.rUpto_ok (s := (b1, f1)) M y1; rwa [e2] at this
      have y3 : IsBytes b3 := by have := Codec.rUpto_ok (s := (b2, f2)) M y2; rwa [e3] at this
      have hnum1 := num_at w2.heap.size _ _ _ _ _ wr hL.rdr hyc e1
      have hnum2 := fun u (hu : Rdr 73 5 u w2.heap.size b1 f1) => num_at w2.heap.size _ _ _ _ _ u hu y1 e2
      have hnum3 := fun u (hu : Rdr 73 5 u w2.heap.size b2 f2) => num_at w2.heap.size _ _ _ _ _ u hu y2 e3
      have hnum4 := fun u (hu : Rdr 73 5 u w2.heap.size b3 f3) => num_at w2.heap.size _ _ _ _ _ u hu y3 e4
      have hfour := read_four _ hc32 x1 x2 x3 x4 b1 b2 b3 b4 f1 f2 f3 f4 e1 e2 e3 e4
      obtain ⟨r10, hr10⟩ : ∃ r10, right ⟨x1, x2, x3, x4⟩ = r10 := ⟨_, rfl⟩
      obtain ⟨r11, hr11⟩ : ∃ r11, rises (last l) ⟨x1, x2, x3, x4⟩ = r11 := ⟨_, rfl⟩
      have hcase := case_of hlt hst.out hfour hr10 hr11
      have hright := fun u => rright_any ⟨x1, x2, x3, x4⟩ u
      have hrise := fun u => rrises_any (last l) ⟨x1, x2, x3, x4⟩ u
      rw [hr10] at hright
      rw [hr11] at hrise
      have hlen : (l.length : Int) ≤ 100000000 := by rw [hst.out.2]; omega
      generalize hla : last l = a at hrise
      have HLA := Lib.hid hla
      obtain ⟨a1, a2, a3, a4⟩ := a
      simp only [val] at hright hrise
      have HCS := Lib.hid hcase
      have HL := Lib.hid hL
      clear hcase hfour hr10 hr11 e1 e2 e3 e4 y1 y2 y3 hyc hc32 hla hlo hL
      have hrbw : w2.heap.size < wr.heap.size := HL.out.rdr.lt
      go_wp2_with (first
        | (go_at_call 29; (with_reducible refine hnum1.mono ?_); rintro e u1 ⟨rfl, hr, hg⟩; have R1 := Lib.hid hr; have G1 := Lib.hid hg; have ns : w2.heap.size ≠ u1.heap.size := Nat.ne_of_lt (Nat.lt_of_lt_of_le hrbw hg.size); have hsz := hg.size; clear hnum1 hr hg)
        | (go_at_call 29; (with_reducible refine (hnum2 _ (R1.out.below ((Below.refl _ _).alloc (Nat.le_refl _) _))).mono ?_); rintro e u2 ⟨rfl, hr, hg⟩; have k2 : u2.heap[u1.heap.size]? = some (.cells #[.int .i64 x1, .int .i64 0, .int .i64 0, .int .i64 0] 47 (0, 0)) := (hg.block u1.heap.size (by simp) (by simpa using ns.symm)).trans (heap_alloc_new _ _); have R2 := Lib.hid hr; have G2 := Lib.hid ((G1.out.trans (World.grownBy_alloc _ _ _)).trans hg); obtain ⟨q20, q21, q22, q23, q24⟩ := box_at k2; have K2 := Lib.hid k2; clear hnum2 hr hg k2 R1 G1)
        | (go_at_call 29; (with_reducible refine (hnum3 _ (rdr_set R2.out K2.out ns 1 _)).mono ?_); rintro e u3 ⟨rfl, hr, hg⟩; have k3 : u3.heap[u1.heap.size]? = some (.cells #[.int .i64 x1, .int .i64 x2, .int .i64 0, .int .i64 0] 47 (0, 0)) := (hg.block u1.heap.size (by have := lt_of_heap K2.out; simpa [World.setCell] using this) (by simpa using ns.symm)).trans (Codec.heap_set _ 1 _ _ K2.out); have R3 := Lib.hid hr; have G3 := Lib.hid ((grown_setCell G2.out hsz).trans hg); clear q20 q21 q22 q23 q24; obtain ⟨q30, q31, q32, q33, q34⟩ := box_at k3; have K3 := Lib.hid k3; clear hnum3 hr hg k3 R2 G2 K2)
        | (go_at_call 29; (with_reducible refine (hnum4 _ (rdr_set R3.out K3.out ns 2 _)).mono ?_); rintro e u4 ⟨rfl, hr, hg⟩; have k4 : u4.heap[u1.heap.size]? = some (.cells #[.int .i64 x1, .int .i64 x2, .int .i64 x3, .int .i64 0] 47 (0, 0)) := (hg.block u1.heap.size (by have := lt_of_heap K3.out; simpa [World.setCell] using this) (by simpa using ns.symm)).trans (Codec.heap_set _ 2 _ _ K3.out); have R4 := Lib.hid (rdr_set hr k4 ns 3 (.int .i64 x4)); have G4 := Lib.hid (grown_setCell (o := 3) (u := .int .i64 x4) ((grown_setCell G3.out hsz).trans hg) hsz); have K4 := Lib.hid (Codec.heap_set u1.heap.size 3 _ (.int .i64 x4) k4); clear q30 q31 q32 q33 q34; obtain ⟨q40, q41, q42, q43, q44⟩ := box_at k4; clear hnum4 hr hg k4 R3 G3 K3)
        | (go_at_call 30; (with_reducible refine (hright _).mono ?_); rintro e u5 ⟨rfl, hb⟩; have R5 := Lib.hid (R4.out.below hb); have G5 := Lib.hid (G4.out.trans (grown_below5 hb)); have K5 := Lib.hid ((hb.block u1.heap.size (lt_of_heap K4.out)).trans K4.out); clear q40 q41 q42 q43 q44 hright hb R4 G4 K4))
      have k5 : u5.heap[u1.heap.size]? = some (.cells #[.int .i64 x1, .int .i64 x2, .int .i64 x3, .int .i64 x4] 47 (0, 0)) := K5.out
      obtain ⟨hv5, hl5, hb5⟩ := HL.out.keep G5.out
      have V5 := Lib.hid hv5
      have D5 := Lib.hid (Below.refl u5.heap.size u5).drew
      have KK := Lib.hid (fun u (hu : Below u5.heap.size u5 u) => box_at ((hu.block u1.heap.size (lt_of_heap k5)).trans k5))
      have g0 : u5.drew.cell? ⟨u1.heap.size, 0, none⟩ = some (.int .i64 x1) ∧ u5.drew.cell? ⟨u1.heap.size, 1, none⟩ = some (.int .i64 x2) ∧ u5.drew.cell? ⟨u1.heap.size, 2, none⟩ = some (.int .i64 x3) ∧ u5.drew.cell? ⟨u1.heap.size, 3, none⟩ = some (.int .i64 x4) := (by have := KK.out _ D5.out; exact ⟨this.1, this.2.1, this.2.2.1, this.2.2.2.1⟩)
      have L5 := Lib.hid hl5
      have B5 := Lib.hid hb5
      clear hv5 hl5 hb5 K5
      go_region_held3 (fun u => u.cell? ⟨u1.heap.size, 0, none⟩ = some (.int .i64 x1) ∧ u.cell? ⟨u1.heap.size, 1, none⟩ = some (.int .i64 x2) ∧ u.cell? ⟨u1.heap.size, 2, none⟩ = some (.int .i64 x3) ∧ u.cell? ⟨u1.heap.size, 3, none⟩ = some (.int .i64 x4)) (first | assumption | exact g0) (first
        | (go_at_call 31; (with_reducible refine (last_at (V5.out.below D5.out) hlen HLA.out).mono ?_); rintro e u6 ⟨rfl, hb6⟩; have D6 := Lib.hid (D5.out.trans (hb6.mono D5.out.size)); have g6 : u6.cell? ⟨u1.heap.size, 0, none⟩ = some (.int .i64 x1) ∧ u6.cell? ⟨u1.heap.size, 1, none⟩ = some (.int .i64 x2) ∧ u6.cell? ⟨u1.heap.size, 2, none⟩ = some (.int .i64 x3) ∧ u6.cell? ⟨u1.heap.size, 3, none⟩ = some (.int .i64 x4) := (by have := KK.out _ D6.out; exact ⟨this.1, this.2.1, this.2.2.1, this.2.2.2.1⟩); clear hb6)
        | (go_at_call 20; (with_reducible refine (hrise _).mono ?_); rintro e u7 ⟨rfl, hb7⟩; have D7 := Lib.hid (D6.out.trans (hb7.mono D6.out.size)); have g7 : u7.cell? ⟨u1.heap.size, 0, none⟩ = some (.int .i64 x1) ∧ u7.cell? ⟨u1.heap.size, 1, none⟩ = some (.int .i64 x2) ∧ u7.cell? ⟨u1.heap.size, 2, none⟩ = some (.int .i64 x3) ∧ u7.cell? ⟨u1.heap.size, 3, none⟩ = some (.int .i64 x4) := (by have := KK.out _ D7.out; exact ⟨this.1, this.2.1, this.2.2.1, this.2.2.2.1⟩); clear hb7))
      have R7 := Lib.hid (R5.out.below D7.out)
      have V7 := Lib.hid (V5.out.below D7.out)
      have L7 := Lib.hid (L5.out.keep (.below D7.out))
      have B7 := Lib.hid (B5.out.trans (D7.out.mono B5.out.size))
      have GE := Lib.hid HL.out.ge
      obtain ⟨pr, cr, -, r71, -⟩ := R7.out.cells
      obtain ⟨g70, g71, g72, g73⟩ := g7
      clear g0 g6 D5 D6 D7 KK k5 V5 R5 G5 L5 B5 HL hrise
      rcases HCS.out with ⟨rfl, hn⟩ | ⟨rfl, rfl, hn⟩ | ⟨rfl, rfl, rfl, hn⟩ | ⟨rfl, rfl, rfl, hb4, hn, hln⟩
      · have NN := Lib.hid hn
        clear hn HCS
        go_wp2
        go_ret2
        exact .inl ⟨NN.out, rfl, B7.out⟩
      · have NN := Lib.hid hn
        clear hn HCS
        go_wp2
        go_ret2
        exact .inl ⟨NN.out, rfl, B7.out⟩
      · have NN := Lib.hid hn
        clear hn HCS
        go_wp2
        go_ret2
        exact .inl ⟨NN.out, rfl, B7.out⟩
      · have NN := Lib.hid (And.intro hb4 (And.intro hn hln))
        clear hb4 hn hln HCS
        obtain ⟨pl, cl, -, c1, -, hown, -, hlc, hcm2⟩ := V7.out.cells
        have HO := Lib.hid hown
        have hv7 : w.heap.size < u7.heap.size := V7.out.lt
        have hBu := B7.out.size
        clear hown hlen
        generalize hyl : l.length = ln at *
        have HYL := Lib.hid hyl
        have hln2 : (ln : Int) ≤ 16777216 := by have := hst.out.2; omega
        clear hyl hst
        go_wp2
        go_region_law (refine step_append_lies _ rfl (.tmp 64) (.tmp 66) 50 rfl w.heap.size 47 i0 (.agg #[.int .i64 0, .int .i64 0, .int .i64 0, .int .i64 0]) 4 32 Try.underlying50 hi hz0 hz1 hz2 rfl (by decide) (.slice pl ln cl) ln (cellsS l) rfl (own_below HO.out ((Below.refl _ _).alloc (Nat.le_refl _) _).drew) ⟨u7.heap.size, 0, none⟩ 1 1 [.int .i64 x1, .int .i64 x2, .int .i64 x3, .int .i64 x4] rfl rfl (World.news_of_block (heap_alloc_new _ _)) (by intro u hu; simp at hu; rcases hu with rfl | rfl | rfl | rfl <;> rfl) (by decide) (by unfold maxLen; omega) (by omega) (by simp; omega) _ rfl ?_; intro ga cap w8 ho hg _ _; obtain ⟨f8, ⟨u8, c8⟩, DD⟩ := V7.out.push (ts := [47, 52]) (a := ⟨x1, x2, x3, x4⟩) (by decide) hBu c1 ((Below.refl _ _).alloc (Nat.le_refl _) _).drew hg HYL.out.symm rfl ho (by decide) (by decide); clear ho hg)
        all_goals
          obtain ⟨hv8, hk8, hb8⟩ := DD.out
          have NL := Lib.hid (Lop.mk (NN.out.1 ▸ rdr_kept R7.out (by decide) (by decide) hk8) hv8 (lies_kept L7.out (by decide) hk8) (B7.out.trans hb8) GE.out)
          clear DD hv8 hk8 hb8
          go_wp2
          go_roundw
          case rel => exact ⟨k + 1, l ++ [⟨x1, x2, x3, x4⟩], by omega, by go_num, NL, Lib.hid NN.out.2⟩
          case measure => simp [intOf]; omega
    · obtain rfl : k = q := by omega
      have hL := hlo.out
      have hs := hst.out.1
      rw [Nat.sub_self] at hs
      have hs2 : states D = some l := hs
      have hV := hL.vlt.lower hB
      have hR := H.out.below hL.below
      have RV := Lib.hid (Rv.mk (y := (d, l)) hV hR)
      have NN := Lib.hid hs2
      have BW := Lib.hid hL.below
      by_cases hr : 32 * k < n
      · have hr' : 32 * (k : Int) < (n : Int) := by omega
        have hcut : cut room d = dReplace room d (D.take (32 * k)) := by unfold cut; rw [HD.out, HN.out, HQ.out, if_pos hr]
        have hrep := replace_len hR (fun g e => Nat.lt_of_lt_of_le (HX.out g e) hL.below.size) (k := cf) (b := D.take (32 * k)) (n := 32 * k) (by rw [List.length_take, HN.out]; omega) (hL.lies.cel.take _) (fun e => absurd (HPN.out e) (by omega)) (by omega)
        have HC := Lib.hid hcut
        clear hs hs2 hV hR hlo hst hcut
        go_wp2_with (go_at_call 32; (with_reducible refine hrep.mono ?_); rintro e w9 ⟨eR, rfl, hm9⟩; have R9 := Lib.hid (RV.out.step hm9); have M9 := Lib.hid hm9.2; clear hrep hm9)
        go_ret2
        exact .inr ⟨l, NN.out, rfl, by rw [HC.out]; exact R9.out.rv, (grown_below5 BW.out).trans M9.out⟩
      · have hr' : (n : Int) ≤ 32 * (k : Int) := by omega
        have hcut : cut room d = d := by unfold cut; rw [HD.out, HN.out, HQ.out, if_neg hr]
        have HC := Lib.hid hcut
        clear hs hs2 hV hR hlo hst hcut hL
        go_wp2
        go_ret2
        exact .inr ⟨l, NN.out, rfl, by rw [HC.out]; exact RV.out, grown_below5 BW.out⟩
end
end Go.Proofs.Ytlbdkigiphnabaa.Vault
