/-
  LedgerIdle returns true, whatever the program's ledger is, if its calls do what is asked of them: of tables and configurations that may be, at the times that it asks.
-/
import Derived.Test.YtcnnepmhdccipaaLedgerIdlePlain
import Derived.Test.YtcnnepmhdccipaaLedgerAlive
import Derived.Test.YtcnnepmhdccipaaMgF
import Derived.Deep.DeepCutAuto
namespace Go.Proofs.Ytcnnepmhdccipaa.Ledger
open Go.RowKit
open _root_.Go.Proofs.Ytcnnepmhdccipaa.Frame (Rw Tb noRow LeasesAt cell_on tableOk Asked sameTable)
open _root_.Go.Proofs.Ytcnnepmhdccipaa.Codec (lt_of_heap frozen_of heap_set)

theorem below_laid {w u : World} (_ : Below w.heap.size w u) (vs : Array Value) (T : TypeId) : Below u.heap.size u (u.alloc (.cells vs T)).drew := ((Below.refl _ _).alloc (Nat.le_refl _) _).drew
theorem below_call {u u6 : World} {o : Obj} (h : Below (u.alloc o).drew.heap.size (u.alloc o).drew u6) : Below (u.heap.size + 1) (u.alloc o) u6 := by
  have h1 : Below (u.heap.size + 1) (u.alloc o) (u.alloc o).drew := (Below.refl _ _).drew
  exact h1.trans (h.mono (by show _ ≤ (u.alloc o).heap.size; simp))
theorem far_ne {α : Type} {l : List α} {p : Option Addr} {u : World} {o : Obj} (h : l = [] ∨ ∃ b o', p = some ⟨b, o', none⟩ ∧ (b < u.heap.size ∨ (u.alloc o).drew.heap.size ≤ b)) : l = [] ∨ ∃ b o', p = some ⟨b, o', none⟩ ∧ b ≠ u.heap.size := by
  rcases h with h | ⟨b, o', e, h⟩
  · exact .inl h
  · refine .inr ⟨b, o', e, ?_⟩
    have e2 : (u.alloc o).drew.heap.size = u.heap.size + 1 := by show (u.alloc o).heap.size = _; simp
    omega
theorem size_set (u : World) (a : Addr) (v : Value) : (u.setCell a v).heap.size = u.heap.size := by simp [World.setCell]
theorem base_len' {rows : List Rw} (h : ∀ r ∈ rows, RowB (64 + 0) r) : ∀ r ∈ rows, r.out.length ≤ 1000 := fun r hr => by have := (h r hr).len; omega
theorem mem_at {α : Type} {l : List α} {x : α} (h : x ∈ l) : ∃ i : Nat, l[i]? = some x := by
  obtain ⟨i, hi, e⟩ := List.mem_iff_getElem.1 h
  exact ⟨i, by rw [List.getElem?_eq_getElem hi, e]⟩
/-- Less of it. -/
theorem Mem.sub {w u : World} {bs bs' : List (Nat × Array Value × TypeId)} {rs rs' : List (Option Addr × List Rw)} {ls ls' : List (Option Addr × List (Int × Int))} (h : Mem w bs rs ls u) (hb : ∀ x ∈ bs', x ∈ bs) (hr : ∀ x ∈ rs', x ∈ rs) (hl : ∀ x ∈ ls', x ∈ ls) : Mem w bs' rs' ls' u := by
  refine ⟨fun i g vs T e => ?_, fun i p l e => ?_, fun i p l e => ?_, h.below⟩
  · obtain ⟨j, hj⟩ := mem_at (hb _ (List.mem_of_getElem? e))
    exact h.boxes j g vs T hj
  · obtain ⟨j, hj⟩ := mem_at (hr _ (List.mem_of_getElem? e))
    exact h.rows j p l hj
  · obtain ⟨j, hj⟩ := mem_at (hl _ (List.mem_of_getElem? e))
    exact h.leases j p l hj
theorem idle_rate {start now : Int} {r : Rw} {f : Cf} (h : idle start r now f = true) : 0 ≤ rateAt f.rates r.key := by
  simp only [idle, Bool.and_eq_true, decide_eq_true_eq] at h
  exact h.1.1.1.1
set_option maxRecDepth 100000 in
set_option maxHeartbeats 8000000 in
theorem idle_way {I : Nat → Tb → Prop} (inv : Inv I) (P : Way9 I) (t : Tb) (p : Option Addr) (c : Nat) (f : Cf) (pf : Option Addr) (cf : Nat) (at' now : Int) (W : World)
    (hm : (t.rows.length : Int) ≤ 9223372036854775807) (_ : Num at') (hnow : Num now) (hr : RowsAt W p t.rows) (hz : RatesAt W pf f.rates) :
    Calls Try.prog 5 #[tabVal t p c, cfVal f pf cf, .agg #[.int .i64 at', .int .i64 now]] W (Asked W true) := by
  have hal := alive_way inv P
  have M0 := Lib.hid ((((Mem.start W).box #[.int .i64 t.start, .slice p t.rows.length (c + t.rows.length)] 24).box #[.int .i64 f.n, .int .i64 f.skew, .int .i64 f.ttl, .int .i64 f.valid, .int .i64 f.loss, .int .i64 f.hear, .int .i64 f.keys, .int .i64 f.queue, .slice pf f.rates.length cf] 27).box #[.int .i64 at', .int .i64 now] 53)
  simp only [size_alloc] at M0
  have hf := fits_any t p c f pf cf _ hm (hr.below M0.out.below) (hz.below M0.out.below)
  obtain ⟨q0, q1, -⟩ := box2 (M0.out.boxes 0 _ _ _ rfl)
  have hcase : (fits9 t f = false ∨ fits9 t f = true ∧ (at' < 0 ∨ 0 ≤ at' ∧ (now < 0 ∨ 0 ≤ now ∧ (4611686018427387904 < at' ∨ at' ≤ 4611686018427387904 ∧ (4611686018427387904 < now ∨ now ≤ 4611686018427387904 ∧ now < at' - 2 * f.skew))))) ∨
      (fits9 t f = true ∧ 0 ≤ at' ∧ 0 ≤ now ∧ at' ≤ 4611686018427387904 ∧ now ≤ 4611686018427387904 ∧ at' - 2 * f.skew ≤ now) := by
    cases fits9 t f
    · exact .inl (.inl rfl)
    · by_cases h1 : at' < 0
      · exact .inl (.inr ⟨rfl, .inl h1⟩)
      · by_cases h2 : now < 0
        · exact .inl (.inr ⟨rfl, .inr ⟨by omega, .inl h2⟩⟩)
        · by_cases h3 : 4611686018427387904 < at'
          · exact .inl (.inr ⟨rfl, .inr ⟨by omega, .inr ⟨by omega, .inl h3⟩⟩⟩)
          · by_cases h4 : 4611686018427387904 < now
            · exact .inl (.inr ⟨rfl, .inr ⟨by omega, .inr ⟨by omega, .inr ⟨by omega, .inl h4⟩⟩⟩⟩)
            · by_cases h5 : now < at' - 2 * f.skew
              · exact .inl (.inr ⟨rfl, .inr ⟨by omega, .inr ⟨by omega, .inr ⟨by omega, .inr ⟨by omega, h5⟩⟩⟩⟩⟩)
              · exact .inr ⟨rfl, by omega, by omega, by omega, by omega, by omega⟩
  have hsk : fits9 t f = true → 0 ≤ f.skew ∧ f.skew ≤ 2147483648 := fun h => ⟨(fits_yes h).2.2.2.2.2.1, (fits_yes h).2.2.2.2.2.2⟩
  have HSK := Lib.hid hsk
  clear hsk
  rcases hcase with hc | ⟨hfit, h0, h1, h2, h3, h4⟩
  · clear P inv hr hz
    obtain ⟨n, sk, tl, va, lo, he, ke, qu, rates⟩ := f
    simp only [tabVal, cfVal] at *
    have HFT := Lib.hid (Eq.refl (fits9 t ⟨n, sk, tl, va, lo, he, ke, qu, rates⟩))
    generalize fits9 t ⟨n, sk, tl, va, lo, he, ke, qu, rates⟩ = ft at *
    rcases hc with rfl | ⟨rfl, k1 | ⟨k1, k2 | ⟨k2, k3 | ⟨k3, k4 | ⟨k4, k5⟩⟩⟩⟩⟩
    case' inr.inr.inr.inr.inr => obtain ⟨s0, s1⟩ := HSK.out rfl
    all_goals
      go_enter Try.func5, Try.ntmps5
      go_wp2_with (first
        | (go_at_call 6; (with_reducible refine hf.mono ?_); rintro e u1 ⟨rfl, hb⟩; have M1 := Lib.hid (M0.out.on hb); obtain ⟨q0, q1, -⟩ := box2 (M1.out.boxes 0 _ _ _ rfl); have c1 := (nine_cells (M1.out.boxes 1 _ _ _ rfl)).2.1; clear hf hb M0)
        | (go_at_call 7; (with_reducible refine (hal _).mono ?_); rintro e u2 ⟨rfl, hb⟩))
      go_ret
      exact ⟨rfl, M1.out.below.trans (hb.mono M1.out.below.size)⟩
  · obtain ⟨ht, hk, hr0, hr1, hrt, s0, s1⟩ := fits_yes hfit
    have hB := base_first ht
    obtain ⟨hl, ho⟩ := base_len hB (by omega)
    have hI := inv.first ht
    have hIx := inv.sweep at' f hI
    have hsw := fun (u : World) (h1 : RowsAt u p t.rows) (h2 : RatesAt u pf f.rates) => open_tab (sweep_any t p c at' f pf cf u h1 h2 hl)
    have hid := fun (u : World) (r : Rw) (pr : Option Addr) (cr : Nat) (h2 : RatesAt u pf f.rates) => idle_any t p c r pr cr at' f pf cf u h2
    have hrate := fun (u : World) (key : Int) => rate_any f pf cf key u
    have hlk1 := fun (V u : World) (key R B : Int) (hk : Num key) (hR : Num R) (hB : Num B) (h : RowsAt V p t.rows) (hv : Below V.heap.size V u) => open_far (P.look p c key now R B V u hI (by omega) hk hnow hR hB h hv)
    have hlk2 := fun (V u : World) (px : Option Addr) (cx : Nat) (key R B : Int) (hk : Num key) (hR : Num R) (hB : Num B) (h : RowsAt V px (sweep t at' f).rows) (hv : Below V.heap.size V u) => open_far (P.look px cx key now R B V u hIx (by omega) hk hnow hR hB h hv)
    have hsame := fun (i : Nat) (hi : i < t.rows.length) (hd : idle t.start (t.rows.getD i noRow) at' f = true) => same_gone hfit hi ⟨h0, h2⟩ ⟨h1, h3⟩ h4 hd
    have hsg := fun (i : Nat) (hd : idle t.start (t.rows.getD i noRow) at' f = true) => idle_rate hd
    have M0 := Lib.hid (M0.out.addRows (hr.below M0.out.below))
    have HZ := Lib.hid hz
    have HLK1 := Lib.hid hlk1
    have HLK2 := Lib.hid hlk2
    have HSAME := Lib.hid hsame
    have HSG := Lib.hid hsg
    have HID := Lib.hid hid
    have HRATE := Lib.hid hrate
    have HRT := Lib.hid hrt
    have HBR := Lib.hid hB.rows
    have hstl : Hid ((sweep t at' f).start = t.start) := rfl
    rw [hfit] at hf
    clear P inv hr hz hlk1 hlk2 hsame hsg hI hIx hB ho hid hrate HSK hrt ht hfit
    generalize hX : sweep t at' f = X at *
    obtain ⟨n, sk, tl, va, lo, he, ke, qu, rates⟩ := f
    obtain ⟨start, rows⟩ := t
    obtain ⟨xs, xrows⟩ := X
    obtain rfl : xs = start := hstl.out
    simp only [tabVal, cfVal] at *
    have HL := Lib.hid hl
    have HM := Lib.hid hm
    generalize hxn : xrows.length = xn at *
    have HXN := Lib.hid hxn
    have HXX := Lib.hid hX
    clear hl hm hxn hstl hX
    go_enter Try.func5, Try.ntmps5
    go_wp2_with (first
      | (go_at_call 6; (with_reducible refine hf.mono ?_); rintro e u1 ⟨rfl, hb⟩; have M1 := Lib.hid (M0.out.on hb); clear q0 q1; obtain ⟨q0, q1, -⟩ := box2 (M1.out.boxes 0 _ _ _ rfl); obtain ⟨c0, c1, c2, c3, c4, c5, c6, c7, c8⟩ := nine_cells (M1.out.boxes 1 _ _ _ rfl); obtain ⟨t0, t1, -⟩ := box2 (M1.out.boxes 2 _ _ _ rfl); clear hf hb M0)
      | (go_at_call 24; (with_reducible refine (hsw _ (M1.out.rows 0 _ _ rfl) (HZ.out.below M1.out.below)).mono ?_); rintro e u2 ⟨px, cx, rfl, hr2, hb⟩; have M2 := Lib.hid (((M1.out.on hb).addRows hr2).box #[.int .i64 xs, .slice px xn (cx + xn)] 24); clear hb hr2 M1 q0 q1 c0 c1 c2 c3 c4 c5 c6 c7 c8 t0 t1 hsw))
    go_loopw [11, 12, 13, 14, 15, 16, 17] (fun i _ _ _ _ _ _ wr => ∃ (j : Nat), j ≤ rows.length ∧ i = .int .i64 (j : Int) ∧ Hid (Mem W [(u2.heap.size, #[.int .i64 xs, .slice px xn (cx + xn)], 24), (W.heap.size + 1 + 1, #[.int .i64 at', .int .i64 now], 53), (W.heap.size + 1, #[.int .i64 n, .int .i64 sk, .int .i64 tl, .int .i64 va, .int .i64 lo, .int .i64 he, .int .i64 ke, .int .i64 qu, .slice pf rates.length cf], 27), (W.heap.size, #[.int .i64 xs, .slice p rows.length (c + rows.length)], 24)] [(px, xrows), (p, rows)] [] wr)) (fun i _ _ _ _ _ _ _ => rows.length - (intOf i).toNat)
    case atStart => exact ⟨0, by omega, rfl, M2⟩
    case round =>
      obtain ⟨j, hj, rfl, hM⟩ := hrel
      clear M2
      obtain ⟨t0, t1, -⟩ := box2 (hM.out.boxes 3 _ _ _ rfl)
      by_cases hlt : j < rows.length
      · obtain ⟨b, o, rfl, x0, x1, x2, pr, cr, x3, hxl⟩ := rows_some (hM.out.rows 1 _ _ rfl) hlt
        have hlt' : (j : Int) < (rows.length : Int) := by omega
        have hl : (rows.length : Int) ≤ 1000 := by have := HL.out; omega
        have hid := fun u h2 => HID.out u (rows.getD j noRow) pr cr h2
        have hrate := fun u => HRATE.out u (rows.getD j noRow).key
        have hsame := HSAME.out j hlt
        have hsg := HSG.out j
        have hrb := HBR.out (rows.getD j noRow) (by simp [List.getD, hlt])
        have hkey := hrb.key
        have M3 := Lib.hid ((hM.out.addLeases hxl).box #[.int .i64 (rows.getD j noRow).key, .int .i64 (rows.getD j noRow).avail, .int .i64 (rows.getD j noRow).mark, .slice pr (rows.getD j noRow).out.length (cr + (rows.getD j noRow).out.length)] 38)
        generalize hq : idle xs (rows.getD j noRow) at' ⟨n, sk, tl, va, lo, he, ke, qu, rates⟩ = q at *
        have hri : 0 ≤ rateAt rates (rows.getD j noRow).key → ∃ k : Nat, rateAt rates (rows.getD j noRow).key = (k : Int) ∧ k < rates.length := rateAt_lt rates _
        generalize hrr : rows.getD j noRow = r at *
        obtain ⟨rk, ra, rm, ro⟩ := r
        simp only [rowVal] at *
        generalize hrn : ro.length = rn at *
        obtain ⟨c0, c1, c2, c3, c4, c5, c6, c7, c8⟩ := nine_cells (hM.out.boxes 2 _ _ _ rfl)
        clear hq hrr hrn hrb hxl
        cases q with
        | false =>
          clear hsame hsg hri
          generalize rateAt rates rk = ri at *
          obtain ⟨r0, r1, r2, r3, -⟩ := box4 (M3.out.boxes 0 _ _ _ rfl)
          obtain ⟨t2, t3, -⟩ := box2 (M3.out.boxes 4 _ _ _ rfl)
          clear c0 c1 c2 c3 c4 c5 c6 c7 c8
          obtain ⟨c0, c1, c2, c3, c4, c5, c6, c7, c8⟩ := nine_cells (M3.out.boxes 3 _ _ _ rfl)
          go_wp2_with (first
            | (go_at_call 25; (with_reducible refine (hid _ (HZ.out.below M3.out.below)).mono ?_); rintro e u3 ⟨rfl, hb⟩; have M4 := Lib.hid (M3.out.on hb); clear hb M3 r0 r1 r2 r3 t2 t3 c0 c1 c2 c3 c4 c5 c6 c7 c8; obtain ⟨r0, r1, r2, r3, -⟩ := box4 (M4.out.boxes 0 _ _ _ rfl); obtain ⟨c0, c1, c2, c3, c4, c5, c6, c7, c8⟩ := nine_cells (M4.out.boxes 3 _ _ _ rfl))
            | (go_at_call 26; (with_reducible refine (hrate _).mono ?_); rintro e u4 ⟨rfl, hb⟩; have M5 := Lib.hid (M4.out.on hb); clear hb M4))
          go_roundw
          case rel => exact ⟨j + 1, by omega, by go_num, M5.out.sub (by simp) (by simp) (by simp)⟩
          case measure => simp [intOf]; omega
        | true =>
          obtain ⟨k, hk0, hkl⟩ := hri (hsg rfl)
          have hsame := hsame rfl
          clear hri hsg
          rw [hk0, Int.toNat_natCast] at hsame
          have hin : rates.getD k (0, 0) ∈ rates := by simp [List.getD, hkl]
          obtain ⟨⟨kR0, kR1⟩, kB0, kB1⟩ := HRT.out _ hin
          have hlk1 := fun V u h hv => HLK1.out V u rk (rates.getD k (0, 0)).1 (rates.getD k (0, 0)).2 hkey (by unfold Num; omega) (by unfold Num; omega) h hv
          have hlk2 := fun V u px cx h hv => HLK2.out V u px cx rk (rates.getD k (0, 0)).1 (rates.getD k (0, 0)).2 hkey (by unfold Num; omega) (by unfold Num; omega) h hv
          obtain ⟨zb, zo, hpf, z0, z1⟩ := leases_some HZ.out hkl
          subst hpf
          have HR0 := Lib.hid (show ∀ u, Below W.heap.size W u → u.cell? ⟨zb, zo + k * 2, none⟩ = some (.int .i64 (rates.getD k (0, 0)).1) ∧ u.cell? ⟨zb, zo + k * 2 + 1, none⟩ = some (.int .i64 (rates.getD k (0, 0)).2) from fun u hu => ⟨cell_on z0 hu, cell_on z1 hu⟩)
          have hLen : (look ⟨xs, rows⟩ rk now (rates.getD k (0, 0)).1 (rates.getD k (0, 0)).2).out.length ≤ 1000 := look_out_len (base_len' HBR.out) rk now _ _
          rw [hk0] at hrate
          generalize (rates.getD k (0, 0)).1 = R at *
          generalize (rates.getD k (0, 0)).2 = B at *
          rw [← hsame] at hlk2
          clear hsame
          have hrow := fun u p c p' c' h1 h2 => samerow_any (look ⟨xs, rows⟩ rk now R B) p p' c c' u hLen h1 h2
          generalize look ⟨xs, rows⟩ rk now R B = L at *
          obtain ⟨lk, la, lm, lo'⟩ := L
          simp only [rowVal, id_eq] at *
          have hkz : (k : Int) < (rates.length : Int) := by omega
          have hkz0 : (0 : Int) ≤ (k : Int) := by omega
          clear hin kR0 kR1 kB0 kB1 z0 z1 hkey hk0 hLen HSAME HSG HLK1 HLK2 HID HRATE
          generalize lo'.length = ln at *
          generalize rates.length = nz at *
          obtain ⟨r0, r1, r2, r3, -⟩ := box4 (M3.out.boxes 0 _ _ _ rfl)
          obtain ⟨t2, t3, -⟩ := box2 (M3.out.boxes 4 _ _ _ rfl)
          clear c0 c1 c2 c3 c4 c5 c6 c7 c8
          obtain ⟨c0, c1, c2, c3, c4, c5, c6, c7, c8⟩ := nine_cells (M3.out.boxes 3 _ _ _ rfl)
          go_upto_region 15 with (first
            | (go_at_call 25; (with_reducible refine (hid _ (HZ.out.below M3.out.below)).mono ?_); rintro e u3 ⟨rfl, hb⟩; have M4 := Lib.hid (M3.out.on hb); clear hb M3 r0 r1 r2 r3 t2 t3 c0 c1 c2 c3 c4 c5 c6 c7 c8; obtain ⟨r0, r1, r2, r3, -⟩ := box4 (M4.out.boxes 0 _ _ _ rfl); obtain ⟨c0, c1, c2, c3, c4, c5, c6, c7, c8⟩ := nine_cells (M4.out.boxes 3 _ _ _ rfl))
            | (go_at_call 26; (with_reducible refine (hrate _).mono ?_); rintro e u4 ⟨rfl, hb⟩; have M5 := Lib.hid (M4.out.on hb); clear hb M4 r0 r1 r2 r3 c0 c1 c2 c3 c4 c5 c6 c7 c8))
          go_cut [15] (fun q15 wx => ∃ (g : Nat) (p1 : Option Addr) (k1 : Nat), q15 = .pointer (some ⟨g, 0, none⟩) ∧ Hid (Mem W [(g, #[.int .i64 lk, .int .i64 la, .int .i64 lm, .slice p1 ln (k1 + ln)], 38), (wr.heap.size, #[.int .i64 rk, .int .i64 ra, .int .i64 rm, .slice pr rn (cr + rn)], 38), (u2.heap.size, #[.int .i64 xs, .slice px xn (cx + xn)], 24), (W.heap.size + 1 + 1, #[.int .i64 at', .int .i64 now], 53), (W.heap.size + 1, #[.int .i64 n, .int .i64 sk, .int .i64 tl, .int .i64 va, .int .i64 lo, .int .i64 he, .int .i64 ke, .int .i64 qu, .slice (some ⟨zb, zo, none⟩) nz cf], 27), (W.heap.size, #[.int .i64 xs, .slice (some ⟨b, o, none⟩) rows.length (c + rows.length)], 24)] [(px, xrows), (some ⟨b, o, none⟩, rows)] [(p1, lo'), (pr, ro)] wx))
          case first =>
            have MD6 := Lib.hid M5.out.drew
            have MZ6 := Lib.hid (M5.out.box #[.int .i64 0, .int .i64 0, .int .i64 0, .slice none 0 0] 38).drew
            have BZ6 := Lib.hid (below_laid (w := _) (M5.out.below) #[.int .i64 0, .int .i64 0, .int .i64 0, .slice none 0 0] 38)
            have S06 := Lib.hid (And.intro (box2 (M5.out.boxes 4 _ _ _ rfl)).1 (And.intro (box2 (M5.out.boxes 4 _ _ _ rfl)).2.1 (And.intro (box4 (M5.out.boxes 0 _ _ _ rfl)).1 (And.intro (nine_cells (M5.out.boxes 3 _ _ _ rfl)).2.2.2.2.2.2.2.2 (HR0.out _ M5.out.below)))))
            have SZ6 := Lib.hid (And.intro (box2 ((M5.out.box #[.int .i64 0, .int .i64 0, .int .i64 0, .slice none 0 0] 38).boxes 5 _ _ _ rfl)).1 (And.intro (box2 ((M5.out.box #[.int .i64 0, .int .i64 0, .int .i64 0, .slice none 0 0] 38).boxes 5 _ _ _ rfl)).2.1 (And.intro (box4 ((M5.out.box #[.int .i64 0, .int .i64 0, .int .i64 0, .slice none 0 0] 38).boxes 1 _ _ _ rfl)).1 (And.intro (nine_cells ((M5.out.box #[.int .i64 0, .int .i64 0, .int .i64 0, .slice none 0 0] 38).boxes 4 _ _ _ rfl)).2.2.2.2.2.2.2.2 (HR0.out _ (M5.out.box #[.int .i64 0, .int .i64 0, .int .i64 0, .slice none 0 0] 38).below)))))
            obtain ⟨t2, t3, -⟩ := box2 (M5.out.boxes 4 _ _ _ rfl)
            obtain ⟨r0, -, -, -, -⟩ := box4 (M5.out.boxes 0 _ _ _ rfl)
            have c8 := (nine_cells (M5.out.boxes 3 _ _ _ rfl)).2.2.2.2.2.2.2.2
            obtain ⟨k0, k1⟩ := HR0.out _ M5.out.below
            go_region_held3 (fun u => u.cell? ⟨W.heap.size, 0, none⟩ = some (.int .i64 xs) ∧ u.cell? ⟨W.heap.size, 1, none⟩ = some (.slice (some ⟨b, o, none⟩) rows.length (c + rows.length)) ∧ u.cell? ⟨wr.heap.size, 0, none⟩ = some (.int .i64 rk) ∧ u.cell? ⟨W.heap.size + 1, 8, none⟩ = some (.slice (some ⟨zb, zo, none⟩) nz cf) ∧ u.cell? ⟨zb, zo + k * 2, none⟩ = some (.int .i64 R) ∧ u.cell? ⟨zb, zo + k * 2 + 1, none⟩ = some (.int .i64 B)) (first | assumption | exact SN6.out | exact SM6.out | exact SL6.out | exact SZ6.out | exact S06.out) (first
              | (go_at_call 14; (with_reducible refine (hlk1 _ _  (MD6.out.rows 1 _ _ rfl) (Below.refl _ _)).mono ?_); rintro e u6 ⟨p6, q6, rfl, hl6, -, hb⟩; have M6 := Lib.hid ((MD6.out.on hb).addLeases hl6); have SL6 := Lib.hid (And.intro (box2 (M6.out.boxes 4 _ _ _ rfl)).1 (And.intro (box2 (M6.out.boxes 4 _ _ _ rfl)).2.1 (And.intro (box4 (M6.out.boxes 0 _ _ _ rfl)).1 (And.intro (nine_cells (M6.out.boxes 3 _ _ _ rfl)).2.2.2.2.2.2.2.2 (HR0.out _ M6.out.below))))); have SM6 := Lib.hid (And.intro (box2 ((M6.out.box #[.int .i64 0, .int .i64 0, .int .i64 0, .slice none 0 0] 38).boxes 5 _ _ _ rfl)).1 (And.intro (box2 ((M6.out.box #[.int .i64 0, .int .i64 0, .int .i64 0, .slice none 0 0] 38).boxes 5 _ _ _ rfl)).2.1 (And.intro (box4 ((M6.out.box #[.int .i64 0, .int .i64 0, .int .i64 0, .slice none 0 0] 38).boxes 1 _ _ _ rfl)).1 (And.intro (nine_cells ((M6.out.box #[.int .i64 0, .int .i64 0, .int .i64 0, .slice none 0 0] 38).boxes 4 _ _ _ rfl)).2.2.2.2.2.2.2.2 (HR0.out _ (M6.out.box #[.int .i64 0, .int .i64 0, .int .i64 0, .slice none 0 0] 38).below))))); have M7 := Lib.hid (M6.out.box #[.int .i64 lk, .int .i64 la, .int .i64 lm, .slice p6 ln (q6 + ln)] 38); have SN6 := Lib.hid (And.intro (box2 (M7.out.boxes 5 _ _ _ rfl)).1 (And.intro (box2 (M7.out.boxes 5 _ _ _ rfl)).2.1 (And.intro (box4 (M7.out.boxes 1 _ _ _ rfl)).1 (And.intro (nine_cells (M7.out.boxes 4 _ _ _ rfl)).2.2.2.2.2.2.2.2 (HR0.out _ M7.out.below))))); clear hl6 hb M6)
              | (go_at_call 14; (with_reducible refine (hlk1 _ _  (M5.out.rows 1 _ _ rfl) BZ6.out).mono ?_); rintro e u6 ⟨p6, q6, rfl, hl6, hf6, hb⟩; obtain ⟨y0, y1, y2, y3, ff⟩ := box4 ((MZ6.out.on hb).boxes 0 _ _ _ rfl); have f0 := ff 0; have f1 := ff 1; have f2 := ff 2; have f3 := ff 3; clear ff; have SL6 := Lib.hid (And.intro (box2 ((MZ6.out.on hb).boxes 5 _ _ _ rfl)).1 (And.intro (box2 ((MZ6.out.on hb).boxes 5 _ _ _ rfl)).2.1 (And.intro (box4 ((MZ6.out.on hb).boxes 1 _ _ _ rfl)).1 (And.intro (nine_cells ((MZ6.out.on hb).boxes 4 _ _ _ rfl)).2.2.2.2.2.2.2.2 (HR0.out _ (MZ6.out.on hb).below))))); have M7 := Lib.hid ((M5.out.fill (below_call hb) (.int .i64 lk) (.int .i64 la) (.int .i64 lm) (.slice p6 ln (q6 + ln))).addLeases (leases_fill hl6 (far_ne hf6) (.int .i64 lk) (.int .i64 la) (.int .i64 lm) (.slice p6 ln (q6 + ln)))); have SN6 := Lib.hid (And.intro (box2 (M7.out.boxes 5 _ _ _ rfl)).1 (And.intro (box2 (M7.out.boxes 5 _ _ _ rfl)).2.1 (And.intro (box4 (M7.out.boxes 1 _ _ _ rfl)).1 (And.intro (nine_cells (M7.out.boxes 4 _ _ _ rfl)).2.2.2.2.2.2.2.2 (HR0.out _ M7.out.below))))); clear hl6 hf6 hb))
            all_goals
              clear MD6 MZ6 BZ6 S06 SZ6 SL6 SN6 t2 t3 r0 c8 k0 k1
              (go_wp2_with fail; go_meet; exact ⟨_, _, _, rfl, M7⟩)
          case rest =>
            obtain ⟨g1, p1, k1', rfl, M7⟩ := hcut
            clear hlk1
            go_upto_region 16 with fail
            go_cut [16] (fun q16 wx => ∃ (g : Nat) (p2 : Option Addr) (k2 : Nat), q16 = .pointer (some ⟨g, 0, none⟩) ∧ Hid (Mem W [(g, #[.int .i64 lk, .int .i64 la, .int .i64 lm, .slice p2 ln (k2 + ln)], 38), (g1, #[.int .i64 lk, .int .i64 la, .int .i64 lm, .slice p1 ln (k1' + ln)], 38), (wr.heap.size, #[.int .i64 rk, .int .i64 ra, .int .i64 rm, .slice pr rn (cr + rn)], 38), (u2.heap.size, #[.int .i64 xs, .slice px xn (cx + xn)], 24), (W.heap.size + 1 + 1, #[.int .i64 at', .int .i64 now], 53), (W.heap.size + 1, #[.int .i64 n, .int .i64 sk, .int .i64 tl, .int .i64 va, .int .i64 lo, .int .i64 he, .int .i64 ke, .int .i64 qu, .slice (some ⟨zb, zo, none⟩) nz cf], 27), (W.heap.size, #[.int .i64 xs, .slice (some ⟨b, o, none⟩) rows.length (c + rows.length)], 24)] [(px, xrows), (some ⟨b, o, none⟩, rows)] [(p2, lo'), (p1, lo'), (pr, ro)] wx))
            case first =>
              have MD7 := Lib.hid M7.out.drew
              have MZ7 := Lib.hid (M7.out.box #[.int .i64 0, .int .i64 0, .int .i64 0, .slice none 0 0] 38).drew
              have BZ7 := Lib.hid (below_laid (w := _) (M7.out.below) #[.int .i64 0, .int .i64 0, .int .i64 0, .slice none 0 0] 38)
              have S07 := Lib.hid (And.intro (box2 (M7.out.boxes 2 _ _ _ rfl)).1 (And.intro (box2 (M7.out.boxes 2 _ _ _ rfl)).2.1 (And.intro (box4 (M7.out.boxes 1 _ _ _ rfl)).1 (And.intro (nine_cells (M7.out.boxes 4 _ _ _ rfl)).2.2.2.2.2.2.2.2 (HR0.out _ M7.out.below)))))
              have SZ7 := Lib.hid (And.intro (box2 ((M7.out.box #[.int .i64 0, .int .i64 0, .int .i64 0, .slice none 0 0] 38).boxes 3 _ _ _ rfl)).1 (And.intro (box2 ((M7.out.box #[.int .i64 0, .int .i64 0, .int .i64 0, .slice none 0 0] 38).boxes 3 _ _ _ rfl)).2.1 (And.intro (box4 ((M7.out.box #[.int .i64 0, .int .i64 0, .int .i64 0, .slice none 0 0] 38).boxes 2 _ _ _ rfl)).1 (And.intro (nine_cells ((M7.out.box #[.int .i64 0, .int .i64 0, .int .i64 0, .slice none 0 0] 38).boxes 5 _ _ _ rfl)).2.2.2.2.2.2.2.2 (HR0.out _ (M7.out.box #[.int .i64 0, .int .i64 0, .int .i64 0, .slice none 0 0] 38).below)))))
              obtain ⟨t2, t3, -⟩ := box2 (M7.out.boxes 2 _ _ _ rfl)
              obtain ⟨r0, -, -, -, -⟩ := box4 (M7.out.boxes 1 _ _ _ rfl)
              have c8 := (nine_cells (M7.out.boxes 4 _ _ _ rfl)).2.2.2.2.2.2.2.2
              obtain ⟨k0, k1⟩ := HR0.out _ M7.out.below
              go_region_held3 (fun u => u.cell? ⟨u2.heap.size, 0, none⟩ = some (.int .i64 xs) ∧ u.cell? ⟨u2.heap.size, 1, none⟩ = some (.slice px xn (cx + xn)) ∧ u.cell? ⟨wr.heap.size, 0, none⟩ = some (.int .i64 rk) ∧ u.cell? ⟨W.heap.size + 1, 8, none⟩ = some (.slice (some ⟨zb, zo, none⟩) nz cf) ∧ u.cell? ⟨zb, zo + k * 2, none⟩ = some (.int .i64 R) ∧ u.cell? ⟨zb, zo + k * 2 + 1, none⟩ = some (.int .i64 B)) (first | assumption | exact SN7.out | exact SM7.out | exact SL7.out | exact SZ7.out | exact S07.out) (first
                | (go_at_call 14; (with_reducible refine (hlk2 _ _ _ _ (MD7.out.rows 0 _ _ rfl) (Below.refl _ _)).mono ?_); rintro e u7 ⟨p7, q7, rfl, hl7, -, hb⟩; have M6 := Lib.hid ((MD7.out.on hb).addLeases hl7); have SL7 := Lib.hid (And.intro (box2 (M6.out.boxes 2 _ _ _ rfl)).1 (And.intro (box2 (M6.out.boxes 2 _ _ _ rfl)).2.1 (And.intro (box4 (M6.out.boxes 1 _ _ _ rfl)).1 (And.intro (nine_cells (M6.out.boxes 4 _ _ _ rfl)).2.2.2.2.2.2.2.2 (HR0.out _ M6.out.below))))); have SM7 := Lib.hid (And.intro (box2 ((M6.out.box #[.int .i64 0, .int .i64 0, .int .i64 0, .slice none 0 0] 38).boxes 3 _ _ _ rfl)).1 (And.intro (box2 ((M6.out.box #[.int .i64 0, .int .i64 0, .int .i64 0, .slice none 0 0] 38).boxes 3 _ _ _ rfl)).2.1 (And.intro (box4 ((M6.out.box #[.int .i64 0, .int .i64 0, .int .i64 0, .slice none 0 0] 38).boxes 2 _ _ _ rfl)).1 (And.intro (nine_cells ((M6.out.box #[.int .i64 0, .int .i64 0, .int .i64 0, .slice none 0 0] 38).boxes 5 _ _ _ rfl)).2.2.2.2.2.2.2.2 (HR0.out _ (M6.out.box #[.int .i64 0, .int .i64 0, .int .i64 0, .slice none 0 0] 38).below))))); have M8 := Lib.hid (M6.out.box #[.int .i64 lk, .int .i64 la, .int .i64 lm, .slice p7 ln (q7 + ln)] 38); have SN7 := Lib.hid (And.intro (box2 (M8.out.boxes 3 _ _ _ rfl)).1 (And.intro (box2 (M8.out.boxes 3 _ _ _ rfl)).2.1 (And.intro (box4 (M8.out.boxes 2 _ _ _ rfl)).1 (And.intro (nine_cells (M8.out.boxes 5 _ _ _ rfl)).2.2.2.2.2.2.2.2 (HR0.out _ M8.out.below))))); clear hl7 hb M6)
                | (go_at_call 14; (with_reducible refine (hlk2 _ _ _ _ (M7.out.rows 0 _ _ rfl) BZ7.out).mono ?_); rintro e u7 ⟨p7, q7, rfl, hl7, hf7, hb⟩; obtain ⟨y0, y1, y2, y3, ff⟩ := box4 ((MZ7.out.on hb).boxes 0 _ _ _ rfl); have f0 := ff 0; have f1 := ff 1; have f2 := ff 2; have f3 := ff 3; clear ff; have SL7 := Lib.hid (And.intro (box2 ((MZ7.out.on hb).boxes 3 _ _ _ rfl)).1 (And.intro (box2 ((MZ7.out.on hb).boxes 3 _ _ _ rfl)).2.1 (And.intro (box4 ((MZ7.out.on hb).boxes 2 _ _ _ rfl)).1 (And.intro (nine_cells ((MZ7.out.on hb).boxes 5 _ _ _ rfl)).2.2.2.2.2.2.2.2 (HR0.out _ (MZ7.out.on hb).below))))); have M8 := Lib.hid ((M7.out.fill (below_call hb) (.int .i64 lk) (.int .i64 la) (.int .i64 lm) (.slice p7 ln (q7 + ln))).addLeases (leases_fill hl7 (far_ne hf7) (.int .i64 lk) (.int .i64 la) (.int .i64 lm) (.slice p7 ln (q7 + ln)))); have SN7 := Lib.hid (And.intro (box2 (M8.out.boxes 3 _ _ _ rfl)).1 (And.intro (box2 (M8.out.boxes 3 _ _ _ rfl)).2.1 (And.intro (box4 (M8.out.boxes 2 _ _ _ rfl)).1 (And.intro (nine_cells (M8.out.boxes 5 _ _ _ rfl)).2.2.2.2.2.2.2.2 (HR0.out _ M8.out.below))))); clear hl7 hf7 hb))
              all_goals
                clear MD7 MZ7 BZ7 S07 SZ7 SL7 SN7 t2 t3 r0 c8 k0 k1
                (go_wp2_with fail; go_meet; exact ⟨_, _, _, rfl, M8⟩)
            case rest =>
              obtain ⟨g2, p2, k2', rfl, M8⟩ := hcut
              obtain ⟨l0, l1, l2, l3, -⟩ := box4 (M8.out.boxes 0 _ _ _ rfl)
              obtain ⟨m0, m1, m2, m3, -⟩ := box4 (M8.out.boxes 1 _ _ _ rfl)
              go_wp2_with (go_at_call 13; (with_reducible refine (hrow _ _ _ _ _ (M8.out.leases 1 _ _ rfl) (M8.out.leases 0 _ _ rfl)).mono ?_); rintro e u8 ⟨rfl, hb⟩; have M9 := Lib.hid (M8.out.on hb); clear hb l0 l1 l2 l3 m0 m1 m2 m3 M8)
              go_roundw
              case rel => exact ⟨j + 1, by omega, by go_num, M9.out.sub (by simp) (by simp) (by simp)⟩
              case measure => simp [intOf]; omega
      · go_wp2_with (go_at_call 7; (with_reducible refine (hal _).mono ?_); rintro e u5 ⟨rfl, hb⟩)
        go_ret
        exact ⟨rfl, hM.out.below.trans (hb.mono hM.out.below.size)⟩
end Go.Proofs.Ytcnnepmhdccipaa.Ledger
