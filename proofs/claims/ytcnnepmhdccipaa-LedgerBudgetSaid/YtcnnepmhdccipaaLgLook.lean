/-
  The program's Look, of any rows of up to 1000.
-/
import Derived.Test.YtcnnepmhdccipaaLgFind
namespace Go.Proofs.Ytcnnepmhdccipaa.Ledger
open Go.RowKit
open _root_.Go.Proofs.Ytcnnepmhdccipaa.Frame (Rw Tb noRow LeasesAt cell_on)
open _root_.Go.Proofs.Ytcnnepmhdccipaa.Codec (own_below own_lower lt_of_heap frozen_of heap_set)
open _root_.Go.Proofs.Ytcnnepmhdccipaa.Sat (fit add sub mul fit_lo fit_hi fit_self fit_fit fit_any sub_any mul_any add2 add_lo add_hi)

/-- A row, minted, and where its leases lie. -/
def lookP (start : Int) (m : List Rp) (key now R B : Int) : Rp := (minted (foundP start m key).1 now R B, (foundP start m key).2)
set_option maxRecDepth 100000 in
set_option maxHeartbeats 2000000 in
theorem plook_core (start : Int) (p : Option Addr) (nm c : Nat) (key now R B : Int) (fk fa fm : Int) (px : Option Addr) (nx cx : Nat) (w : World) (q : Bool) (T s1 more room av mk : Int) (hT : -9223372036854775808 ≤ T ∧ T ≤ 9223372036854775807)
    (hfind : ∀ u, Below w.heap.size w u → Calls Try.prog 11 #[.agg #[.int .i64 start, .slice p nm (c + nm)], .int .i64 key] u fun e u' => e = .returned (.tuple #[.agg #[.int .i64 fk, .int .i64 fa, .int .i64 fm, .slice px nx (cx + nx)], .bool q]) ∧ Below u.heap.size u u')
    (htot : ∀ u, Below w.heap.size w u → Calls Try.prog 19 #[.agg #[.int .i64 fk, .int .i64 fa, .int .i64 fm, .slice px nx (cx + nx)]] u fun e u' => e = .returned (.int .i64 T) ∧ Below u.heap.size u u')
    (h1 : s1 = sub now fm) (h2 : more = mul R s1) (h3 : room = sub B T) (h4 : av = add [fa, min more room]) (h5 : mk = max fm now) :
    Calls Try.prog 14 #[.agg #[.int .i64 start, .slice p nm (c + nm)], .int .i64 key, .int .i64 now, .agg #[.int .i64 R, .int .i64 B]] w fun e w' => e = .returned (.agg #[.int .i64 fk, .int .i64 av, .int .i64 mk, .slice px nx (cx + nx)]) ∧ Below w.heap.size w w' := by
  have M0 := Lib.hid ((((Mem.start w).box #[.int .i64 start, .slice p nm (c + nm)] 24).box #[.int .i64 R, .int .i64 B] 44).box #[.int .i64 0, .int .i64 0, .int .i64 0, .slice none 0 0] 38)
  simp only [size_alloc] at M0
  have hsub := sub_any now fm
  have hmul := mul_any R s1
  have hsub2 := sub_any B T
  rw [← h1] at hsub
  rw [← h2] at hmul
  rw [← h3] at hsub2
  have hcase : (¬ room < more ∧ fm < now ∧ av = add [fa, more] ∧ mk = now) ∨ (¬ room < more ∧ ¬ fm < now ∧ av = add [fa, more] ∧ mk = fm) ∨ (room < more ∧ fm < now ∧ av = add [fa, room] ∧ mk = now) ∨ (room < more ∧ ¬ fm < now ∧ av = add [fa, room] ∧ mk = fm) := by
    by_cases k1 : room < more
    · have e1 : min more room = room := by omega
      rw [e1] at h4
      by_cases k2 : fm < now
      · exact .inr (.inr (.inl ⟨k1, k2, h4, by omega⟩))
      · exact .inr (.inr (.inr ⟨k1, k2, h4, by omega⟩))
    · have e1 : min more room = more := by omega
      rw [e1] at h4
      by_cases k2 : fm < now
      · exact .inl ⟨k1, k2, h4, by omega⟩
      · exact .inr (.inl ⟨k1, k2, h4, by omega⟩)
  clear h1 h2 h3 h4 h5
  obtain ⟨t0, t1, -⟩ := box2 (M0.out.boxes 2 _ _ _ rfl)
  have hf1 := hfind _ M0.out.below
  clear hfind
  go_enter Try.func14, Try.ntmps14
  go_wp2_with (first
    | (go_at_call 11; (with_reducible refine hf1.mono ?_); rintro e u1 ⟨rfl, hb⟩; have hlt := lt_of_heap ((M0.out.on hb).boxes 0 _ _ _ rfl); have M1 := Lib.hid ((M0.out.on hb).box #[.int .i64 fk, .int .i64 fa, .int .i64 fm, .slice px nx (cx + nx)] 38); clear hb t0 t1; obtain ⟨r0, r1, r2, r3, -⟩ := box4 (M1.out.boxes 0 _ _ _ rfl); obtain ⟨z0, z1, -⟩ := box2 (M1.out.boxes 2 _ _ _ rfl)))
  have MD := Lib.hid M1.out.drew
  go_region_held3 (fun u => u.cell? ⟨w.heap.size + 1, 0, none⟩ = some (.int .i64 R) ∧ u.cell? ⟨u1.heap.size, 2, none⟩ = some (.int .i64 fm)) (first | assumption | exact ⟨z0, r2⟩) (first
    | (go_at_call 40; (with_reducible refine (hsub _).mono ?_); rintro e u2 ⟨rfl, rfl⟩)
    | (go_at_call 39; (with_reducible refine (hmul _).mono ?_); rintro e u2 ⟨rfl, rfl⟩))
  all_goals
    clear r0 r1 r2 r3 z0 z1
    obtain ⟨r0, r1, r2, r3, -⟩ := box4 (MD.out.boxes 0 _ _ _ rfl)
    obtain ⟨z0, z1, -⟩ := box2 (MD.out.boxes 2 _ _ _ rfl)
    have ME := Lib.hid MD.out.drew
    have HTT := Lib.hid htot
    clear htot
    go_wp2
    go_region_held3 (fun u => u.cell? ⟨w.heap.size + 1, 1, none⟩ = some (.int .i64 B) ∧ u.cell? ⟨u1.heap.size, 0, none⟩ = some (.int .i64 fk) ∧ u.cell? ⟨u1.heap.size, 1, none⟩ = some (.int .i64 fa) ∧ u.cell? ⟨u1.heap.size, 2, none⟩ = some (.int .i64 fm) ∧ u.cell? ⟨u1.heap.size, 3, none⟩ = some (.slice px nx (cx + nx))) (first | assumption | exact SN.out | exact ⟨z1, r0, r1, r2, r3⟩) (first
      | (go_at_call 19; (with_reducible refine (HTT.out _ ME.out.below).mono ?_); rintro e u3 ⟨rfl, hb⟩; have M2 := Lib.hid (ME.out.on hb); have SN := Lib.hid (And.intro (box2 (M2.out.boxes 2 _ _ _ rfl)).2.1 (And.intro (box4 (M2.out.boxes 0 _ _ _ rfl)).1 (And.intro (box4 (M2.out.boxes 0 _ _ _ rfl)).2.1 (And.intro (box4 (M2.out.boxes 0 _ _ _ rfl)).2.2.1 (box4 (M2.out.boxes 0 _ _ _ rfl)).2.2.2.1)))); clear hb)
      | (go_at_call 40; (with_reducible refine (hsub2 _).mono ?_); rintro e u4 ⟨rfl, rfl⟩))
    all_goals
      clear r0 r1 r2 r3 z0 z1
      obtain ⟨r0, r1, r2, r3, -⟩ := box4 (M2.out.boxes 0 _ _ _ rfl)
      clear HTT
      have hn1 : ¬ (u1.heap.size = w.heap.size + 1 + 1) := by omega
      have hn2 : ¬ (w.heap.size + 1 + 1 = u1.heap.size) := by omega
      have hge : w.heap.size ≤ u1.heap.size := by have := size_alloc w (.cells #[] 0); omega
      clear hlt
      rcases hcase with ⟨k1, k2, hav, rfl⟩ | ⟨k1, k2, hav, rfl⟩ | ⟨k1, k2, hav, rfl⟩ | ⟨k1, k2, hav, rfl⟩
      case' inl => have hadd := add2 fa more
      case' inr.inl => have hadd := add2 fa more
      case' inr.inr.inl => have hadd := add2 fa room
      case' inr.inr.inr => have hadd := add2 fa room
      all_goals
        rw [← hav] at hadd
        clear hav
        go_wp2_with (go_at_call 41; (with_reducible refine (hadd _ _ (by first | rfl | simp)).mono ?_); rintro e u5 ⟨rfl, hu⟩; have M3 := Lib.hid (M2.out.on (u' := u5) (by rw [← hu]; exact (Below.refl _ _).alloc (Nat.le_refl _) _)); clear hu r0 r1 r2 r3; obtain ⟨r0, r1, r2, r3, ff⟩ := box4 (M3.out.boxes 0 _ _ _ rfl); obtain ⟨d0, d1, d2, d3, gg⟩ := box4 (M3.out.boxes 1 _ _ _ rfl); have f1 := ff 1; have f2 := ff 2; have g0 := gg 0; have g1 := gg 1; have g2 := gg 2; have g3 := gg 3; clear ff gg)
        refine bodyPost_ret ?gh rfl ⟨rfl, ?gb⟩
        case gh => simp [results, Try.results14, go_sem, d0, d1, d2, d3]
        case gb => repeat' (first
          | with_reducible refine Below.setCell ?_ (by first | omega | (simp; done) | (simp; omega)) _
          | exact M3.out.below)
/-- Look. -/
theorem plook_any (start : Int) (m : List Rp) (p : Option Addr) (c : Nat) (key now R B : Int) (w : World) (hl : m.length ≤ 1000) (h : RowsAt w p (m.map (·.1))) (hm : Lay w p (cellsR m)) (hml : ∀ x ∈ m, LeasesAt w x.2.1 x.1.out ∧ x.1.out.length ≤ 1000) :
    Calls Try.prog 14 #[.agg #[.int .i64 start, .slice p m.length (c + m.length)], .int .i64 key, .int .i64 now, .agg #[.int .i64 R, .int .i64 B]] w fun e w' => e = .returned (rpVal (lookP start m key now R B)) ∧ Below w.heap.size w w' := by
  have hf : LeasesAt w (foundP start m key).2.1 (foundP start m key).1.out ∧ (foundP start m key).1.out.length ≤ 1000 := by
    rcases foundP_in start m key with e | e
    · rw [e]; exact ⟨.inl rfl, by simp⟩
    · exact hml _ e
  have hfind := fun u (hb : Below w.heap.size w u) => pfind_any start m p c key u hl (h.below hb) (hm.on hb)
  have htot := fun u (hb : Below w.heap.size w u) => ptotal_any (foundP start m key).1 (foundP start m key).2.1 (foundP start m key).2.2 u (hf.1.below hb) hf.2
  exact plook_core start p m.length c key now R B (foundP start m key).1.key (foundP start m key).1.avail (foundP start m key).1.mark (foundP start m key).2.1 (foundP start m key).1.out.length (foundP start m key).2.2 w (decide (0 ≤ place (m.map (·.1)) key)) (total (foundP start m key).1) _ _ _ _ _
    (by have h1 := add_lo ((foundP start m key).1.avail :: (foundP start m key).1.out.map (·.2)); have h2 := add_hi ((foundP start m key).1.avail :: (foundP start m key).1.out.map (·.2)); unfold total; omega) hfind htot rfl rfl rfl rfl rfl
end Go.Proofs.Ytcnnepmhdccipaa.Ledger
