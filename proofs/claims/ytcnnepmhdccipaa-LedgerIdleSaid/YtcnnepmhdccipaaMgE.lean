/-
  The document's minted, Look, of any row, and table, of up to 1000 leases, and rows, return what the plain functions of LedgerPlain give; of what lay when the call began nothing has turned.
  append of one row, just laid, onto rows that a call owns.
  The document's Rate, once more without conf's own texts; the document's Idle of any row, table and configuration.
  The document's set, of any table and row of up to 1000 rows, returns the plain function's table; of what lay when the call began nothing has turned.
  Leases that a call owns; append of one, just laid. What the document's Settle and Grant make, plain.
-/
import Derived.Deep.RegionHeld3
import Derived.Laws.AppendOwnNone
import Derived.Test.YtcnnepmhdccipaaMgD
namespace Go.Proofs.Ytcnnepmhdccipaa.Ledger
open Go.RowKit
open _root_.Go.Proofs.Ytcnnepmhdccipaa.Frame (Rw Tb noRow LeasesAt cell_on)
open _root_.Go.Proofs.Ytcnnepmhdccipaa.Codec (own_below own_lower lt_of_heap frozen_of heap_set below_new)
open _root_.Go.Proofs.Ytcnnepmhdccipaa.Sat (fit add sub mul radd_any rsub_any rmul_any rtwo_any)

theorem rate_cells {w : World} {b : Nat} {x y : Value} (h : w.heap[b]? = some (.cells #[x, y] 44 (0, 0))) :
    w.cell? ⟨b, 0, Option.none⟩ = some x ∧ w.cell? ⟨b, 1, Option.none⟩ = some y :=
  ⟨by rw [cell_of_row w b 0 _ _ (0, 0) h]; rfl, by rw [cell_of_row w b 1 _ _ (0, 0) h]; rfl⟩
/-- Three new blocks. -/
theorem three_new (w : World) (o1 o2 o3 : Obj) : ((((w.alloc o1).alloc o2).alloc o3).heap[w.heap.size]? = some o1) ∧ ((((w.alloc o1).alloc o2).alloc o3).heap[w.heap.size + 1]? = some o2) ∧ ((((w.alloc o1).alloc o2).alloc o3).heap[w.heap.size + 1 + 1]? = some o3) ∧ Below w.heap.size w (((w.alloc o1).alloc o2).alloc o3) := by
  have z1 : (w.alloc o1).heap.size = w.heap.size + 1 := by simp
  have z2 : ((w.alloc o1).alloc o2).heap.size = w.heap.size + 1 + 1 := by simp
  have n2 := heap_alloc_new (w.alloc o1) o2
  have n3 := heap_alloc_new ((w.alloc o1).alloc o2) o3
  rw [z1] at n2
  rw [z2] at n3
  exact ⟨(Below.heap_alloc _ _ _ (by simp; omega)).trans ((Below.heap_alloc _ _ _ (by simp)).trans (heap_alloc_new _ _)), (Below.heap_alloc _ _ _ (by simp)).trans n2, n3, (((Below.refl _ _).alloc (Nat.le_refl _) _).alloc (by simp) _).alloc (by simp; omega) _⟩

set_option maxRecDepth 100000 in
set_option maxHeartbeats 2000000 in
theorem minted_any (r : Rw) (p : Option Addr) (c : Nat) (now R B : Int) (w : World) (h : LeasesAt w p r.out) (hl : r.out.length ≤ 1000) :
    Calls Try.prog 42 #[rowVal r p c, .int .i64 now, .agg #[.int .i64 R, .int .i64 B]] w fun e w' => e = .returned (rowVal (minted r now R B) p c) ∧ Below w.heap.size w w' := by
  have htot := fun (u : World) (hu : Below w.heap.size w u) => total_any r p c u (h.below hu) hl
  have hm : Hid (∀ a m, a = add [r.avail, min (mul R (sub now r.mark)) (sub B (total r))] → m = max r.mark now → rowVal (minted r now R B) p c = .agg #[.int .i64 r.key, .int .i64 a, .int .i64 m, .slice p r.out.length (c + r.out.length)]) := by
    rintro a m rfl rfl
    rfl
  generalize rowVal (minted r now R B) p c = V at hm ⊢
  have hsub := rsub_any now r.mark
  have hmul := rmul_any R (sub now r.mark)
  have hsub2 := rsub_any B (total r)
  generalize sub now r.mark = s1 at *
  generalize mul R s1 = more at *
  generalize total r = T at *
  generalize sub B T = room at *
  obtain ⟨key, avail, mark, out⟩ := r
  simp only [rowVal] at *
  generalize out.length = n at *
  have htwo1 := rtwo_any avail more
  have htwo2 := rtwo_any avail room
  obtain ⟨k0, k1, k2, hb⟩ := three_new w (.cells #[.int .i64 key, .int .i64 avail, .int .i64 mark, .slice p n (c + n)] 38) (.cells #[.int .i64 R, .int .i64 B] 44) (.cells #[.int .i64 0, .int .i64 0, .int .i64 0, .slice none 0 0] 38)
  have hcase : (more ≤ room ∧ mark < now) ∨ (more ≤ room ∧ now ≤ mark) ∨ (room < more ∧ mark < now) ∨ (room < more ∧ now ≤ mark) := by omega
  clear h hl
  rcases hcase with ⟨h1, h2⟩ | ⟨h1, h2⟩ | ⟨h1, h2⟩ | ⟨h1, h2⟩
  case' inl => have HV := Lib.hid (hm.out (add [avail, more]) now (by rw [show min more room = more by omega]) (by omega))
  case' inr.inl => have HV := Lib.hid (hm.out (add [avail, more]) mark (by rw [show min more room = more by omega]) (by omega))
  case' inr.inr.inl => have HV := Lib.hid (hm.out (add [avail, room]) now (by rw [show min more room = room by omega]) (by omega))
  case' inr.inr.inr => have HV := Lib.hid (hm.out (add [avail, room]) mark (by rw [show min more room = room by omega]) (by omega))
  all_goals
    clear hm
    generalize add [avail, more] = q1 at *
    generalize add [avail, room] = q2 at *
    have hk : ∀ u, Below (((w.alloc (.cells #[.int .i64 key, .int .i64 avail, .int .i64 mark, .slice p n (c + n)] 38)).alloc (.cells #[.int .i64 R, .int .i64 B] 44)).alloc (.cells #[.int .i64 0, .int .i64 0, .int .i64 0, .slice none 0 0] 38)).heap.size (((w.alloc (.cells #[.int .i64 key, .int .i64 avail, .int .i64 mark, .slice p n (c + n)] 38)).alloc (.cells #[.int .i64 R, .int .i64 B] 44)).alloc (.cells #[.int .i64 0, .int .i64 0, .int .i64 0, .slice none 0 0] 38)) u →
        u.heap[w.heap.size]? = some (.cells #[.int .i64 key, .int .i64 avail, .int .i64 mark, .slice p n (c + n)] 38 (0, 0)) ∧ u.heap[w.heap.size + 1]? = some (.cells #[.int .i64 R, .int .i64 B] 44 (0, 0)) ∧ u.heap[w.heap.size + 1 + 1]? = some (.cells #[.int .i64 0, .int .i64 0, .int .i64 0, .slice none 0 0] 38 (0, 0)) :=
      fun u hu => ⟨(hu.block _ (lt_of_heap k0)).trans k0, (hu.block _ (lt_of_heap k1)).trans k1, (hu.block _ (lt_of_heap k2)).trans k2⟩
    have HK := Lib.hid hk
    have HB := Lib.hid hb
    clear hk hb k0 k1 k2
    go_enter Try.func42, Try.ntmps42
    go_wp2
    generalize (((w.alloc (.cells #[.int .i64 key, .int .i64 avail, .int .i64 mark, .slice p n (c + n)] 38)).alloc (.cells #[.int .i64 R, .int .i64 B] 44)).alloc (.cells #[.int .i64 0, .int .i64 0, .int .i64 0, .slice none 0 0] 38)) = w3 at *
    have D0 := Lib.hid (Below.refl w3.heap.size w3).drew
    obtain ⟨q, q', -⟩ := HK.out _ D0.out
    obtain ⟨-, -, a2, -⟩ := row_cells q
    obtain ⟨b0, -⟩ := rate_cells q'
    clear q q'
    go_region_held3 (fun u => u.cell? ⟨w.heap.size + 1, 0, none⟩ = some (.int .i64 R) ∧ u.cell? ⟨w.heap.size, 2, none⟩ = some (.int .i64 mark)) (first | assumption | exact ⟨b0, a2⟩) (first
      | (go_at_call 50; (with_reducible refine (hsub _).mono ?_); rintro e u1 ⟨rfl, rfl⟩)
      | (go_at_call 23; (with_reducible refine (hmul _).mono ?_); rintro e u2 ⟨rfl, rfl⟩))
    all_goals
      go_wp2
      have D1 := Lib.hid D0.out.drew
      clear a2 b0
      obtain ⟨q, q', -⟩ := HK.out _ D1.out
      obtain ⟨a0, a1, a2, a3, -⟩ := row_cells q
      obtain ⟨-, b1⟩ := rate_cells q'
      clear q q'
      go_region_held3 (fun u => u.cell? ⟨w.heap.size + 1, 1, none⟩ = some (.int .i64 B) ∧ u.cell? ⟨w.heap.size, 0, none⟩ = some (.int .i64 key) ∧ u.cell? ⟨w.heap.size, 1, none⟩ = some (.int .i64 avail) ∧ u.cell? ⟨w.heap.size, 2, none⟩ = some (.int .i64 mark) ∧ u.cell? ⟨w.heap.size, 3, none⟩ = some (.slice p n (c + n))) (first | assumption | exact ⟨b1, a0, a1, a2, a3⟩ | exact ⟨e1, d0, d1, d2, d3⟩) (first
        | (go_at_call 20; (with_reducible refine (htot _ (HB.out.trans (D1.out.mono HB.out.size))).mono ?_); rintro e u3 ⟨rfl, hb3⟩; have D2 := Lib.hid (D1.out.trans (hb3.mono D1.out.size)); obtain ⟨q, q', q''⟩ := HK.out _ D2.out; obtain ⟨d0, d1, d2, d3, ff⟩ := row_cells q; obtain ⟨-, e1⟩ := rate_cells q'; obtain ⟨g0, g1, g2, g3, gg⟩ := row_cells q''; have f1 := ff 1; have f2 := ff 2; have j0 := gg 0; have j1 := gg 1; have j2 := gg 2; have j3 := gg 3; clear hb3 q q' q'' ff gg)
        | (go_at_call 50; (with_reducible refine (hsub2 _).mono ?_); rintro e u4 ⟨rfl, rfl⟩))
      all_goals
        clear a0 a1 a2 a3 b1 D0 D1 HK htot hsub hmul hsub2
        go_wp2_with (first
          | (go_at_call 22; (with_reducible refine (htwo1 _).mono ?_); rintro e u5 ⟨rfl, rfl⟩)
          | (go_at_call 22; (with_reducible refine (htwo2 _).mono ?_); rintro e u5 ⟨rfl, rfl⟩))
        have BF := HB.out.trans (D2.out.mono HB.out.size)
        refine bodyPost_ret ?gh rfl ⟨congrArg Ending.returned HV.out.symm, ?gb⟩
        case gh => simp [results, Try.results42, go_sem, g0, g1, g2, g3]
        case gb => repeat' (first
          | with_reducible refine Below.setCell ?_ (by first | omega | (simp; done) | (simp; omega)) _
          | with_reducible exact BF)

set_option maxRecDepth 100000 in
/-- Look. -/
theorem look_any (t : Tb) (p : Option Addr) (c : Nat) (key now R B : Int) (W w : World) (h0 : RowsAt W p t.rows) (hW : Below W.heap.size W w) (hl : t.rows.length ≤ 1000) (ho : ∀ r ∈ t.rows, r.out.length ≤ 1000) :
    Calls Try.prog 15 #[tabVal t p c, .int .i64 key, .int .i64 now, .agg #[.int .i64 R, .int .i64 B]] w (TellsRow W w (look t key now R B) id) := by
  have hfl : (findRow t key).out.length ≤ 1000 := by
    unfold findRow
    split
    · simp
    · rcases spot_cases (fun r => r.key == key) noRow t.rows with ⟨h1, -⟩ | ⟨j, h1, h2, -⟩
      · exact absurd (show place t.rows key < 0 by unfold place; omega) (by assumption)
      · have : (place t.rows key).toNat = j := by unfold place; omega
        rw [this]
        exact ho _ (by simp [List.getD, h2])
  have hmint := fun (u : World) (p' : Option Addr) (c' : Nat) (hu : LeasesAt u p' (findRow t key).out) => minted_any (findRow t key) p' c' now R B u hu hfl
  have hlk : Hid (look t key now R B = minted (findRow t key) now R B) := rfl
  have hlen : Hid ((minted (findRow t key) now R B).out = (findRow t key).out) := rfl
  generalize look t key now R B = L at hlk ⊢
  obtain ⟨k0, k1, k2, hb⟩ := three_new w (.cells #[.int .i64 t.start, .slice p t.rows.length (c + t.rows.length)] 24) (.cells #[.int .i64 R, .int .i64 B] 44) (.cells #[.int .i64 0, .int .i64 0, .int .i64 0, .slice none 0 0] 38)
  have hfind := find_any t p c key W (((w.alloc (.cells #[.int .i64 t.start, .slice p t.rows.length (c + t.rows.length)] 24)).alloc (.cells #[.int .i64 R, .int .i64 B] 44)).alloc (.cells #[.int .i64 0, .int .i64 0, .int .i64 0, .slice none 0 0] 38)) h0 (hW.trans (hb.mono hW.size)) hl
  generalize hF : findRow t key = F at *
  generalize findIs t key = I at *
  generalize hM : minted F now R B = M at *
  obtain ⟨fk, fa, fm, fo⟩ := F
  obtain ⟨mk, ma, mm, mo⟩ := M
  have HMO := Lib.hid (show mo = fo from hlen.out)
  have HLK := Lib.hid hlk.out
  clear hlk hlen hF hM hfl ho
  obtain ⟨start, rows⟩ := t
  simp only [tabVal, rowVal] at *
  generalize hnf : fo.length = nf at *
  generalize rows.length = nr at *
  have HNF := Lib.hid hnf
  clear hnf
  have hfind2 : Calls Try.prog 12 #[.agg #[.int .i64 start, .slice p nr (c + nr)], .int .i64 key] (((w.alloc (.cells #[.int .i64 start, .slice p nr (c + nr)] 24)).alloc (.cells #[.int .i64 R, .int .i64 B] 44)).alloc (.cells #[.int .i64 0, .int .i64 0, .int .i64 0, .slice none 0 0] 38)) fun e w' => ∃ p1 c1, e = .returned (.tuple #[.agg #[.int .i64 fk, .int .i64 fa, .int .i64 fm, .slice p1 nf (c1 + nf)], .bool I]) ∧ LeasesAt W p1 fo ∧
      Below (((w.alloc (.cells #[.int .i64 start, .slice p nr (c + nr)] 24)).alloc (.cells #[.int .i64 R, .int .i64 B] 44)).alloc (.cells #[.int .i64 0, .int .i64 0, .int .i64 0, .slice none 0 0] 38)).heap.size (((w.alloc (.cells #[.int .i64 start, .slice p nr (c + nr)] 24)).alloc (.cells #[.int .i64 R, .int .i64 B] 44)).alloc (.cells #[.int .i64 0, .int .i64 0, .int .i64 0, .slice none 0 0] 38)) w' := by
    refine hfind.mono ?_
    rintro e w' ⟨p1, c1, rfl, h1, h2⟩
    exact ⟨p1, c1, by rw [← HNF.out]; rfl, h1, h2⟩
  clear hfind
  have hk : ∀ u, Below (((w.alloc (.cells #[.int .i64 start, .slice p nr (c + nr)] 24)).alloc (.cells #[.int .i64 R, .int .i64 B] 44)).alloc (.cells #[.int .i64 0, .int .i64 0, .int .i64 0, .slice none 0 0] 38)).heap.size (((w.alloc (.cells #[.int .i64 start, .slice p nr (c + nr)] 24)).alloc (.cells #[.int .i64 R, .int .i64 B] 44)).alloc (.cells #[.int .i64 0, .int .i64 0, .int .i64 0, .slice none 0 0] 38)) u →
      u.heap[w.heap.size + 1]? = some (.cells #[.int .i64 R, .int .i64 B] 44 (0, 0)) ∧ u.heap[w.heap.size + 1 + 1]? = some (.cells #[.int .i64 0, .int .i64 0, .int .i64 0, .slice none 0 0] 38 (0, 0)) :=
    fun u hu => ⟨(hu.block _ (lt_of_heap k1)).trans k1, (hu.block _ (lt_of_heap k2)).trans k2⟩
  have HK := Lib.hid hk
  have HB := Lib.hid hb
  have HW := Lib.hid (hW.trans (hb.mono hW.size))
  clear hk hb k0 k1 k2 h0 hW
  go_enter Try.func15, Try.ntmps15
  go_wp2_with (first
    | (go_at_call 12; (with_reducible refine hfind2.mono ?_); rintro e u1 ⟨p1, c1, rfl, hl1, hb1⟩; have ba := (Below.refl u1.heap.size u1).alloc (Nat.le_refl _) (.cells #[.int .i64 fk, .int .i64 fa, .int .i64 fm, .slice p1 nf (c1 + nf)] 38); have D1 := Lib.hid (hb1.trans (ba.mono hb1.size)); have L0 := Lib.hid hl1; have L1 := Lib.hid (hl1.below (HW.out.trans (D1.out.mono HW.out.size))); obtain ⟨q, q'⟩ := HK.out _ hb1; obtain ⟨a0, a1⟩ := rate_cells q; have lt1 := lt_of_heap q; clear hfind2 hl1 hb1 ba q q')
    | (go_at_call 42; (with_reducible refine (hmint _ _ _ L1.out).mono ?_); rintro e u2 ⟨rfl, hb2⟩; have D2 := Lib.hid (D1.out.trans (hb2.mono D1.out.size)); obtain ⟨-, q'⟩ := HK.out _ D2.out; obtain ⟨g0, g1, g2, g3, gg⟩ := row_cells q'; have j0 := gg 0; have j1 := gg 1; have j2 := gg 2; have j3 := gg 3; clear hmint hb2 q' gg D1 L1))
  have BF := HB.out.trans (D2.out.mono HB.out.size)
  refine bodyPost_ret (v := .agg #[.int .i64 mk, .int .i64 ma, .int .i64 mm, .slice p1 mo.length (c1 + mo.length)]) (by simp [results, Try.results15, go_sem, g0, g1, g2, g3]) rfl ?_
  have B4 := (((BF.setCell (p := ⟨w.heap.size + 1 + 1, 0, none⟩) (by simp; omega) (.int .i64 mk)).setCell (p := ⟨w.heap.size + 1 + 1, 1, none⟩) (by simp; omega) (.int .i64 ma)).setCell (p := ⟨w.heap.size + 1 + 1, 2, none⟩) (by simp; omega) (.int .i64 mm)).setCell (p := ⟨w.heap.size + 1 + 1, 3, none⟩) (by simp; omega) (.slice p1 mo.length (c1 + mo.length))
  exact ⟨p1, c1, by rw [HLK.out]; rfl, by rw [HLK.out]; show LeasesAt W p1 mo; rw [HMO.out]; exact L0.out, B4⟩
end Go.Proofs.Ytcnnepmhdccipaa.Ledger

namespace Go.Proofs.Ytcnnepmhdccipaa.Ledger
open Go.RowKit
open _root_.Go.Proofs.Ytcnnepmhdccipaa.Frame (Rw Tb noRow LeasesAt cell_on)
open _root_.Go.Proofs.Ytcnnepmhdccipaa.Codec (own_below own_lower lt_of_heap frozen_of heap_set below_new)

theorem below_drewN (w : World) (n : Nat) : Below w.heap.size w (w.drewN n) := ⟨rfl, rfl, rfl, Nat.le_refl _, fun _ _ => rfl⟩
theorem push_row {u : World} {ops : Array Oper} {rest : List Oper} {o : Oper} {a : Act} {Q : Exit → Act → World → Prop} (hgd : o.guard = none) (s y : Operand)
    (ho : o.op = .call { callee := .builtin .append, args := #[s, y], argTypes := #[22, 22] })
    (W w0 wr : World) (v : Value) (hs : a.eval s = v) (l : List Rw) (n : Nat) (hn : l.length = n) (hown : OwnR W w0.heap.size wr v l) (hbw : Below w0.heap.size w0 wr) (hu : Below wr.heap.size wr u)
    (g : Nat) (x : Rw) (px : Option Addr) (nx cx : Nat) (hnx : x.out.length = nx) (hy : a.eval y = .slice (some ⟨g, 0, Option.none⟩) 1 1)
    (hg : (u.alloc (.cells #[.int .i64 x.key, .int .i64 x.avail, .int .i64 x.mark, .slice px nx (cx + nx)] 38)).heap[g]? = some (.cells #[.int .i64 x.key, .int .i64 x.avail, .int .i64 x.mark, .slice px nx (cx + nx)] 38 (0, 0))) (hx : LeasesAt W px x.out) (hlen : n ≤ 100000)
    (h : ∀ p c w', Hid (OwnR W w0.heap.size w' (.slice p (n + 1) c) (l ++ [x])) → Below w0.heap.size w0 w' → wpList Try.prog ops Q rest (a.put o.dst (.slice p (n + 1) c)) w') : wpList Try.prog ops Q (o :: rest) a (u.alloc (.cells #[.int .i64 x.key, .int .i64 x.avail, .int .i64 x.mark, .slice px nx (cx + nx)] 38)) := by
  subst hn hnx
  obtain ⟨i0, hi, hz0, hz1, hz2⟩ := info_parts infoR
  obtain ⟨m, hm, hown, hml⟩ := hown
  have hua : Below wr.heap.size wr (u.alloc (.cells #[.int .i64 x.key, .int .i64 x.avail, .int .i64 x.mark, .slice px x.out.length (cx + x.out.length)] 38)) := hu.alloc hu.size _
  refine wpList_append_own _ hgd s y 22 ho w0.heap.size 38 i0 (.agg #[.int .i64 0, .int .i64 0, .int .i64 0, .slice Option.none 0 0]) 4 48 Try.underlying22 hi hz0 hz1 hz2 rfl (by decide) v l.length (cellsR m) hs (own_below hown hua) ⟨g, 0, Option.none⟩ 1 1 [.int .i64 x.key, .int .i64 x.avail, .int .i64 x.mark, .slice px x.out.length (cx + x.out.length)] hy rfl (World.news_of_block hg) ?_ (by unfold maxLen; omega) (by omega) (Nat.le_trans hbw.size hua.size) ?_
  · intro z hz
    simp at hz
    rcases hz with rfl | rfl | rfl | rfl <;> rfl
  · intro v' w' ho2 hg2 _
    have hb2 := (hbw.trans (hua.mono hbw.size)).grown hg2 (Nat.le_trans hbw.size hua.size) (fun k hk => (World.ownsRow.lt hown k hk).1)
    have R := OwnR.app hm hml hx (own_below hown hua) rfl ho2
    obtain ⟨p, c, rfl⟩ : ∃ p c, v' = .slice p (l.length + 1) c := by
      rcases ho2.2 with ⟨_, h0⟩ | ⟨g, cap, cur, rfl, _⟩
      · omega
      · exact ⟨_, cap, rfl⟩
    exact h p c w' R hb2
end Go.Proofs.Ytcnnepmhdccipaa.Ledger

namespace Go.Proofs.Ytcnnepmhdccipaa.Ledger
open Go.RowKit
open _root_.Go.Proofs.Ytcnnepmhdccipaa.Frame (Rw Tb noRow LeasesAt cell_on)
open _root_.Go.Proofs.Ytcnnepmhdccipaa.Codec (own_below own_lower lt_of_heap frozen_of heap_set below_new)
open _root_.Go.Proofs.Ytcnnepmhdccipaa.Sat (fit add sub mul rsub_any rmul_any rtwo_any)

/-- A configuration. -/
structure Cf where
  n : Int
  skew : Int
  ttl : Int
  valid : Int
  loss : Int
  hear : Int
  keys : Int
  queue : Int
  rates : List (Int × Int)
def cfVal (f : Cf) (p : Option Addr) (c : Nat) : Value := .agg #[.int .i64 f.n, .int .i64 f.skew, .int .i64 f.ttl, .int .i64 f.valid, .int .i64 f.loss, .int .i64 f.hear, .int .i64 f.keys, .int .i64 f.queue, .slice p f.rates.length c]
/-- Rates lie like leases: two numbers each. -/
abbrev RatesAt (w : World) (p : Option Addr) (l : List (Int × Int)) : Prop := LeasesAt w p l
/-- Which rate a key has; -1: none. -/
def rateAt (l : List (Int × Int)) (key : Int) : Int := if 0 ≤ key ∧ key < 524288 ∧ key / 65536 < (l.length : Int) then key / 65536 else -1
/-- Is a row idle? -/
def idle (start : Int) (r : Rw) (now : Int) (f : Cf) : Bool :=
  decide (0 ≤ rateAt f.rates r.key) && decide (r.mark ≤ sub now (add [f.skew, f.skew])) && decide (r.out.length = 0) && decide (r.avail = (f.rates.getD (rateAt f.rates r.key).toNat (0, 0)).2) &&
    decide ((f.rates.getD (rateAt f.rates r.key).toNat (0, 0)).2 ≤ mul (f.rates.getD (rateAt f.rates r.key).toNat (0, 0)).1 (sub r.mark start))
theorem rateAt_lt (l : List (Int × Int)) (key : Int) (h : 0 ≤ rateAt l key) : ∃ k : Nat, rateAt l key = (k : Int) ∧ k < l.length := by
  unfold rateAt at h ⊢
  split at h
  · rename_i h2
    rw [if_pos h2]
    exact ⟨(key / 65536).toNat, by omega, by omega⟩
  · omega

theorem keyright_any (k : Int) (w : World) :
    Calls Try.prog 51 #[.int .i64 k] w fun e w' => e = .returned (.bool (decide (0 ≤ k) && decide (k < 524288))) ∧ w = w' := by
  by_cases h : 0 ≤ k
  · go_enter Try.func51, Try.ntmps51
    go_wp2
    go_ret
    exact ⟨congrArg (fun b => Ending.returned (.bool b)) (by rw [Bool.eq_iff_iff]; simp; omega), rfl⟩
  · go_enter Try.func51, Try.ntmps51
    go_wp2
    go_ret
    exact ⟨congrArg (fun b => Ending.returned (.bool b)) (by rw [Bool.eq_iff_iff]; simp; omega), rfl⟩

set_option maxRecDepth 100000 in
set_option maxHeartbeats 1000000 in
theorem rate_any (f : Cf) (p : Option Addr) (c : Nat) (key : Int) (w : World) :
    Calls Try.prog 26 #[cfVal f p c, .int .i64 key] w fun e w' => e = .returned (.int .i64 (rateAt f.rates key)) ∧ Below w.heap.size w w' := by
  obtain ⟨n, sk, tl, va, lo, he, ke, qu, rates⟩ := f
  simp only [cfVal]
  have hR : Hid (∀ x, (0 ≤ key ∧ key < 524288 ∧ key / 65536 < (rates.length : Int)) ∧ x = key / 65536 ∨ ¬ (0 ≤ key ∧ key < 524288 ∧ key / 65536 < (rates.length : Int)) ∧ x = -1 → rateAt rates key = x) := by
    rintro x (⟨h, rfl⟩ | ⟨h, rfl⟩)
    · exact if_pos h
    · exact if_neg h
  generalize rateAt rates key = R at *
  generalize rates.length = m at *
  have hcase : (key < 0) ∨ (0 ≤ key ∧ 524288 ≤ key) ∨ (0 ≤ key ∧ key < 524288 ∧ (m : Int) ≤ key / 65536) ∨ (0 ≤ key ∧ key < 524288 ∧ key / 65536 < (m : Int)) := by omega
  rcases hcase with h1 | ⟨h1, h2⟩ | ⟨h1, h2, h3⟩ | ⟨h1, h2, h3⟩
  case' inl => obtain rfl := hR.out (-1) (.inr ⟨by omega, rfl⟩)
  case' inr.inl => obtain rfl := hR.out (-1) (.inr ⟨by omega, rfl⟩)
  case' inr.inr.inl => obtain rfl := hR.out (-1) (.inr ⟨by omega, rfl⟩)
  case' inr.inr.inr => obtain rfl := hR.out (key / 65536) (.inl ⟨⟨h1, h2, h3⟩, rfl⟩)
  all_goals
    clear hR
    go_enter Try.func26, Try.ntmps26
    go_wp2_with (go_at_call 51; refine (keyright_any _ _).mono ?_; rintro e w' ⟨rfl, rfl⟩)
    go_ret
    exact ⟨rfl, (Below.refl _ _).alloc (Nat.le_refl _) _⟩

/-- The boxes of Idle. -/
theorem tab2x {w : World} {b : Nat} {v1 v2 : Value} (h : w.heap[b]? = some (.cells #[v1, v2] 24 (0, 0))) : w.cell? ⟨b, 0, none⟩ = some v1 := by rw [cell_of_row w b 0 _ _ (0, 0) h]; rfl
theorem nine_cells {w : World} {b : Nat} {v0 v1 v2 v3 v4 v5 v6 v7 v8 : Value} {T : TypeId} (h : w.heap[b]? = some (.cells #[v0, v1, v2, v3, v4, v5, v6, v7, v8] T (0, 0))) :
    w.cell? ⟨b, 0, Option.none⟩ = some v0 ∧ w.cell? ⟨b, 1, Option.none⟩ = some v1 ∧ w.cell? ⟨b, 2, Option.none⟩ = some v2 ∧ w.cell? ⟨b, 3, Option.none⟩ = some v3 ∧ w.cell? ⟨b, 4, Option.none⟩ = some v4 ∧ w.cell? ⟨b, 5, Option.none⟩ = some v5 ∧ w.cell? ⟨b, 6, Option.none⟩ = some v6 ∧ w.cell? ⟨b, 7, Option.none⟩ = some v7 ∧ w.cell? ⟨b, 8, Option.none⟩ = some v8 :=
  ⟨by rw [cell_of_row w b 0 _ _ (0, 0) h]; rfl, by rw [cell_of_row w b 1 _ _ (0, 0) h]; rfl, by rw [cell_of_row w b 2 _ _ (0, 0) h]; rfl, by rw [cell_of_row w b 3 _ _ (0, 0) h]; rfl, by rw [cell_of_row w b 4 _ _ (0, 0) h]; rfl, by rw [cell_of_row w b 5 _ _ (0, 0) h]; rfl, by rw [cell_of_row w b 6 _ _ (0, 0) h]; rfl, by rw [cell_of_row w b 7 _ _ (0, 0) h]; rfl, by rw [cell_of_row w b 8 _ _ (0, 0) h]; rfl⟩

set_option maxRecDepth 100000 in
set_option maxHeartbeats 1000000 in
theorem idle_any (t : Tb) (pt : Option Addr) (ct : Nat) (r : Rw) (pr : Option Addr) (cr : Nat) (now : Int) (f : Cf) (pf : Option Addr) (cf : Nat) (w : World) (hz : RatesAt w pf f.rates) :
    Calls Try.prog 25 #[tabVal t pt ct, rowVal r pr cr, .int .i64 now, cfVal f pf cf] w fun e w' => e = .returned (.bool (idle t.start r now f)) ∧ Below w.heap.size w w' := by
  obtain ⟨start, rows⟩ := t
  obtain ⟨key, avail, mark, out⟩ := r
  have hrate := fun u => rate_any f pf cf key u
  have hR := rateAt_lt f.rates key
  have hcase : (idle start ⟨key, avail, mark, out⟩ now f = false ∧ rateAt f.rates key < 0) ∨
      (0 ≤ rateAt f.rates key ∧ ((idle start ⟨key, avail, mark, out⟩ now f = false ∧ sub now (add [f.skew, f.skew]) < mark) ∨ (idle start ⟨key, avail, mark, out⟩ now f = false ∧ mark ≤ sub now (add [f.skew, f.skew]) ∧ 0 < out.length) ∨
        (idle start ⟨key, avail, mark, out⟩ now f = false ∧ mark ≤ sub now (add [f.skew, f.skew]) ∧ out.length = 0 ∧ ¬ (avail = (f.rates.getD (rateAt f.rates key).toNat (0, 0)).2)) ∨
        (idle start ⟨key, avail, mark, out⟩ now f = decide ((f.rates.getD (rateAt f.rates key).toNat (0, 0)).2 ≤ mul (f.rates.getD (rateAt f.rates key).toNat (0, 0)).1 (sub mark start)) ∧ mark ≤ sub now (add [f.skew, f.skew]) ∧ out.length = 0 ∧ avail = (f.rates.getD (rateAt f.rates key).toNat (0, 0)).2))) := by
    by_cases h1 : 0 ≤ rateAt f.rates key
    · refine .inr ⟨h1, ?_⟩
      by_cases h2 : mark ≤ sub now (add [f.skew, f.skew])
      · refine .inr ?_
        by_cases h3 : out.length = 0
        · refine .inr ?_
          by_cases h4 : avail = (f.rates.getD (rateAt f.rates key).toNat (0, 0)).2
          · exact .inr ⟨by rw [idle, decide_eq_true h1, decide_eq_true h2, decide_eq_true h3, decide_eq_true h4]; rfl, h2, h3, h4⟩
          · exact .inl ⟨by rw [idle, decide_eq_false h4]; simp, h2, h3, h4⟩
        · exact .inl ⟨by rw [idle, decide_eq_false h3]; simp, h2, by omega⟩
      · exact .inl ⟨by rw [idle, decide_eq_false h2]; simp, by omega⟩
    · exact .inl ⟨by rw [idle, decide_eq_false h1]; simp, by omega⟩
  generalize idle start ⟨key, avail, mark, out⟩ now f = D at *
  obtain ⟨n, sk, tl, va, lo, he, ke, qu, rates⟩ := f
  simp only [tabVal, rowVal, cfVal] at *
  have htwo := rtwo_any sk sk
  have hsub := rsub_any now (add [sk, sk])
  have hsub2 := rsub_any mark start
  have hmul := fun x => rmul_any x (sub mark start)
  generalize add [sk, sk] = sk2 at *
  generalize sub now sk2 = safe at *
  generalize sub mark start = gone at *
  generalize rateAt rates key = I at *
  obtain ⟨k0, k1, k2, hb⟩ := three_new w (.cells #[.int .i64 start, .slice pt rows.length (ct + rows.length)] 24) (.cells #[.int .i64 key, .int .i64 avail, .int .i64 mark, .slice pr out.length (cr + out.length)] 38) (.cells #[.int .i64 n, .int .i64 sk, .int .i64 tl, .int .i64 va, .int .i64 lo, .int .i64 he, .int .i64 ke, .int .i64 qu, .slice pf rates.length cf] 27)
  generalize hno : out.length = no at *
  generalize rows.length = nr at *
  go_enter Try.func25, Try.ntmps25
  rcases hcase with ⟨rfl, h1⟩ | ⟨h1, ⟨rfl, h2⟩ | ⟨rfl, h2, h3⟩ | ⟨rfl, h2, rfl, h4⟩ | ⟨hD, h2, rfl, h4⟩⟩
  · clear hR hsub2 hmul
    go_wp2_with (first
      | (go_at_call 26; (with_reducible refine (hrate _).mono ?_); rintro e u1 ⟨rfl, hb1⟩; obtain ⟨-, r1, r2, r3, -⟩ := row_cells ((hb1.block _ (lt_of_heap k1)).trans k1); obtain ⟨-, c1, -, -, -, -, -, -, c8⟩ := nine_cells ((hb1.block _ (lt_of_heap k2)).trans k2); have a0 := (tab2x ((hb1.block _ (lt_of_heap k0)).trans k0)); have BE := Lib.hid (hb.trans (hb1.mono hb.size)); clear hb1 k0 k1 k2 hb hrate)
      | (go_at_call 22; (with_reducible refine (htwo _).mono ?_); rintro e w' ⟨rfl, rfl⟩)
      | (go_at_call 50; (with_reducible refine (hsub _).mono ?_); rintro e w' ⟨rfl, rfl⟩))
    go_quiet (fail)
    go_wp2
    go_ret
    exact ⟨rfl, BE.out.trans ((below_drewN _ _).mono BE.out.size)⟩
  · clear hR hsub2 hmul
    have g1 : decide (I < 0) = false := by simp; omega
    have g2 : decide (safe < mark) = true := by simp; omega
    go_wp2_with (first
      | (go_at_call 26; (with_reducible refine (hrate _).mono ?_); rintro e u1 ⟨rfl, hb1⟩; obtain ⟨-, r1, r2, r3, -⟩ := row_cells ((hb1.block _ (lt_of_heap k1)).trans k1); obtain ⟨-, c1, -, -, -, -, -, -, c8⟩ := nine_cells ((hb1.block _ (lt_of_heap k2)).trans k2); have a0 := (tab2x ((hb1.block _ (lt_of_heap k0)).trans k0)); have BE := Lib.hid (hb.trans (hb1.mono hb.size)); clear hb1 k0 k1 k2 hb hrate)
      | (go_at_call 22; (with_reducible refine (htwo _).mono ?_); rintro e w' ⟨rfl, rfl⟩)
      | (go_at_call 50; (with_reducible refine (hsub _).mono ?_); rintro e w' ⟨rfl, rfl⟩))
    go_quiet (fail)
    go_wp2
    go_ret
    exact ⟨rfl, BE.out.trans ((below_drewN _ _).mono BE.out.size)⟩
  · clear hR hsub2 hmul
    have h3' : (0 : Int) < (no : Int) := by omega
    have g1 : decide (I < 0) = false := by simp; omega
    have g2 : decide (safe < mark) = false := by simp; omega
    have g3 : decide ((0 : Int) < (no : Int)) = true := by simp; omega
    go_wp2_with (first
      | (go_at_call 26; (with_reducible refine (hrate _).mono ?_); rintro e u1 ⟨rfl, hb1⟩; obtain ⟨-, r1, r2, r3, -⟩ := row_cells ((hb1.block _ (lt_of_heap k1)).trans k1); obtain ⟨-, c1, -, -, -, -, -, -, c8⟩ := nine_cells ((hb1.block _ (lt_of_heap k2)).trans k2); have a0 := (tab2x ((hb1.block _ (lt_of_heap k0)).trans k0)); have BE := Lib.hid (hb.trans (hb1.mono hb.size)); clear hb1 k0 k1 k2 hb hrate)
      | (go_at_call 22; (with_reducible refine (htwo _).mono ?_); rintro e w' ⟨rfl, rfl⟩)
      | (go_at_call 50; (with_reducible refine (hsub _).mono ?_); rintro e w' ⟨rfl, rfl⟩))
    go_quiet (fail)
    go_wp2
    go_ret
    exact ⟨rfl, BE.out.trans ((below_drewN _ _).mono BE.out.size)⟩
  · clear hsub2 hmul
    obtain ⟨k, rfl, hk⟩ := hR h1
    simp only [Int.toNat_natCast] at h4
    obtain ⟨b, o, rfl, x0', x1'⟩ := leases_some hz hk
    have hk' : (k : Int) < (rates.length : Int) := by omega
    obtain ⟨z1, z2, hz12⟩ : ∃ z1 z2, rates.getD k (0, 0) = (z1, z2) := ⟨_, _, rfl⟩
    simp only [hz12] at h4 x0' x1'
    clear hz12
    generalize rates.length = m at *
    clear hR hz
    have g1 : decide ((k : Int) < 0) = false := by simp
    have g2 : decide (safe < mark) = false := by simp; omega
    have g4 : (avail != z2) = true := by simp; exact h4
    go_wp2_with (first
      | (go_at_call 26; (with_reducible refine (hrate _).mono ?_); rintro e u1 ⟨rfl, hb1⟩; obtain ⟨-, r1, r2, r3, -⟩ := row_cells ((hb1.block _ (lt_of_heap k1)).trans k1); obtain ⟨-, c1, -, -, -, -, -, -, c8⟩ := nine_cells ((hb1.block _ (lt_of_heap k2)).trans k2); have a0 := (tab2x ((hb1.block _ (lt_of_heap k0)).trans k0)); have BE := Lib.hid (hb.trans (hb1.mono hb.size)); have x0 := cell_on x0' BE.out; have x1 := cell_on x1' BE.out; clear x0' x1' hb1 k0 k1 k2 hb hrate)
      | (go_at_call 22; (with_reducible refine (htwo _).mono ?_); rintro e w' ⟨rfl, rfl⟩)
      | (go_at_call 50; (with_reducible refine (hsub _).mono ?_); rintro e w' ⟨rfl, rfl⟩))
    go_quiet (fail)
    go_wp2
    go_ret
    exact ⟨rfl, BE.out.trans ((below_drewN _ _).mono BE.out.size)⟩
  · obtain ⟨k, rfl, hk⟩ := hR h1
    simp only [Int.toNat_natCast] at h4 hD
    obtain ⟨b, o, rfl, x0', x1'⟩ := leases_some hz hk
    have hk' : (k : Int) < (rates.length : Int) := by omega
    obtain ⟨z1, z2, hz12⟩ : ∃ z1 z2, rates.getD k (0, 0) = (z1, z2) := ⟨_, _, rfl⟩
    simp only [hz12] at h4 hD x0' x1'
    clear hz12
    generalize rates.length = m at *
    clear hR hz
    have hmul2 := hmul z1
    generalize mul z1 gone = got at *
    clear hmul
    subst h4
    have g1 : decide ((k : Int) < 0) = false := by simp
    have g2 : decide (safe < mark) = false := by simp; omega
    have g4 : (avail != avail) = false := by simp
    go_wp2_with (first
      | (go_at_call 26; (with_reducible refine (hrate _).mono ?_); rintro e u1 ⟨rfl, hb1⟩; obtain ⟨-, r1, r2, r3, -⟩ := row_cells ((hb1.block _ (lt_of_heap k1)).trans k1); obtain ⟨-, c1, -, -, -, -, -, -, c8⟩ := nine_cells ((hb1.block _ (lt_of_heap k2)).trans k2); have a0 := (tab2x ((hb1.block _ (lt_of_heap k0)).trans k0)); have BE := Lib.hid (hb.trans (hb1.mono hb.size)); have x0 := cell_on x0' BE.out; have x1 := cell_on x1' BE.out; have HX1 := Lib.hid x0; have HX2 := Lib.hid x1; have H8 := Lib.hid c8; have H2 := Lib.hid r2; have H0 := Lib.hid a0; clear x0' x1' hb1 k0 k1 k2 hb hrate)
      | (go_at_call 22; (with_reducible refine (htwo _).mono ?_); rintro e w' ⟨rfl, rfl⟩)
      | (go_at_call 50; (with_reducible refine (hsub _).mono ?_); rintro e w' ⟨rfl, rfl⟩))
    go_quiet (fail)
    go_wp2
    have CE := fun (u : World) (hu : Below u1.heap.size u1 u) => (⟨cell_on H8.out hu, cell_on HX1.out hu, cell_on HX2.out hu, cell_on H2.out hu, cell_on H0.out hu⟩ : u.cell? ⟨w.heap.size + 1 + 1, 8, none⟩ = some (.slice (some ⟨b, o, none⟩) m cf) ∧ u.cell? ⟨b, o + k * 2, none⟩ = some (.int .i64 z1) ∧ u.cell? ⟨b, o + k * 2 + 1, none⟩ = some (.int .i64 avail) ∧ u.cell? ⟨w.heap.size + 1, 2, none⟩ = some (.int .i64 mark) ∧ u.cell? ⟨w.heap.size, 0, none⟩ = some (.int .i64 start))
    go_region_held3 (fun u => u.cell? ⟨w.heap.size + 1 + 1, 8, none⟩ = some (.slice (some ⟨b, o, none⟩) m cf) ∧ u.cell? ⟨b, o + k * 2, none⟩ = some (.int .i64 z1) ∧ u.cell? ⟨b, o + k * 2 + 1, none⟩ = some (.int .i64 avail) ∧ u.cell? ⟨w.heap.size + 1, 2, none⟩ = some (.int .i64 mark) ∧ u.cell? ⟨w.heap.size, 0, none⟩ = some (.int .i64 start)) (first | assumption | exact CE _ (below_drewN _ _).drew) (first
      | (go_at_call 50; (with_reducible refine (hsub2 _).mono ?_); rintro e w' ⟨rfl, rfl⟩)
      | (go_at_call 23; (with_reducible refine (hmul2 _).mono ?_); rintro e w' ⟨rfl, rfl⟩))
    all_goals
      go_wp2
      go_ret
      exact ⟨congrArg (fun b => Ending.returned (.bool b)) hD.symm, BE.out.trans (((below_drewN _ _).drew).mono BE.out.size)⟩
end Go.Proofs.Ytcnnepmhdccipaa.Ledger

namespace Go.Proofs.Ytcnnepmhdccipaa.Ledger
open Go.RowKit
open _root_.Go.Proofs.Ytcnnepmhdccipaa.Frame (Rw Tb noRow LeasesAt cell_on)
open _root_.Go.Proofs.Ytcnnepmhdccipaa.Codec (own_below own_lower lt_of_heap frozen_of heap_set below_new)
open _root_.Go.Proofs.Ytcnnepmhdccipaa.Sat (fit add sub mul)

/-- What a round of set makes. -/
theorem step_cases (r : Rw) (s : List Rw × Bool) (x : Rw) : (s.2 = true ∧ x.key = r.key ∧ setStep r s x = (s.1, true)) ∨ (s.2 = true ∧ x.key ≠ r.key ∧ setStep r s x = (s.1 ++ [x], true)) ∨
    (s.2 = false ∧ x.key < r.key ∧ setStep r s x = (s.1 ++ [x], false)) ∨ (s.2 = false ∧ x.key = r.key ∧ setStep r s x = (s.1 ++ [r], true)) ∨ (s.2 = false ∧ r.key < x.key ∧ setStep r s x = (s.1 ++ [r] ++ [x], true)) := by
  obtain ⟨a, d⟩ := s
  unfold setStep
  cases d
  · by_cases h1 : x.key < r.key
    · exact .inr (.inr (.inl ⟨rfl, h1, by simp [show ¬ r.key ≤ x.key by omega, show x.key ≠ r.key by omega]⟩))
    · by_cases h2 : x.key = r.key
      · exact .inr (.inr (.inr (.inl ⟨rfl, h2, by simp [h2]⟩)))
      · exact .inr (.inr (.inr (.inr ⟨rfl, by omega, by simp [show r.key ≤ x.key by omega, h2]⟩)))
  · by_cases h2 : x.key = r.key
    · exact .inl ⟨rfl, h2, by simp [h2]⟩
    · exact .inr (.inl ⟨rfl, h2, by simp [h2]⟩)

set_option maxRecDepth 100000 in
set_option maxHeartbeats 4000000 in
theorem set_any (t : Tb) (p : Option Addr) (c : Nat) (r : Rw) (pr : Option Addr) (cr : Nat) (W w : World) (h : RowsAt W p t.rows) (hr : LeasesAt W pr r.out) (hW : Below W.heap.size W w) (hl : t.rows.length ≤ 1000) :
    Calls Try.prog 62 #[tabVal t p c, rowVal r pr cr] w (TellsTab w (setRow t r) id) := by
  obtain ⟨start, rows⟩ := t
  obtain ⟨k0, k1, k2, hb⟩ := three_new w (.cells #[.int .i64 start, .slice p rows.length (c + rows.length)] 24) (.cells #[.int .i64 r.key, .int .i64 r.avail, .int .i64 r.mark, .slice pr r.out.length (cr + r.out.length)] 38) (.cells #[.int .i64 0, .slice none 0 0] 24)
  simp only [tabVal, rowVal] at *
  have HS := Lib.hid (show setRow ⟨start, rows⟩ r = ⟨start, setRows rows r⟩ from rfl)
  have HSR := Lib.hid (show setRows rows r = if (setTo r rows).2 = true then (setTo r rows).1 else (setTo r rows).1 ++ [r] from rfl)
  generalize setRow ⟨start, rows⟩ r = T at HS ⊢
  generalize setRows rows r = SR at HS HSR
  have HW := Lib.hid hW
  have HR := Lib.hid h
  have HRL := Lib.hid hr
  have HB := Lib.hid hb
  have K0 := Lib.hid k0
  have K1 := Lib.hid k1
  have K2 := Lib.hid k2
  clear hW h hr hb k0 k1 k2
  go_enter Try.func62, Try.ntmps62
  go_wp2
  have hsz : (((w.alloc (.cells #[.int .i64 start, .slice p rows.length (c + rows.length)] 24)).alloc (.cells #[.int .i64 r.key, .int .i64 r.avail, .int .i64 r.mark, .slice pr r.out.length (cr + r.out.length)] 38)).alloc (.cells #[.int .i64 0, .slice none 0 0] 24)).heap.size = w.heap.size + 1 + 1 + 1 := by simp
  generalize (((w.alloc (.cells #[.int .i64 start, .slice p rows.length (c + rows.length)] 24)).alloc (.cells #[.int .i64 r.key, .int .i64 r.avail, .int .i64 r.mark, .slice pr r.out.length (cr + r.out.length)] 38)).alloc (.cells #[.int .i64 0, .slice none 0 0] 24)) = w3 at *
  have HZ := Lib.hid hsz
  clear hsz
  go_loopw [5, 6, 7] (fun v d i wr => ∃ j : Nat, j ≤ rows.length ∧ i = .int .i64 (j : Int) ∧ d = .bool (setTo r (rows.take j)).2 ∧ Hid (OwnR W w3.heap.size wr v (setTo r (rows.take j)).1) ∧ Below w3.heap.size w3 wr) (fun _ _ i _ => rows.length - (intOf i).toNat)
  case atStart => exact ⟨0, by omega, rfl, rfl, OwnR.none _ _ _, Below.refl _ _⟩
  case round =>
    obtain ⟨j, hj, rfl, rfl, hown, hbw⟩ := hrel
    obtain ⟨a0, a1, -⟩ := tab_cells (t := ⟨start, rows⟩) ((hbw.block _ (lt_of_heap K0.out)).trans K0.out)
    obtain ⟨b0, b1, b2, b3, -⟩ := row_cells ((hbw.block _ (lt_of_heap K1.out)).trans K1.out)
    by_cases hlt : j < rows.length
    · obtain ⟨b, o, rfl, x0', x1', x2', px, cx, x3', hxl⟩ := rows_some HR.out hlt
      have hWr := HW.out.trans ((HB.out.trans (hbw.mono HB.out.size)).mono HW.out.size)
      have x0 := cell_on x0' hWr
      have x1 := cell_on x1' hWr
      have x2 := cell_on x2' hWr
      have x3 := cell_on x3' hWr
      have hlt' : (j : Int) < (rows.length : Int) := by omega
      have hst := setTo_take r rows j hlt
      have hcs := step_cases r (setTo r (rows.take j)) (rows.getD j noRow)
      rw [← hst] at hcs
      have hlen := setTo_len r (rows.take j)
      have hlen2 : (setTo r (rows.take j)).1.length ≤ 1001 := by
        have : (rows.take j).length ≤ 1000 := by simp; omega
        omega
      generalize setTo r (rows.take j) = S at *
      generalize hSE : setTo r (rows.take (j + 1)) = S' at *
      have HSE := Lib.hid hSE
      clear hSE
      generalize rows.getD j noRow = x at *
      obtain ⟨l, D⟩ := S
      simp only at hlen2
      obtain ⟨pv, cv, rfl⟩ := hown.out.shape
      have HXL := Lib.hid hxl
      have HB3 := Lib.hid (HW.out.trans (HB.out.mono HW.out.size))
      have HXX : Hid (∀ u, Below W.heap.size W u → u.cell? ⟨b, o + j * 4, none⟩ = some (.int .i64 x.key) ∧ u.cell? ⟨b, o + j * 4 + 1, none⟩ = some (.int .i64 x.avail) ∧ u.cell? ⟨b, o + j * 4 + 2, none⟩ = some (.int .i64 x.mark) ∧ u.cell? ⟨b, o + j * 4 + 3, none⟩ = some (.slice px x.out.length (cx + x.out.length))) := fun u hu => ⟨cell_on x0' hu, cell_on x1' hu, cell_on x2' hu, cell_on x3' hu⟩
      clear x0' x1' x2' x3' hst hlen hxl hWr
      simp only at hown
      generalize hln : l.length = nl at *
      have HLN := Lib.hid hln
      clear hln
      have UU := fun n => below_drewN wr n
      have hBr : w3.heap.size ≤ wr.heap.size := hbw.size
      obtain ⟨rk, ra, rm, ro⟩ := r
      obtain ⟨xk, xa, xm, xo⟩ := x
      simp only at *
      generalize hro : ro.length = nro at *
      generalize hxo : xo.length = nxo at *
      have HNR := Lib.hid hro
      have HNX := Lib.hid hxo
      clear hro hxo
      have HWN := Lib.hid hown.out
      have HBW := Lib.hid hbw
      clear hown
      rcases hcs with ⟨rfl, hk, hS⟩ | ⟨rfl, hk, hS⟩ | ⟨rfl, hk, hS⟩ | ⟨rfl, hk, hS⟩ | ⟨rfl, hk, hS⟩
      · have hk2 := hk.symm
        clear hk
        subst hk2
        have SE := Lib.hid (HSE.out.trans hS)
        clear hS HSE
        go_wp2
        go_quiet (fail)
        go_wp2
        go_quiet (fail)
        go_wp2
        go_roundw
        case rel => exact ⟨j + 1, by omega, by go_num, by rw [SE.out], by rw [SE.out]; exact Lib.hid (HWN.out.on (below_drewN _ _)), HBW.out.trans ((below_drewN _ _).mono HBW.out.size)⟩
        case measure => simp [intOf]; omega
      · have SE := Lib.hid (HSE.out.trans hS)
        clear hS HSE
        go_wp2
        go_quiet (fail)
        go_wp2
        go_quiet (fail)
        go_wp2_with (at_builtin; refine push_row rfl (.tmp 41) (.tmp 47) rfl W w3 wr (.slice pv nl cv) rfl l nl HLN.out HWN.out HBW.out (below_drewN wr _) wr.heap.size ⟨xk, xa, xm, xo⟩ px nxo cx HNX.out rfl (heap_alloc_new _ _) HXL.out (by omega) ?_; intro p4 c4 w4 R4 B4; clear a0 a1 b0 b1 b2 b3 x0 x1 x2 x3; obtain ⟨a0, a1, -⟩ := tab_cells (t := ⟨start, rows⟩) ((B4.block _ (lt_of_heap K0.out)).trans K0.out); obtain ⟨b0, b1, b2, b3, -⟩ := row_cells ((B4.block _ (lt_of_heap K1.out)).trans K1.out); obtain ⟨x0, x1, x2, x3⟩ := HXX.out _ (HB3.out.trans (B4.mono HB3.out.size)))
        go_roundw
        case rel => exact ⟨j + 1, by omega, by go_num, by rw [SE.out], by rw [SE.out]; exact R4, B4⟩
        case measure => simp [intOf]; omega
      · have SE := Lib.hid (HSE.out.trans hS)
        clear hS HSE
        go_wp2
        go_quiet (fail)
        go_wp2
        go_quiet (fail)
        go_wp2_with (at_builtin; refine push_row rfl (.tmp 41) (.tmp 47) rfl W w3 wr (.slice pv nl cv) rfl l nl HLN.out HWN.out HBW.out (below_drewN wr _) wr.heap.size ⟨xk, xa, xm, xo⟩ px nxo cx HNX.out rfl (heap_alloc_new _ _) HXL.out (by omega) ?_; intro p4 c4 w4 R4 B4; clear a0 a1 b0 b1 b2 b3 x0 x1 x2 x3; obtain ⟨a0, a1, -⟩ := tab_cells (t := ⟨start, rows⟩) ((B4.block _ (lt_of_heap K0.out)).trans K0.out); obtain ⟨b0, b1, b2, b3, -⟩ := row_cells ((B4.block _ (lt_of_heap K1.out)).trans K1.out); obtain ⟨x0, x1, x2, x3⟩ := HXX.out _ (HB3.out.trans (B4.mono HB3.out.size)))
        go_roundw
        case rel => exact ⟨j + 1, by omega, by go_num, by rw [SE.out], by rw [SE.out]; exact R4, B4⟩
        case measure => simp [intOf]; omega
      · have hk2 := hk.symm
        clear hk
        subst hk2
        have SE := Lib.hid (HSE.out.trans hS)
        clear hS HSE
        go_wp2
        go_quiet (fail)
        go_wp2_with (at_builtin; refine push_row rfl (.tmp 28) (.tmp 30) rfl W w3 wr (.slice pv nl cv) rfl l nl HLN.out HWN.out HBW.out (below_drewN wr _) wr.heap.size ⟨rk, ra, rm, ro⟩ pr nro cr HNR.out rfl (heap_alloc_new _ _) HRL.out (by omega) ?_; intro p4 c4 w4 R4 B4; clear a0 a1 b0 b1 b2 b3 x0 x1 x2 x3; obtain ⟨a0, a1, -⟩ := tab_cells (t := ⟨start, rows⟩) ((B4.block _ (lt_of_heap K0.out)).trans K0.out); obtain ⟨b0, b1, b2, b3, -⟩ := row_cells ((B4.block _ (lt_of_heap K1.out)).trans K1.out); obtain ⟨x0, x1, x2, x3⟩ := HXX.out _ (HB3.out.trans (B4.mono HB3.out.size)))
        go_quiet (fail)
        go_wp2
        go_roundw
        case rel => exact ⟨j + 1, by omega, by go_num, by rw [SE.out], by rw [SE.out]; exact Lib.hid (R4.out.on (below_drewN _ _)), B4.trans ((below_drewN _ _).mono B4.size)⟩
        case measure => simp [intOf]; omega
      · have SE := Lib.hid (HSE.out.trans hS)
        clear hS HSE
        go_wp2
        go_quiet (fail)
        go_wp2_with (at_builtin; refine push_row rfl (.tmp 28) (.tmp 30) rfl W w3 wr (.slice pv nl cv) rfl l nl HLN.out HWN.out HBW.out (below_drewN wr _) wr.heap.size ⟨rk, ra, rm, ro⟩ pr nro cr HNR.out rfl (heap_alloc_new _ _) HRL.out (by omega) ?_; intro p4 c4 w4 R4 B4; clear a0 a1 b0 b1 b2 b3 x0 x1 x2 x3; obtain ⟨a0, a1, -⟩ := tab_cells (t := ⟨start, rows⟩) ((B4.block _ (lt_of_heap K0.out)).trans K0.out); obtain ⟨b0, b1, b2, b3, -⟩ := row_cells ((B4.block _ (lt_of_heap K1.out)).trans K1.out); obtain ⟨x0, x1, x2, x3⟩ := HXX.out _ (HB3.out.trans (B4.mono HB3.out.size)))
        go_quiet (fail)
        go_wp2_with (at_builtin; refine push_row rfl (.tmp 41) (.tmp 47) rfl W w3 w4 (.slice p4 (nl + 1) c4) rfl (l ++ [⟨rk, ra, rm, ro⟩]) (nl + 1) (by rw [List.length_append, HLN.out]; rfl) R4.out B4 (below_drewN w4 _) w4.heap.size ⟨xk, xa, xm, xo⟩ px nxo cx HNX.out rfl (heap_alloc_new _ _) HXL.out (by omega) ?_; intro p5 c5 w5 R5 B5; clear a0 a1 b0 b1 b2 b3 x0 x1 x2 x3; obtain ⟨a0, a1, -⟩ := tab_cells (t := ⟨start, rows⟩) ((B5.block _ (lt_of_heap K0.out)).trans K0.out); obtain ⟨b0, b1, b2, b3, -⟩ := row_cells ((B5.block _ (lt_of_heap K1.out)).trans K1.out); obtain ⟨x0, x1, x2, x3⟩ := HXX.out _ (HB3.out.trans (B5.mono HB3.out.size)))
        go_roundw
        case rel => exact ⟨j + 1, by omega, by go_num, by rw [SE.out], by rw [SE.out]; exact R5, B5⟩
        case measure => simp [intOf]; omega
    · obtain rfl : j = rows.length := by omega
      rw [List.take_length] at hown ⊢
      have hlen := setTo_len r rows
      have hWr := HW.out.trans ((HB.out.trans (hbw.mono HB.out.size)).mono HW.out.size)
      generalize setTo r rows = S at *
      obtain ⟨l, D⟩ := S
      simp only at hown hlen HSR
      obtain ⟨pv, cv, rfl⟩ := hown.out.shape
      have hsz := HZ.out
      have hWw := HW.out.size
      have END : Hid (∀ (u : World) (pu : Option Addr) (cu : Nat) (l2 : List Rw), Below w3.heap.size w3 u → OwnR W w3.heap.size u (.slice pu l2.length cu) l2 → SR = l2 →
          TellsTab w T id (.returned (.agg #[.int .i64 start, .slice pu l2.length cu])) (((u.setCell ⟨w.heap.size, 1, none⟩ (.slice pu l2.length cu)).setCell ⟨w.heap.size + 1 + 1, 0, none⟩ (.int .i64 start)).setCell ⟨w.heap.size + 1 + 1, 1, none⟩ (.slice pu l2.length cu))) := by
        intro u pu cu l2 hb ho hsr
        have hWu := HW.out.trans ((HB.out.trans (hb.mono HB.out.size)).mono HW.out.size)
        have hwu := HB.out.trans (hb.mono HB.out.size)
        have hWu2 := ((hWu.setCell (p := ⟨w.heap.size, 1, none⟩) (by simp; omega) (.slice pu l2.length cu)).setCell (p := ⟨w.heap.size + 1 + 1, 0, none⟩) (by simp; omega) (.int .i64 start)).setCell (p := ⟨w.heap.size + 1 + 1, 1, none⟩) (by simp; omega) (.slice pu l2.length cu)
        have hwu2 := ((hwu.setCell (p := ⟨w.heap.size, 1, none⟩) (by simp) (.slice pu l2.length cu)).setCell (p := ⟨w.heap.size + 1 + 1, 0, none⟩) (by simp; omega) (.int .i64 start)).setCell (p := ⟨w.heap.size + 1 + 1, 1, none⟩) (by simp; omega) (.slice pu l2.length cu)
        have ho2 := ((ho.set (b := w.heap.size) (o := 1) (u := .slice pu l2.length cu) (by omega)).set (b := w.heap.size + 1 + 1) (o := 0) (u := .int .i64 start) (by omega)).set (b := w.heap.size + 1 + 1) (o := 1) (u := .slice pu l2.length cu) (by omega)
        obtain ⟨p', c', hv, hrows⟩ := ho2.rows hWu2
        simp only [Value.slice.injEq, true_and] at hv
        obtain ⟨rfl, rfl⟩ := hv
        rw [HS.out, hsr]
        exact ⟨pu, c', rfl, hrows, hwu2⟩
      have fa := (tab_cells (t := ⟨start, rows⟩) ((hbw.block _ (lt_of_heap K0.out)).trans K0.out)).2.2 1
      obtain ⟨e0, e1, e2⟩ := tab_cells (t := ⟨0, []⟩) (p := none) (c := 0) ((hbw.block _ (lt_of_heap K2.out)).trans K2.out)
      have f0 := e2 0
      have f1 := e2 1
      have HWN := Lib.hid hown.out
      have HBW := Lib.hid hbw
      clear hown e2 hsz hWw
      cases D with
      | true =>
        have EE := Lib.hid (END.out wr pv cv l hbw HWN.out (by rw [HSR.out]; rfl))
        clear END
        generalize l.length = nl at *
        go_wp2
        refine bodyPost_ret (v := .agg #[.int .i64 start, .slice pv nl cv]) (by simp [results, Try.results62, go_sem, e0, e1]) rfl EE.out
      | false =>
        have hsr : SR = l ++ [r] := by rw [HSR.out]; rfl
        have hlr : (l ++ [r]).length = l.length + 1 := by simp
        have EE : Hid (∀ (u : World) (pu : Option Addr) (cu : Nat), Below w3.heap.size w3 u → OwnR W w3.heap.size u (.slice pu (l.length + 1) cu) (l ++ [r]) →
            TellsTab w T id (.returned (.agg #[.int .i64 start, .slice pu (l.length + 1) cu])) (((u.setCell ⟨w.heap.size, 1, none⟩ (.slice pu (l.length + 1) cu)).setCell ⟨w.heap.size + 1 + 1, 0, none⟩ (.int .i64 start)).setCell ⟨w.heap.size + 1 + 1, 1, none⟩ (.slice pu (l.length + 1) cu))) := fun u pu cu h1 h2 => by
          have := END.out u pu cu (l ++ [r]) h1 (by rw [hlr]; exact h2) hsr
          rw [hlr] at this
          exact this
        have hl2 : l.length ≤ 100000 := by
          simp only [rest] at hlen
          omega
        clear END hsr hlr hlen
        generalize hln : l.length = nl at *
        have HLN := Lib.hid hln
        clear hln
        obtain ⟨rk, ra, rm, ro⟩ := r
        simp only at *
        generalize hro : ro.length = nro at *
        have HNR := Lib.hid hro
        clear hro
        go_wp2_with (at_builtin; refine push_row rfl (.tmp 51) (.tmp 53) rfl W w3 wr (.slice pv nl cv) rfl l nl HLN.out HWN.out HBW.out (Below.refl _ _) wr.heap.size ⟨rk, ra, rm, ro⟩ pr nro cr HNR.out rfl (heap_alloc_new _ _) HRL.out hl2 ?_; intro p4 c4 w4 R4 B4; clear a0 a1 b0 b1 b2 b3 e0 e1 f0 f1 fa; obtain ⟨a0, a1, ff⟩ := tab_cells (t := ⟨start, rows⟩) ((B4.block _ (lt_of_heap K0.out)).trans K0.out); obtain ⟨e0, e1, ee⟩ := tab_cells (t := ⟨0, []⟩) (p := none) (c := 0) ((B4.block _ (lt_of_heap K2.out)).trans K2.out); have fa := ff 1; have f0 := ee 0; have f1 := ee 1; have E4 := Lib.hid (EE.out _ _ _ B4 R4.out); clear ff ee EE)
        refine bodyPost_ret (v := .agg #[.int .i64 start, .slice p4 (nl + 1) c4]) (by simp [results, Try.results62, go_sem, e0, e1]) rfl E4.out
end Go.Proofs.Ytcnnepmhdccipaa.Ledger

namespace Go.Proofs.Ytcnnepmhdccipaa.Ledger
open Go.RowKit
open _root_.Go.Proofs.Ytcnnepmhdccipaa.Frame (Rw Tb noRow LeasesAt cell_on)
open _root_.Go.Proofs.Ytcnnepmhdccipaa.Codec (own_below own_lower lt_of_heap frozen_of heap_set below_new)
open _root_.Go.Proofs.Ytcnnepmhdccipaa.Sat (fit add sub mul)

def cellsL (l : List (Int × Int)) : List Value := l.flatMap fun x => [.int .i64 x.1, .int .i64 x.2]
theorem cellsL_at : ∀ (l : List (Int × Int)) (j : Nat), j < l.length → (cellsL l)[j * 2]? = some (.int .i64 (l.getD j (0, 0)).1) ∧ (cellsL l)[j * 2 + 1]? = some (.int .i64 (l.getD j (0, 0)).2)
  | [], j, hj => by simp at hj
  | x :: l, 0, _ => by simp [cellsL]
  | x :: l, j + 1, hj => by
    have := cellsL_at l j (by simpa using hj)
    have e : cellsL (x :: l) = [.int .i64 x.1, .int .i64 x.2] ++ cellsL l := by simp [cellsL]
    rw [e]
    have s : ∀ n, ([Value.int .i64 x.1, .int .i64 x.2] ++ cellsL l)[2 + n]? = (cellsL l)[n]? := fun n => by
      rw [List.getElem?_append_right (by simp)]; simp
    have g : (x :: l).getD (j + 1) (0, 0) = l.getD j (0, 0) := rfl
    rw [g]
    refine ⟨?_, ?_⟩
    · rw [show (j + 1) * 2 = 2 + j * 2 by omega, s]; exact this.1
    · rw [show (j + 1) * 2 + 1 = 2 + (j * 2 + 1) by omega, s]; exact this.2
/-- Leases that a call owns. -/
def OwnL (B : Nat) (w : World) (v : Value) (l : List (Int × Int)) : Prop := w.ownsRow B 78 2 v l.length (cellsL l)
theorem OwnL.leases {B : Nat} {w : World} {v : Value} {l : List (Int × Int)} (h : OwnL B w v l) : ∃ p c, v = .slice p l.length (c + l.length) ∧ LeasesAt w p l := by
  have ho' := h
  rcases h.2 with ⟨rfl, h0⟩ | ⟨g, cap, cur, rfl, h1, h2, h3⟩
  · exact ⟨Option.none, 0, by rw [h0], .inl (List.eq_nil_of_length_eq_zero h0)⟩
  · refine ⟨_, cap - l.length, by rw [Nat.sub_add_cancel h3.1], .inr ⟨g, 0, rfl, fun j hj => ?_⟩⟩
    obtain ⟨c0, c1⟩ := cellsL_at l j hj
    have hc := World.ownsRow.cells (g := g) ho' rfl
    have k0 := hc _ _ c0
    have k1 := hc _ _ c1
    rw [Codec.add_at] at k0 k1
    refine ⟨k0, ?_⟩
    rw [← Nat.add_assoc] at k1; exact k1
theorem OwnL.shape {B : Nat} {w : World} {v : Value} {l : List (Int × Int)} (h : OwnL B w v l) : ∃ p c, v = .slice p l.length c := by
  rcases h.2 with ⟨rfl, h0⟩ | ⟨g, cap, cur, rfl, h1, h2, h3⟩
  · exact ⟨Option.none, 0, by rw [h0]⟩
  · exact ⟨_, cap, rfl⟩
/-- A block below is turned. -/
theorem OwnL.set {B : Nat} {w : World} {v : Value} {l : List (Int × Int)} {b o : Nat} {u : Value} (h : OwnL B w v l) (hb : b < B) : OwnL B (w.setCell ⟨b, o, Option.none⟩ u) v l := by
  refine ⟨h.1, ?_⟩
  rcases h.2 with h0 | ⟨g, cap, cur, rfl, h1, h2, h3⟩
  · exact .inl h0
  · exact .inr ⟨g, cap, cur, rfl, h1, (Below.heap_setCell _ _ _ _ (by simp; omega)).trans h2, h3⟩
theorem OwnL.on {B : Nat} {w w' : World} {v : Value} {l : List (Int × Int)} (h : OwnL B w v l) (hb : Below w.heap.size w w') : OwnL B w' v l := own_below h hb
theorem push_lease {u : World} {ops : Array Oper} {rest : List Oper} {o : Oper} {a : Act} {Q : Exit → Act → World → Prop} (hgd : o.guard = none) (s y : Operand)
    (ho : o.op = .call { callee := .builtin .append, args := #[s, y], argTypes := #[36, 36] })
    (w0 wr : World) (v : Value) (hs : a.eval s = v) (l : List (Int × Int)) (n : Nat) (hn : l.length = n) (hown : OwnL w0.heap.size wr v l) (hbw : Below w0.heap.size w0 wr) (hu : Below wr.heap.size wr u)
    (g : Nat) (x1 x2 : Int) (hy : a.eval y = .slice (some ⟨g, 0, Option.none⟩) 1 1)
    (hg : (u.alloc (.cells #[.int .i64 x1, .int .i64 x2] 78)).heap[g]? = some (.cells #[.int .i64 x1, .int .i64 x2] 78 (0, 0))) (hlen : n ≤ 100000)
    (h : ∀ p c w', Hid (OwnL w0.heap.size w' (.slice p (n + 1) c) (l ++ [(x1, x2)])) → Below w0.heap.size w0 w' → wpList Try.prog ops Q rest (a.put o.dst (.slice p (n + 1) c)) w') : wpList Try.prog ops Q (o :: rest) a (u.alloc (.cells #[.int .i64 x1, .int .i64 x2] 78)) := by
  subst hn
  obtain ⟨i0, hi, hz0, hz1, hz2⟩ := info_parts infoL
  have hua : Below wr.heap.size wr (u.alloc (.cells #[.int .i64 x1, .int .i64 x2] 78)) := hu.alloc hu.size _
  refine wpList_append_own _ hgd s y 36 ho w0.heap.size 78 i0 (.agg #[.int .i64 0, .int .i64 0]) 2 16 Try.underlying36 hi hz0 hz1 hz2 rfl (by decide) v l.length (cellsL l) hs (own_below hown hua) ⟨g, 0, Option.none⟩ 1 1 [.int .i64 x1, .int .i64 x2] hy rfl (World.news_of_block hg) ?_ (by unfold maxLen; omega) (by omega) (Nat.le_trans hbw.size hua.size) ?_
  · intro z hz
    simp at hz
    rcases hz with rfl | rfl <;> rfl
  · intro v' w' ho2 hg2 _
    have hb2 := (hbw.trans (hua.mono hbw.size)).grown hg2 (Nat.le_trans hbw.size hua.size) (fun k hk => (World.ownsRow.lt hown k hk).1)
    have R : OwnL w0.heap.size w' v' (l ++ [(x1, x2)]) := by
      unfold OwnL
      have e : cellsL (l ++ [(x1, x2)]) = cellsL l ++ [.int .i64 x1, .int .i64 x2] := by simp [cellsL]
      rw [e, List.length_append]
      exact ho2
    obtain ⟨p, c, rfl⟩ : ∃ p c, v' = .slice p (l.length + 1) c := by
      rcases ho2.2 with ⟨_, h0⟩ | ⟨g, cap, cur, rfl, _⟩
      · omega
      · exact ⟨_, cap, rfl⟩
    exact h p c w' R hb2

/-! What is settled. -/
def amountOf (t : Tb) (key node : Int) : Int := ((findRow t key).out.getD (outAt (findRow t key).out node).toNat (0, 0)).2
def spentOf (a spent : Int) : Int := if spent < 0 ∨ a < spent then a else spent
def has (t : Tb) (key node : Int) : Bool := findIs t key && decide (0 ≤ outAt (findRow t key).out node)
/-- All but that one. -/
def butAt (l : List (Int × Int)) (i : Nat) : List (Int × Int) := l.eraseIdx i
def settled (r : Rw) (i : Nat) (back : Int) : Rw := ⟨r.key, add [r.avail, back], r.mark, butAt r.out i⟩
def settle (t : Tb) (key node spent : Int) : Tb × Int :=
  if has t key node = true then (setRow t (settled (findRow t key) (outAt (findRow t key).out node).toNat (amountOf t key node - spentOf (amountOf t key node) spent)), spentOf (amountOf t key node) spent) else (t, 0)
theorem butAt_take (l : List (Int × Int)) (i k : Nat) (hk : k < l.length) : (l.take (k + 1)).eraseIdx i = (l.take k).eraseIdx i ++ (if k = i then [] else [l.getD k (0, 0)]) := by
  have e : l.getD k (0, 0) = l[k] := by simp [List.getD, hk]
  rw [e, List.take_succ_eq_append_getElem hk]
  have hl : (l.take k).length = k := by simp; omega
  by_cases h : k = i
  · subst h
    rw [List.eraseIdx_append_of_length_le (by omega), hl, if_pos rfl, Nat.sub_self, List.eraseIdx_of_length_le (l := l.take k) (by omega)]
    simp
  · rw [if_neg h]
    by_cases h2 : i < k
    · rw [List.eraseIdx_append_of_lt_length (by omega)]
    · rw [List.eraseIdx_of_length_le (by simp; omega), List.eraseIdx_of_length_le (by omega)]
end Go.Proofs.Ytcnnepmhdccipaa.Ledger
