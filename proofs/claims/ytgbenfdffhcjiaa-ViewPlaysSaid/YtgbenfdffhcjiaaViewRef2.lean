/-
  The document's view: Hear and New. Of up to 64 nodes.
-/
import Derived.Test.YtgbenfdffhcjiaaViewRef
namespace Go.Proofs.Ytgbenfdffhcjiaa.View
open Go.RowKit
open _root_.Go.Proofs.Ytgbenfdffhcjiaa.Codec (lt_of_heap frozen_of heap_set below_new)
open _root_.Go.Proofs.Ytgbenfdffhcjiaa.Kit (Enc Lies Own At Kept Laid Off cell_on lt_heap take_snoc below_drewN ints)

section
variable {F : Nat → Prop} {w : World} {B v : Nat} {V : Vw}
theorem one_cases (l : List Int) (i x : Int) (k : Nat) : ((k : Int) ≠ i ∧ one l i x k = l.getD k 0) ∨ ((k : Int) = i ∧ l.getD k 0 < x ∧ one l i x k = x) ∨ ((k : Int) = i ∧ ¬ l.getD k 0 < x ∧ one l i x k = l.getD k 0) := by
  unfold one
  by_cases h1 : (k : Int) = i
  · by_cases h2 : l.getD k 0 < x
    · exact .inr (.inl ⟨h1, h2, by rw [if_pos ⟨h1, h2⟩]⟩)
    · exact .inr (.inr ⟨h1, h2, by rw [if_neg (fun h => h2 h.2)]⟩)
  · exact .inl ⟨h1, by rw [if_neg (fun h => h1 h.1)]⟩
set_option maxRecDepth 100000 in
set_option maxHeartbeats 4000000 in
theorem rhear_any (h : Rv F B w v V) (hB : B ≤ w.heap.size) (hl : V.l.length ≤ 64) (i0 x0 : Int) :
    Calls Try.prog 9 #[.pointer (some ⟨v, 0, none⟩), .int .i64 i0, .int .i64 x0] w fun e w' => e = .returned (.tuple #[]) ∧ RStep F B w v (hear V i0 x0) w' := by
  have HV := Lib.hid h
  have HST := Lib.hid (fun u y (hb : Below w.heap.size w u) (ho : Own ints 3 w.heap.size u y (hearTo V.l i0 x0 V.l.length)) => h.store hB hb ho)
  have HS := Lib.hid (hearTo_succ V.l i0 x0)
  have HN := Lib.hid (hearTo_len V.l i0 x0)
  have H0 := Lib.hid (show hearTo V.l i0 x0 0 = [] from rfl)
  have HO := Lib.hid (one_cases V.l i0 x0)
  unfold hear
  generalize hK : (fun j => hearTo V.l i0 x0 j) = KS
  have hK' : ∀ j, hearTo V.l i0 x0 j = KS j := fun j => by rw [← hK]
  simp only [hK'] at HS HST HN H0 ⊢
  clear h hK hK' hB
  go_enter Try.func9, Try.ntmps9
  go_wp2
  go_loopw [6, 7] (fun y i wr => ∃ (j : Nat) (p : Option Addr) (d : Nat), j ≤ V.l.length ∧ i = .int .i64 (j : Int) ∧ y = .slice p j d ∧ Hid (Own ints 3 w.heap.size wr y (KS j)) ∧ Hid (Below w.heap.size w wr)) (fun _ i _ => V.l.length - (intOf i).toNat)
  case atStart => exact ⟨0, none, 0, by omega, rfl, rfl, by rw [H0.out]; exact Lib.hid (Own.none _ _ _ _), Lib.hid (Below.refl _ _)⟩
  case round =>
    obtain ⟨j, p, d, hj, rfl, rfl, hown, hbw⟩ := hrel
    obtain ⟨pl, cl, k0, k1, k2, f2, kl⟩ := (HV.out.below hbw.out).cell
    have HLI := Lib.hid kl
    clear kl
    by_cases hlt : j < V.l.length
    · have hlt' : (j : Int) < (V.l.length : Int) := by omega
      obtain ⟨b, o, rfl, ka⟩ := ints_at HLI.out hlt
      have hst := HS.out j
      have hcs := HO.out j
      have hlen := HN.out j
      generalize V.l.getD j 0 = a at *
      generalize one V.l i0 x0 j = r at *
      have HSJ := Lib.hid hst
      clear hst HST HS HN H0 HO HLI HV
      rcases hcs with ⟨h1, rfl⟩ | ⟨h1, h2, rfl⟩ | ⟨h1, h2, rfl⟩
      · have g1 : ((j : Int) == i0) = false := by simpa using h1
        clear h1
        go_wp2_with (at_builtin; refine Kit.push laidI rfl _ _ rfl w wr (.slice p j d) rfl (KS j) j hlen hown.out hbw.out (lay _ _) wr.heap.size r rfl (heap_alloc_new _ _) (by omega) ?_; intro p3 c3 w3 R3 B3; have HB3 := Lib.hid B3; clear B3)
        go_roundw
        case rel => exact ⟨j + 1, p3, c3, by omega, by go_num, rfl, by rw [HSJ.out]; exact R3, HB3⟩
        case measure => simp only [intOf]; omega
      · have g1 : ((j : Int) == i0) = true := by simpa using h1
        clear h1
        go_wp2_with (at_builtin; refine Kit.push laidI rfl _ _ rfl w wr (.slice p j d) rfl (KS j) j hlen hown.out hbw.out (lay _ _) wr.heap.size r rfl (heap_alloc_new _ _) (by omega) ?_; intro p3 c3 w3 R3 B3; have HB3 := Lib.hid B3; clear B3)
        go_roundw
        case rel => exact ⟨j + 1, p3, c3, by omega, by go_num, rfl, by rw [HSJ.out]; exact R3, HB3⟩
        case measure => simp only [intOf]; omega
      · have g1 : ((j : Int) == i0) = true := by simpa using h1
        clear h1
        go_wp2_with (at_builtin; refine Kit.push laidI rfl _ _ rfl w wr (.slice p j d) rfl (KS j) j hlen hown.out hbw.out (lay _ _) wr.heap.size r rfl (heap_alloc_new _ _) (by omega) ?_; intro p3 c3 w3 R3 B3; have HB3 := Lib.hid B3; clear B3)
        go_roundw
        case rel => exact ⟨j + 1, p3, c3, by omega, by go_num, rfl, by rw [HSJ.out]; exact R3, HB3⟩
        case measure => simp only [intOf]; omega
    · have hlt' : ¬ (j : Int) < (V.l.length : Int) := by omega
      obtain rfl : j = V.l.length := by omega
      have HF := Lib.hid (HST.out _ _ hbw.out hown.out)
      clear HST HS HN H0 HO HLI HV
      go_wp2
      go_end0
      exact ⟨rfl, HF.out⟩
end
/-- One element, just laid, is appended to a row of its own; what is of no such type stays. -/
theorem push_at {α : Type} {E : Enc α} {T : TypeId} {P : Program} {ST : TypeId} (L : Laid P E T ST) {u : World} {ops : Array Oper} {rest : List Oper} {o : Oper} {a : Act} {Q : Exit → Act → World → Prop} (hgd : o.guard = none) (s y : Operand)
    (ho : o.op = .call { callee := .builtin .append, args := #[s, y], argTypes := #[ST, ST] })
    (C : Nat) (wr : World) (v : Value) (hs : a.eval s = v) (l : List α) (n : Nat) (hn : l.length = n) (hown : Kit.Own E T C wr v l) (hC : C ≤ wr.heap.size) (hu : Below wr.heap.size wr u)
    (g : Nat) (x : α) {tg : TypeId} {fr : Nat × Nat} (hy : a.eval y = .slice (some ⟨g, 0, none⟩) 1 1) (hg : u.heap[g]? = some (.cells (E.cs x).toArray tg fr)) (hlen : n ≤ 100000)
    (h : ∀ p c w', Hid (Kit.Own E T C w' (.slice p (n + 1) c) (l ++ [x])) → Kept [T] u w' → Below C u w' → wpList P ops Q rest (a.put o.dst (.slice p (n + 1) c)) w') : wpList P ops Q (o :: rest) a u := by
  subst hn
  obtain ⟨zv, byt, hi0, hzc, hby⟩ := L.info
  obtain ⟨i0, hi, hz0, hz1, hz2⟩ := info_parts hi0
  have hmul : (l.length + 1) * byt ≤ 100001 * 1000 := Nat.mul_le_mul (by omega) hby
  have hown' := hown.on hu
  refine wpList_append_own _ hgd s y ST ho C T i0 zv E.n byt L.sl hi hz0 hz1 hz2 hzc E.pos v l.length (Kit.cells E l) hs hown' ⟨g, 0, none⟩ 1 1 (E.cs x) hy (by rw [E.len, Nat.one_mul]) (fun j z hz => World.news_of_block hg j z (by simpa using hz)) (E.one x) (by unfold maxLen; omega) (by omega) (Nat.le_trans hC hu.size) ?_
  intro v' w' ho2 hg2 _
  have hb2 : Below C u w' := (Below.refl C u).grown hg2 (Nat.le_trans hC hu.size) (fun k hk => (World.ownsRow.lt hown k hk).1)
  have R : Kit.Own E T C w' v' (l ++ [x]) := by
    unfold Kit.Own
    rw [Kit.cells_snoc, List.length_append]
    exact ho2
  have K : Kept [T] u w' := ⟨hg2.size, fun k ob e hob => by
    refine (hg2.block k (lt_heap e) fun ek => ?_).trans e
    rcases hown'.2 with ⟨rfl, -⟩ | ⟨k', cap, cur, rfl, -, h2, -⟩
    · simp [Value.ownBlock] at ek
    · simp only [Value.ownBlock, Option.some.injEq] at ek
      subst ek
      rw [h2] at e
      exact hob _ _ _ (Option.some.inj e).symm (by simp)⟩
  obtain ⟨p, c, rfl⟩ : ∃ p c, v' = .slice p (l.length + 1) c := by
    rcases ho2.2 with ⟨_, h0⟩ | ⟨g, cap, cur, rfl, _⟩
    · omega
    · exact ⟨_, cap, rfl⟩
  exact h p c w' R K hb2
theorem Rv.lower {F : Nat → Prop} {w : World} {B B' v : Nat} {V : Vw} (h : Rv F B w v V) (hB : B' ≤ B) : Rv F B' w v V := ⟨Nat.le_trans hB h.1, h.2⟩
set_option maxRecDepth 100000 in
set_option maxHeartbeats 4000000 in
theorem rnew_ok (n node span now : Int) (h : okNew n node = true) (w : World) :
    Calls Try.prog 7 #[.int .i64 n, .int .i64 node, .int .i64 span, .int .i64 now] w fun e w' => ∃ v, e = .returned (.tuple #[.pointer (some ⟨v, 0, none⟩), .int .i64 0]) ∧ Rv (fun g => w.heap.size ≤ g ∧ g < w'.heap.size) w.heap.size w' v (start n node span now) ∧ Below w.heap.size w w' := by
  obtain ⟨⟨h1, h2⟩, h3, h4⟩ := okNew_iff.1 h
  obtain ⟨N, rfl⟩ : ∃ N : Nat, n = (N : Int) := ⟨n.toNat, by omega⟩
  have ho : Ring.okRing (N : Int) = true := by simp [Ring.okRing]; omega
  have HR := Lib.hid (fun u => Ring.right_any (N : Int) u)
  rw [ho] at HR
  have hn3 : ¬ node < 0 := by omega
  have hn4 : decide ((N : Int) ≤ node) = false := by simp; omega
  have hn5 : ¬ (N : Int) ≤ node := by omega
  have HB0 := Lib.hid (lay w (.cells #[.int .i64 node, .int .i64 span, .slice none 0 0] 38))
  have HV0 := Lib.hid (heap_alloc_new w (.cells #[.int .i64 node, .int .i64 span, .slice none 0 0] 38))
  have HS := Lib.hid (fun j : Nat => show List.replicate (j + 1) now = List.replicate j now ++ [now] from List.replicate_succ')
  go_enter Try.func7, Try.ntmps7
  go_wp2_with (go_at_call 18; (with_reducible refine (HR.out _).mono ?_); rintro e w' ⟨rfl, rfl⟩)
  rename World => w0
  generalize hW : w0.alloc (.cells #[.int .i64 node, .int .i64 span, .slice none 0 0] 38) = W at *
  go_loopw [12] (fun i wr => ∃ (j : Nat) (p : Option Addr) (d : Nat), j ≤ N ∧ i = .int .i64 (j : Int) ∧ Hid (wr.heap[w0.heap.size]? = some (.cells #[.int .i64 node, .int .i64 span, .slice p j d] 38 (0, 0))) ∧ Hid (Own ints 3 (w0.heap.size + 1) wr (.slice p j d) (List.replicate j now)) ∧ Hid (Below w0.heap.size w0 wr)) (fun i _ => N - (intOf i).toNat)
  case atStart => exact ⟨0, none, 0, by omega, rfl, HV0, Lib.hid (Own.none _ _ _ _), HB0⟩
  case round =>
    obtain ⟨j, p, d, hj, rfl, hv, hown, hbw⟩ := hrel
    by_cases hlt : j < N
    · have hlt' : (j : Int) < (N : Int) := by omega
      have k2 : wr.cell? ⟨w0.heap.size, 2, none⟩ = some (.slice p j d) := by rw [cell_of_row _ _ 2 _ _ (0, 0) hv.out]; rfl
      have f2 : ∀ o, wr.frozen? ⟨w0.heap.size, o, none⟩ = false := fun o => frozen_of hv.out
      have hsz : w0.heap.size + 1 ≤ wr.heap.size := Nat.succ_le_of_lt (lt_of_heap hv.out)
      have HSZ := Lib.hid hsz
      have HSJ := Lib.hid (HS.out j)
      clear HS HR hsz HB0 HV0 hW
      go_wp2_with (at_builtin; refine push_at laidI rfl _ _ rfl (w0.heap.size + 1) wr (.slice p j d) rfl (List.replicate j now) j (by simp) hown.out HSZ.out (lay _ _) wr.heap.size now rfl (heap_alloc_new _ _) (by omega) ?_; intro p3 c3 w6 R6 K6 B6; have kv6 := K6.block _ _ _ _ (((lay wr (.cells #[.int .i64 now] 3)).block _ (lt_of_heap hv.out)).trans hv.out) (by simp); have m2 : w6.cell? ⟨w0.heap.size, 2, none⟩ = some (.slice p j d) := (by rw [cell_of_row _ _ 2 _ _ (0, 0) kv6]; rfl); have f6 : ∀ o, w6.frozen? ⟨w0.heap.size, o, none⟩ = false := (fun o => frozen_of kv6); have KV6 := Lib.hid kv6; have HB6 := Lib.hid ((hbw.out.trans ((lay wr (.cells #[.int .i64 now] 3)).mono hbw.out.size)).trans (B6.mono (Nat.le_succ _))); clear kv6 K6 B6 k2 f2)
      go_roundw
      case rel => exact ⟨j + 1, p3, c3, by omega, by go_num, Lib.hid (heap_set _ 2 _ _ KV6.out), Lib.hid (by rw [HSJ.out]; exact Own.set R6.out (Nat.lt_succ_self _)), Lib.hid (HB6.out.setCell (p := ⟨_, 2, none⟩) (Nat.le_refl _) _)⟩
      case measure => simp only [intOf]; omega
    · have hlt' : ¬ (j : Int) < (N : Int) := by omega
      obtain rfl : j = N := by omega
      have HV := Lib.hid (show Rv (fun g => w0.heap.size ≤ g ∧ g < wr.heap.size) w0.heap.size wr w0.heap.size (start (j : Int) node span now) from by
        obtain ⟨p', c', e, hl⟩ := lyI_own hown.out
        simp only [List.length_replicate, Value.slice.injEq] at e
        obtain ⟨rfl, -, rfl⟩ := e
        exact ⟨Nat.le_refl _, p, d, by rw [start_len]; exact hv.out, hl.sup fun g hg => ⟨by omega, hg.2⟩⟩)
      clear HS HR HB0 HV0 hW hv hown
      go_wp2
      refine bodyPost_ret (v := .tuple #[.pointer (some ⟨w0.heap.size, 0, none⟩), .int .i64 0]) (by simp [results, Try.results7, go_sem]) rfl ⟨_, rfl, HV.out, hbw.out⟩
set_option maxRecDepth 100000 in
theorem rnew_bad (n node span now : Int) (h : okNew n node = false) (w : World) :
    Calls Try.prog 7 #[.int .i64 n, .int .i64 node, .int .i64 span, .int .i64 now] w fun e w' => e = .returned (.tuple #[.pointer none, .int .i64 1]) ∧ Below w.heap.size w w' := by
  have HR := Lib.hid (fun u => Ring.right_any n u)
  unfold okNew at h
  have hc : Ring.okRing n = false ∨ (Ring.okRing n = true ∧ node < 0) ∨ (Ring.okRing n = true ∧ ¬ node < 0 ∧ n ≤ node) := by
    cases ho : Ring.okRing n
    · exact .inl rfl
    · rw [ho] at h
      by_cases h1 : node < 0
      · exact .inr (.inl ⟨rfl, h1⟩)
      · by_cases h2 : n ≤ node
        · exact .inr (.inr ⟨rfl, h1, h2⟩)
        · simp [show 0 ≤ node by omega, show node < n by omega] at h
  clear h
  rcases hc with h1 | ⟨h1, h2⟩ | ⟨h1, h2, h3⟩
  all_goals
    rw [h1] at HR
    go_enter Try.func7, Try.ntmps7
    go_wp2_with (go_at_call 18; (with_reducible refine (HR.out _).mono ?_); rintro e w' ⟨rfl, rfl⟩)
    refine bodyPost_ret (v := .tuple #[.pointer none, .int .i64 1]) (by simp [results, Try.results7, go_sem]) rfl ⟨rfl, Below.refl _ _⟩
end Go.Proofs.Ytgbenfdffhcjiaa.View
