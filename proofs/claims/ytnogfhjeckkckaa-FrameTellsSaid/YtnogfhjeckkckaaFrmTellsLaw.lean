/-
  FrameTells: for all frames: whether any frame, its token, and table, may be, whether any two are the same, and a frame's bytes, are as the document says, or the error; it is decoded from its bytes; a clone is the same; of more than 100 stamps, rows, or leases of a row, the live question alone is asked. No conditions: any frames.
-/
import Derived.Test.YtnogfhjeckkckaaRows
import Derived.Test.YtnogfhjeckkckaaFrmTellsYes
import Derived.Test.YtnogfhjeckkckaaFrmOpen
import Derived.Test.YtnogfhjeckkckaaFrmAlive
import Derived.Test.YtnogfhjeckkckaaFrmFits
import Derived.Test.YtnogfhjeckkckaaFrmClone2
import Derived.Test.YtnogfhjeckkckaaCodecOpen
import Derived.Deep.RegionHeld3
import Derived.Deep.RegionLaw
import Derived.Deep.DeepCutAuto
namespace Go.Proofs.Ytnogfhjeckkckaa.frameTells
open Go.ChangeShapes Go.WideShapes Go.RowKit Codec
open _root_.Go.Proofs.Ytnogfhjeckkckaa.Frame

/-- Bytes, as a text. -/
theorem cel_text {w : World} {p : Option Addr} {c : Nat} {xs : List Int} (h : Cel w p xs) : (convert 40 9 (.slice p xs.length c)).run Try.prog w = .ok (.string (strOfNums xs)) w := by
  have hs := Try.underlying9
  rcases h with h0 | ⟨b, o, rfl, hc⟩
  · subst h0
    have e : strOfNums [] = ByteArray.empty := by simp [strOfNums]; rfl
    rw [e]
    show (convert 40 9 (.slice p 0 c)).run Try.prog w = _
    rw [run_convert_bytes_string w 40 9 5 p 0 c Try.underlying40 Try.underlying5 hs]
    cases p with
    | none => simp [Conv.bytesToString]
    | some a => simp [Conv.bytesToString, loadCells]; rfl
  · exact run_convert_bytes_arg w 40 5 Try.underlying40 Try.underlying5 b o xs.length c xs rfl hc 9 hs

theorem same_refl (f : Fr) : sameFrame f f = true := by
  have hi : ∀ l : List Int, sameInts l l = true := fun l => by
    unfold sameInts
    rw [beq_self_eq_true, Bool.true_and]
    exact allTo_true fun j _ => by simp
  have hr : ∀ r : Rw, sameRow r r = true := fun r => by
    unfold sameRow sameLeases
    simp only [beq_self_eq_true, Bool.true_and]
    exact allTo_true fun j _ => by simp [samePair]
  have ht : ∀ t : Tb, sameTable t t = true := fun t => by
    unfold sameTable
    simp only [beq_self_eq_true, Bool.true_and]
    exact allTo_true fun j _ => hr _
  simp [sameFrame, sameToken, hi, ht]

theorem token_refl (t : Tk) : sameToken t t = true := by
  have := same_refl ⟨0, 0, 0, 0, 0, 0, t⟩
  simpa [sameFrame] using this

theorem fits_means {t : Tk} (h : fitsTk t = true) : t.stamps.length ≤ 100 ∧ t.table.rows.length ≤ 100 ∧ ∀ r ∈ t.table.rows, r.out.length ≤ 100 := by
  unfold fitsTk at h
  rw [Bool.and_eq_true, decide_eq_true_eq, allTo, List.all_eq_true] at h
  obtain ⟨⟨h1, h2⟩, h3⟩ := h
  refine ⟨h1, h2, fun r hr => ?_⟩
  obtain ⟨j, hj, rfl⟩ := List.mem_iff_getElem.1 hr
  have := h3 j (List.mem_range.2 hj)
  simpa [List.getD, hj] using this

theorem hand {kA sA dA gA hA xA tgA thA tsA : Int} {psA pA : Option Addr} {nA csA mA cA : Nat} {kB sB dB gB hB xB tgB thB tsB : Int} {psB pB : Option Addr} {nB csB mB cB : Nat} {w : World} {n : FuncId} {args : Array Value} {b : Bool} (h : ∀ u, Below w.heap.size w u → Calls Try.prog n args u (Asked u b)) : ∀ u, Below w.heap.size w u ∧ u.cell? ⟨w.heap.size, 0, none⟩ = some (.int .i64 kA) ∧ u.cell? ⟨w.heap.size, 1, none⟩ = some (.int .i64 sA) ∧ u.cell? ⟨w.heap.size, 2, none⟩ = some (.int .i64 dA) ∧ u.cell? ⟨w.heap.size, 3, none⟩ = some (.int .i64 gA) ∧ u.cell? ⟨w.heap.size, 4, none⟩ = some (.int .i64 hA) ∧ u.cell? ⟨w.heap.size, 5, none⟩ = some (.int .u64 xA) ∧ u.cell? ⟨w.heap.size, 6, none⟩ = some (.int .i64 tgA) ∧ u.cell? ⟨w.heap.size, 7, none⟩ = some (.int .i64 thA) ∧ u.cell? ⟨w.heap.size, 8, none⟩ = some (.slice psA nA csA) ∧ u.cell? ⟨w.heap.size, 9, none⟩ = some (.int .i64 tsA) ∧ u.cell? ⟨w.heap.size, 10, none⟩ = some (.slice pA mA cA) ∧ u.cell? ⟨w.heap.size + 1, 0, none⟩ = some (.int .i64 kB) ∧ u.cell? ⟨w.heap.size + 1, 1, none⟩ = some (.int .i64 sB) ∧ u.cell? ⟨w.heap.size + 1, 2, none⟩ = some (.int .i64 dB) ∧ u.cell? ⟨w.heap.size + 1, 3, none⟩ = some (.int .i64 gB) ∧ u.cell? ⟨w.heap.size + 1, 4, none⟩ = some (.int .i64 hB) ∧ u.cell? ⟨w.heap.size + 1, 5, none⟩ = some (.int .u64 xB) ∧ u.cell? ⟨w.heap.size + 1, 6, none⟩ = some (.int .i64 tgB) ∧ u.cell? ⟨w.heap.size + 1, 7, none⟩ = some (.int .i64 thB) ∧ u.cell? ⟨w.heap.size + 1, 8, none⟩ = some (.slice psB nB csB) ∧ u.cell? ⟨w.heap.size + 1, 9, none⟩ = some (.int .i64 tsB) ∧ u.cell? ⟨w.heap.size + 1, 10, none⟩ = some (.slice pB mB cB) → Calls Try.prog n args u fun e w' => e = .returned (.bool b) ∧ Below w.heap.size w w' ∧ w'.cell? ⟨w.heap.size, 0, none⟩ = some (.int .i64 kA) ∧ w'.cell? ⟨w.heap.size, 1, none⟩ = some (.int .i64 sA) ∧ w'.cell? ⟨w.heap.size, 2, none⟩ = some (.int .i64 dA) ∧ w'.cell? ⟨w.heap.size, 3, none⟩ = some (.int .i64 gA) ∧ w'.cell? ⟨w.heap.size, 4, none⟩ = some (.int .i64 hA) ∧ w'.cell? ⟨w.heap.size, 5, none⟩ = some (.int .u64 xA) ∧ w'.cell? ⟨w.heap.size, 6, none⟩ = some (.int .i64 tgA) ∧ w'.cell? ⟨w.heap.size, 7, none⟩ = some (.int .i64 thA) ∧ w'.cell? ⟨w.heap.size, 8, none⟩ = some (.slice psA nA csA) ∧ w'.cell? ⟨w.heap.size, 9, none⟩ = some (.int .i64 tsA) ∧ w'.cell? ⟨w.heap.size, 10, none⟩ = some (.slice pA mA cA) ∧ w'.cell? ⟨w.heap.size + 1, 0, none⟩ = some (.int .i64 kB) ∧ w'.cell? ⟨w.heap.size + 1, 1, none⟩ = some (.int .i64 sB) ∧ w'.cell? ⟨w.heap.size + 1, 2, none⟩ = some (.int .i64 dB) ∧ w'.cell? ⟨w.heap.size + 1, 3, none⟩ = some (.int .i64 gB) ∧ w'.cell? ⟨w.heap.size + 1, 4, none⟩ = some (.int .i64 hB) ∧ w'.cell? ⟨w.heap.size + 1, 5, none⟩ = some (.int .u64 xB) ∧ w'.cell? ⟨w.heap.size + 1, 6, none⟩ = some (.int .i64 tgB) ∧ w'.cell? ⟨w.heap.size + 1, 7, none⟩ = some (.int .i64 thB) ∧ w'.cell? ⟨w.heap.size + 1, 8, none⟩ = some (.slice psB nB csB) ∧ w'.cell? ⟨w.heap.size + 1, 9, none⟩ = some (.int .i64 tsB) ∧ w'.cell? ⟨w.heap.size + 1, 10, none⟩ = some (.slice pB mB cB) :=
  fun u hu => (h u hu.1).mono (by
    rintro e w' ⟨rfl, hb⟩
    exact ⟨rfl, keep hu hb⟩)

set_option maxHeartbeats 1000000 in
theorem walk (W : World) (f : Fr) (psA pA : Option Addr) (csA cA : Nat) (hl : Lying W f psA pA) (hn : psA = none → f.token.stamps = []) (hk : (Lit.int .i64 f.kind).wf = true) (hx : (Lit.int .u64 f.bits).wf = true) (g : Fr) (psB pB : Option Addr) (csB cB : Nat) (hl' : Lying W g psB pB) :
    Calls Try.prog 3 #[frameVal f psA pA csA cA, frameVal g psB pB csB cB] W (Asked W true) := by
  obtain ⟨kA, sA, dA, gA, hA, xA, ⟨tgA, thA, stA, ⟨tsA, rowsA⟩⟩⟩ := f
  obtain ⟨kB, sB, dB, gB, hB, xB, ⟨tgB, thB, stB, ⟨tsB, rowsB⟩⟩⟩ := g
  have pFA : ∀ u, Below W.heap.size W u → Calls Try.prog 5 #[.agg #[.int .i64 kA, .int .i64 sA, .int .i64 dA, .int .i64 gA, .int .i64 hA, .int .u64 xA, .int .i64 tgA, .int .i64 thA, .slice psA stA.length csA, .int .i64 tsA, .slice pA rowsA.length cA]] u (Asked u (fitsTk ⟨tgA, thA, stA, ⟨tsA, rowsA⟩⟩)) := fun u hu => fits_any ⟨kA, sA, dA, gA, hA, xA, ⟨tgA, thA, stA, ⟨tsA, rowsA⟩⟩⟩ psA pA csA cA u (hl.on hu)
  have pFB : ∀ u, Below W.heap.size W u → Calls Try.prog 5 #[.agg #[.int .i64 kB, .int .i64 sB, .int .i64 dB, .int .i64 gB, .int .i64 hB, .int .u64 xB, .int .i64 tgB, .int .i64 thB, .slice psB stB.length csB, .int .i64 tsB, .slice pB rowsB.length cB]] u (Asked u (fitsTk ⟨tgB, thB, stB, ⟨tsB, rowsB⟩⟩)) := fun u hu => fits_any ⟨kB, sB, dB, gB, hB, xB, ⟨tgB, thB, stB, ⟨tsB, rowsB⟩⟩⟩ psB pB csB cB u (hl'.on hu)
  have hT : ∀ (u : World) (ps : Option Addr) (cs : Nat) (p : Option Addr) (c : Nat), Below W.heap.size W u → Ints u ps stA → RowsAt u p rowsA → Calls Try.prog 16 #[.agg #[.int .i64 tgA, .int .i64 thA, .slice ps stA.length cs, .int .i64 tsA, .slice p rowsA.length c], .agg #[.int .i64 tgA, .int .i64 thA, .slice psA stA.length csA, .int .i64 tsA, .slice pA rowsA.length cA]] u (Asked u true) := fun u ps cs p c hu h1 h2 => by
    have := sametoken_any ⟨tgA, thA, stA, ⟨tsA, rowsA⟩⟩ ⟨tgA, thA, stA, ⟨tsA, rowsA⟩⟩ ps p psA pA cs c csA cA u hl.few hl.many h1 (hl.stamps.below hu) h2 (hl.rows.below hu) hl.small
    rw [token_refl] at this
    exact this
  obtain ⟨x0, x1⟩ := Row.u64_bounds hx
  by_cases hno : fitsTk ⟨tgA, thA, stA, ⟨tsA, rowsA⟩⟩ = false ∨ fitsTk ⟨tgB, thB, stB, ⟨tsB, rowsB⟩⟩ = false
  · exact few _ _ _ _ _ _ _ _ _ _ _ _ _ _ _ _ _ _ _ _ _ _ _ _ _ _ _ _ _ _ W _ _ hno (hand pFA) (hand pFB)
  · have zA : fitsTk ⟨tgA, thA, stA, ⟨tsA, rowsA⟩⟩ = true := by cases h : fitsTk ⟨tgA, thA, stA, ⟨tsA, rowsA⟩⟩ <;> simp_all
    have zB : fitsTk ⟨tgB, thB, stB, ⟨tsB, rowsB⟩⟩ = true := by cases h : fitsTk ⟨tgB, thB, stB, ⟨tsB, rowsB⟩⟩ <;> simp_all
    have hz := fits_means zA
    rw [zA] at pFA
    rw [zB] at pFB
    cases hR : frameOk ⟨kA, sA, dA, gA, hA, xA, ⟨tgA, thA, stA, ⟨tsA, rowsA⟩⟩⟩ with
    | false =>
      exact core_no _ _ _ _ _ _ _ _ _ _ _ _ _ _ _ _ _ _ _ _ _ _ _ _ _ _ _ _ _ _ W (frameOk ⟨kA, sA, dA, gA, hA, xA, ⟨tgA, thA, stA, ⟨tsA, rowsA⟩⟩⟩) (tokenOk ⟨tgA, thA, stA, ⟨tsA, rowsA⟩⟩) (tableOk ⟨tsA, rowsA⟩) (sameFrame ⟨kA, sA, dA, gA, hA, xA, ⟨tgA, thA, stA, ⟨tsA, rowsA⟩⟩⟩ ⟨kB, sB, dB, gB, hB, xB, ⟨tgB, thB, stB, ⟨tsB, rowsB⟩⟩⟩) (sameToken ⟨tgA, thA, stA, ⟨tsA, rowsA⟩⟩ ⟨tgB, thB, stB, ⟨tsB, rowsB⟩⟩) (sameTable ⟨tsA, rowsA⟩ ⟨tsB, rowsB⟩) (fun u ps p => Ints u ps stA ∧ RowsAt u p rowsA) hR
        (hand fun u hu => pFA u hu)
        (hand fun u hu => pFB u hu)
        (hand fun u hu => right_any ⟨kA, sA, dA, gA, hA, xA, ⟨tgA, thA, stA, ⟨tsA, rowsA⟩⟩⟩ psA pA csA cA u (hl.on hu))
        (hand fun u hu => pright_any ⟨kA, sA, dA, gA, hA, xA, ⟨tgA, thA, stA, ⟨tsA, rowsA⟩⟩⟩ psA pA csA cA u hk (hl.on hu))
        (hand fun u hu => ptoken_any ⟨tgA, thA, stA, ⟨tsA, rowsA⟩⟩ psA pA csA cA u hl.few (hl.stamps.below hu) (hl.rows.below hu) hl.small)
        (hand fun u hu => token_any ⟨tgA, thA, stA, ⟨tsA, rowsA⟩⟩ psA pA csA cA u hl.few (hl.stamps.below hu) (hl.rows.below hu) hl.small)
        (hand fun u hu => ptable_any ⟨tsA, rowsA⟩ pA cA u (hl.rows.below hu) hl.small)
        (hand fun u hu => table_any ⟨tsA, rowsA⟩ pA cA u (hl.rows.below hu) hl.small)
        (hand fun u hu => psame_any ⟨kA, sA, dA, gA, hA, xA, ⟨tgA, thA, stA, ⟨tsA, rowsA⟩⟩⟩ ⟨kB, sB, dB, gB, hB, xB, ⟨tgB, thB, stB, ⟨tsB, rowsB⟩⟩⟩ psA pA psB pB csA cA csB cB u (hl.on hu) (hl'.on hu))
        (hand fun u hu => same_any ⟨kA, sA, dA, gA, hA, xA, ⟨tgA, thA, stA, ⟨tsA, rowsA⟩⟩⟩ ⟨kB, sB, dB, gB, hB, xB, ⟨tgB, thB, stB, ⟨tsB, rowsB⟩⟩⟩ psA pA psB pB csA cA csB cB u (hl.on hu) (hl'.on hu))
        (hand fun u hu => psametoken_any ⟨tgA, thA, stA, ⟨tsA, rowsA⟩⟩ ⟨tgB, thB, stB, ⟨tsB, rowsB⟩⟩ psA pA psB pB csA cA csB cB u hl.few hl.many (hl.stamps.below hu) (hl'.stamps.below hu) (hl.rows.below hu) (hl'.rows.below hu) hl.small)
        (hand fun u hu => sametoken_any ⟨tgA, thA, stA, ⟨tsA, rowsA⟩⟩ ⟨tgB, thB, stB, ⟨tsB, rowsB⟩⟩ psA pA psB pB csA cA csB cB u hl.few hl.many (hl.stamps.below hu) (hl'.stamps.below hu) (hl.rows.below hu) (hl'.rows.below hu) hl.small)
        (hand fun u hu => psametable_any ⟨tsA, rowsA⟩ ⟨tsB, rowsB⟩ pA pB cA cB u hl.many (hl.rows.below hu) (hl'.rows.below hu) hl.small)
        (hand fun u hu => sametable_any ⟨tsA, rowsA⟩ ⟨tsB, rowsB⟩ pA pB cA cB u hl.many (hl.rows.below hu) (hl'.rows.below hu) hl.small)
        (fun u hu => (pclone_any ⟨tgA, thA, stA, ⟨tsA, rowsA⟩⟩ psA pA csA cA u (by have := hz.1; simp only at this; omega) (by have := hz.2.1; simp only at this; omega) (fun r hr => Nat.le_trans (hz.2.2 r hr) (by decide)) (hl.stamps.below hu.1) hn (hl.rows.below hu.1)).mono (by
        rintro e w' ⟨ps, cs, p, c, rfl, h1, h2, hb⟩
        exact ⟨ps, cs, p, c, rfl, ⟨h1, h2⟩, keep hu hb⟩))
        (fun u ps cs p c hc hu => (hT u ps cs p c hu.1 hc.1 hc.2).mono (by
        rintro e w' ⟨rfl, hb⟩
        exact ⟨rfl, keep hu hb⟩))
        (fun u hu => (encode_any ⟨kA, sA, dA, gA, hA, xA, ⟨tgA, thA, stA, ⟨tsA, rowsA⟩⟩⟩ psA pA csA cA u hk (hl.on hu.1)).mono (by
          intro e w' h
          unfold Encoded at h
          rw [if_neg (by rw [hR]; simp)] at h
          exact ⟨h.1, keep hu h.2⟩))
    | true =>
      exact core_yes _ _ _ _ _ _ _ _ _ _ _ _ _ _ _ _ _ _ _ _ _ _ _ _ _ _ _ _ _ _ W (frameOk ⟨kA, sA, dA, gA, hA, xA, ⟨tgA, thA, stA, ⟨tsA, rowsA⟩⟩⟩) (tokenOk ⟨tgA, thA, stA, ⟨tsA, rowsA⟩⟩) (tableOk ⟨tsA, rowsA⟩) (sameFrame ⟨kA, sA, dA, gA, hA, xA, ⟨tgA, thA, stA, ⟨tsA, rowsA⟩⟩⟩ ⟨kB, sB, dB, gB, hB, xB, ⟨tgB, thB, stB, ⟨tsB, rowsB⟩⟩⟩) (sameToken ⟨tgA, thA, stA, ⟨tsA, rowsA⟩⟩ ⟨tgB, thB, stB, ⟨tsB, rowsB⟩⟩) (sameTable ⟨tsA, rowsA⟩ ⟨tsB, rowsB⟩) (frameBytes ⟨kA, sA, dA, gA, hA, xA, ⟨tgA, thA, stA, ⟨tsA, rowsA⟩⟩⟩) (fun u ps p => Ints u ps stA ∧ RowsAt u p rowsA) (fun u ps p => Lying u ⟨kA, sA, dA, gA, hA, xA, ⟨tgA, thA, stA, ⟨tsA, rowsA⟩⟩⟩ ps p) hR (fun _ _ _ _ h hb => h.on hb)
        (hand fun u hu => pFA u hu)
        (hand fun u hu => pFB u hu)
        (hand fun u hu => right_any ⟨kA, sA, dA, gA, hA, xA, ⟨tgA, thA, stA, ⟨tsA, rowsA⟩⟩⟩ psA pA csA cA u (hl.on hu))
        (hand fun u hu => pright_any ⟨kA, sA, dA, gA, hA, xA, ⟨tgA, thA, stA, ⟨tsA, rowsA⟩⟩⟩ psA pA csA cA u hk (hl.on hu))
        (hand fun u hu => ptoken_any ⟨tgA, thA, stA, ⟨tsA, rowsA⟩⟩ psA pA csA cA u hl.few (hl.stamps.below hu) (hl.rows.below hu) hl.small)
        (hand fun u hu => token_any ⟨tgA, thA, stA, ⟨tsA, rowsA⟩⟩ psA pA csA cA u hl.few (hl.stamps.below hu) (hl.rows.below hu) hl.small)
        (hand fun u hu => ptable_any ⟨tsA, rowsA⟩ pA cA u (hl.rows.below hu) hl.small)
        (hand fun u hu => table_any ⟨tsA, rowsA⟩ pA cA u (hl.rows.below hu) hl.small)
        (hand fun u hu => psame_any ⟨kA, sA, dA, gA, hA, xA, ⟨tgA, thA, stA, ⟨tsA, rowsA⟩⟩⟩ ⟨kB, sB, dB, gB, hB, xB, ⟨tgB, thB, stB, ⟨tsB, rowsB⟩⟩⟩ psA pA psB pB csA cA csB cB u (hl.on hu) (hl'.on hu))
        (hand fun u hu => same_any ⟨kA, sA, dA, gA, hA, xA, ⟨tgA, thA, stA, ⟨tsA, rowsA⟩⟩⟩ ⟨kB, sB, dB, gB, hB, xB, ⟨tgB, thB, stB, ⟨tsB, rowsB⟩⟩⟩ psA pA psB pB csA cA csB cB u (hl.on hu) (hl'.on hu))
        (hand fun u hu => psametoken_any ⟨tgA, thA, stA, ⟨tsA, rowsA⟩⟩ ⟨tgB, thB, stB, ⟨tsB, rowsB⟩⟩ psA pA psB pB csA cA csB cB u hl.few hl.many (hl.stamps.below hu) (hl'.stamps.below hu) (hl.rows.below hu) (hl'.rows.below hu) hl.small)
        (hand fun u hu => sametoken_any ⟨tgA, thA, stA, ⟨tsA, rowsA⟩⟩ ⟨tgB, thB, stB, ⟨tsB, rowsB⟩⟩ psA pA psB pB csA cA csB cB u hl.few hl.many (hl.stamps.below hu) (hl'.stamps.below hu) (hl.rows.below hu) (hl'.rows.below hu) hl.small)
        (hand fun u hu => psametable_any ⟨tsA, rowsA⟩ ⟨tsB, rowsB⟩ pA pB cA cB u hl.many (hl.rows.below hu) (hl'.rows.below hu) hl.small)
        (hand fun u hu => sametable_any ⟨tsA, rowsA⟩ ⟨tsB, rowsB⟩ pA pB cA cB u hl.many (hl.rows.below hu) (hl'.rows.below hu) hl.small)
        (fun u hu => (pclone_any ⟨tgA, thA, stA, ⟨tsA, rowsA⟩⟩ psA pA csA cA u (by have := hz.1; simp only at this; omega) (by have := hz.2.1; simp only at this; omega) (fun r hr => Nat.le_trans (hz.2.2 r hr) (by decide)) (hl.stamps.below hu.1) hn (hl.rows.below hu.1)).mono (by
        rintro e w' ⟨ps, cs, p, c, rfl, h1, h2, hb⟩
        exact ⟨ps, cs, p, c, rfl, ⟨h1, h2⟩, keep hu hb⟩))
        (fun u ps cs p c hc hu => (hT u ps cs p c hu.1 hc.1 hc.2).mono (by
        rintro e w' ⟨rfl, hb⟩
        exact ⟨rfl, keep hu hb⟩))
        (fun u hu => (encode_told ⟨kA, sA, dA, gA, hA, xA, ⟨tgA, thA, stA, ⟨tsA, rowsA⟩⟩⟩ psA pA csA cA u hk (hl.on hu.1) hR _ rfl).mono (by
          rintro e w' ⟨p, c, rfl, h1, h2, _, hb⟩
          exact ⟨p, c, rfl, h1, h2, keep hu hb⟩))
        (fun u pe ce hc hne _ => decode_back ⟨kA, sA, dA, gA, hA, xA, ⟨tgA, thA, stA, ⟨tsA, rowsA⟩⟩⟩ pe _ ce u hR x0 x1 hc hne rfl)
        (fun u ps cs p c hd hu => by
          have := same_any ⟨kA, sA, dA, gA, hA, xA, ⟨tgA, thA, stA, ⟨tsA, rowsA⟩⟩⟩ ⟨kA, sA, dA, gA, hA, xA, ⟨tgA, thA, stA, ⟨tsA, rowsA⟩⟩⟩ ps p psA pA cs c csA cA u hd (hl.on hu.1)
          rw [same_refl] at this
          exact this)
        (fun u hu => (bytes_any ⟨kA, sA, dA, gA, hA, xA, ⟨tgA, thA, stA, ⟨tsA, rowsA⟩⟩⟩ psA pA csA cA u (hl.on hu.1) hR).mono (by
          rintro e w' ⟨v, rfl, ho, hb⟩
          obtain ⟨pv, cv, rfl⟩ := own_slice ho
          exact ⟨pv, cv, rfl, own_text Try.underlying40 Try.underlying5 Try.underlying9 ho, hb⟩))
        (fun _ _ _ h => cel_text h)

theorem own : ownKnob Try.prog.godebug = none := by kernel_rfl

set_option maxRecDepth 100000 in
theorem lifted (os : Os) (started : os.Started) (H : Type) (enc : TypeId × Value → H) :
    ReturnsInHanded {} Try.checked os 3 .any (Rows.frameTellsSpec.pre6 enc Try.prog Try.f3 Rows.frameTellsRow.domain false) (Rows.frameTellsSpec.post enc Try.prog Try.f3 false true false false) := by
  refine returnsInHanded_of_change (C := Try.checked) own started (by kernel_rfl) Try.func3
    (ChangeSpec.witness6 (enc := enc) (C := Try.checked) false ⟨#[], #[.agg #[.int .i64 0, .int .i64 0, .int .i64 0, .int .i64 0, .int .i64 0, .int .u64 0, .int .i64 0, .int .i64 0, .slice none 0 0, .int .i64 0, .slice none 0 0], .agg #[.int .i64 0, .int .i64 0, .int .i64 0, .int .i64 0, .int .i64 0, .int .u64 0, .int .i64 0, .int .i64 0, .slice none 0 0, .int .i64 0, .slice none 0 0]], []⟩ 16 (by kernel_rfl) (by kernel_rfl) (by kernel_rfl) (by kernel_rfl)) ?_
  intro W base args ds gs before hval0 hW hcnd _
  have hval : ∀ (j : Nat) t v, Try.f3.params[j]? = some t → args[j]? = some v → Value.okWide Try.prog W .any base t v := hval0
  have hW' := hW
  obtain ⟨p, q, hA0, hV, rfl, hfz, hnd⟩ := hW
  have hA : DataW.TrodAll enc Try.prog W 0 (fun _ => true) true Try.f3.params.toList args.toList ds p := hA0
  rw [Try.params3] at hA hval
  obtain ⟨v0, vs0, d0, ds0, p0, q0, hargs, rfl, rfl, h0, r0⟩ := trodAll_cons hA
  obtain ⟨v1, vs1, d1, ds1, p1, q1, rfl, rfl, rfl, h1, r1⟩ := trodAll_cons r0
  obtain ⟨rfl, rfl, rfl⟩ := trodAll_nil r1
  obtain rfl : args = #[v0, v1] := by cases args; simp_all
  obtain ⟨rfl, rfl⟩ := trodVars_none hV
  obtain ⟨f0, sp0, p0', cs0, c0, rfl, hl0, hn0, hk0, hx0⟩ := open_frame (hval 0 31 v0 rfl rfl) h0
  obtain ⟨f1, sp1, p1', cs1, c1, rfl, hl1, -, -, -⟩ := open_frame (hval 1 31 v1 rfl rfl) h1
  clear hA0 hval0
  refine (walk W f0 sp0 p0' cs0 c0 hl0 hn0 hk0 hx0 f1 sp1 p1' cs1 c1 hl1).mono fun e W' ⟨he, hg⟩ => ?_
  subst he
  exact ⟨_, rfl, Row.law_post hW' rfl rfl rfl rfl (by kernel_rfl) Try.underlying4 (by kernel_rfl) (by kernel_rfl) hg⟩

theorem over : Rows.frameTellsRow.holds Try.pinned (OpenSpec.ofChange Rows.frameTellsSpec) :=
  OpenClaim.holds_of_wide 3 Try.f3 rfl rfl rfl rfl rfl rfl rfl ⟨rfl, rfl, rfl, rfl, rfl⟩ rfl rfl rfl rfl rfl (by kernel_rfl) Try.func3 (by kernel_rfl)
    (of_decide_eq_true (by kernel_rfl)) (by unfold Func.isWrapper; first | (rw [if_pos (by decide +kernel)]; kernel_rfl) | (rw [if_neg (by decide +kernel)]; exact ⟨rfl, rfl⟩))
    (fun os started H enc _ => lifted os started H enc)

/-- The given statement. -/
theorem proved : Rows.FrameTellsSaid :=
  over
#print axioms proved
end Go.Proofs.Ytnogfhjeckkckaa.frameTells
