/-
  What is asked of the program's ledger (Way9), of tables of which I holds (Inv); the document's acts, and the program's, of any kind (step, want); whether two rows are one (sameRow).
-/
import Derived.Test.YtcnnepmhdccipaaMgF
import Derived.Test.YtcnnepmhdccipaaMgG
import Derived.Test.YtcnnepmhdccipaaMgI
namespace Go.Proofs.Ytcnnepmhdccipaa.Ledger
open Go.RowKit
open _root_.Go.Proofs.Ytcnnepmhdccipaa.Frame (Rw Tb noRow LeasesAt cell_on tableOk Asked sameTable)
open _root_.Go.Proofs.Ytcnnepmhdccipaa.Codec (lt_of_heap frozen_of heap_set)

/-- What holds of tables behind n acts. -/
structure Inv (I : Nat → Tb → Prop) : Prop where
  base : ∀ {n : Nat} {t : Tb}, I n t → Base n t
  first : ∀ {t : Tb}, tableOk t = true → I 0 t
  mint : ∀ {n : Nat} {t : Tb} {key now : Int} (f : Cf), I n t → Num key → Num now → f.keys ≤ 16 → I (n + 1) (mint t key now f).1
  settle : ∀ {n : Nat} {t : Tb} {key : Int} (node spent : Int), I n t → Num key → I (n + 1) (settle t key node spent).1
  grant : ∀ {n : Nat} {t : Tb} {key : Int} (node want : Int), I n t → Num key → I (n + 1) (grant t key node want).1
  sweep : ∀ {n : Nat} {t : Tb} (now : Int) (f : Cf), I n t → I n (sweep t now f)
theorem inv_base : Inv Base := ⟨id, base_first, fun f h hk hn _ => base_mint h hk hn f, fun node spent h hk => base_settle h hk node spent, fun node want h hk => base_grant h hk node want, fun now f h => base_sweep h now f⟩

/-- What tells a row, whose leases lie. -/
def TellsRowIn (w : World) (r : Rw) (mk : Value → Value) (e : Ending) (w' : World) : Prop := ∃ p c, e = .returned (mk (rowVal r p c)) ∧ LeasesAt w' p r.out ∧ Below w.heap.size w w'

/-- Rows whose own block, and whose leases' blocks, S holds of. -/
def LeasesIn (S : Nat → Prop) (w : World) (p : Option Addr) (l : List (Int × Int)) : Prop :=
  l = [] ∨ ∃ b o, p = some ⟨b, o, none⟩ ∧ S b ∧ ∀ j, j < l.length → w.cell? ⟨b, o + j * 2, none⟩ = some (.int .i64 (l.getD j (0, 0)).1) ∧ w.cell? ⟨b, o + j * 2 + 1, none⟩ = some (.int .i64 (l.getD j (0, 0)).2)
def RowIn (S : Nat → Prop) (w : World) (b o : Nat) (r : Rw) : Prop :=
  w.cell? ⟨b, o, none⟩ = some (.int .i64 r.key) ∧ w.cell? ⟨b, o + 1, none⟩ = some (.int .i64 r.avail) ∧ w.cell? ⟨b, o + 2, none⟩ = some (.int .i64 r.mark) ∧ ∃ p c, w.cell? ⟨b, o + 3, none⟩ = some (.slice p r.out.length (c + r.out.length)) ∧ LeasesIn S w p r.out
def RowsIn (S : Nat → Prop) (w : World) (p : Option Addr) (l : List Rw) : Prop :=
  l = [] ∨ ∃ b o, p = some ⟨b, o, none⟩ ∧ S b ∧ ∀ j, j < l.length → RowIn S w b (o + j * 4) (l.getD j noRow)
section
variable {S S' : Nat → Prop} {w w' : World} {p : Option Addr}
theorem LeasesIn.rest {l : List (Int × Int)} (h : LeasesIn S w p l) : LeasesAt w p l := by
  rcases h with h | ⟨b, o, e, -, hc⟩
  · exact .inl h
  · exact .inr ⟨b, o, e, hc⟩
theorem RowsIn.rest {l : List Rw} (h : RowsIn S w p l) : RowsAt w p l := by
  rcases h with h | ⟨b, o, e, -, hc⟩
  · exact .inl h
  · refine .inr ⟨b, o, e, fun j hj => ?_⟩
    obtain ⟨h0, h1, h2, q, c, h3, h4⟩ := hc j hj
    exact ⟨h0, h1, h2, q, c, h3, h4.rest⟩
/-- In a world where the blocks of S are as they were. -/
theorem LeasesIn.on {l : List (Int × Int)} (h : LeasesIn S w p l) (hS : ∀ b, S b → b < w.heap.size → S' b) (hk : ∀ b, S b → b < w.heap.size → w'.heap[b]? = w.heap[b]?) : LeasesIn S' w' p l := by
  rcases h with h | ⟨b, o, e, hb, hc⟩
  · exact .inl h
  · by_cases hl : l = []
    · exact .inl hl
    · have hlt : b < w.heap.size := World.block_lt_of_cell? _ _ (hc 0 (List.length_pos_iff.2 hl)).1
      refine .inr ⟨b, o, e, hS _ hb hlt, fun j hj => ?_⟩
      have he : ∀ i, w'.cell? ⟨b, i, none⟩ = w.cell? ⟨b, i, none⟩ := fun i => World.cell?_of_block (w := w) (hk b hb hlt)
      rw [he, he]
      exact hc j hj
theorem RowsIn.on {l : List Rw} (h : RowsIn S w p l) (hS : ∀ b, S b → b < w.heap.size → S' b) (hk : ∀ b, S b → b < w.heap.size → w'.heap[b]? = w.heap[b]?) : RowsIn S' w' p l := by
  rcases h with h | ⟨b, o, e, hb, hc⟩
  · exact .inl h
  · by_cases hl : l = []
    · exact .inl hl
    · have hlt : b < w.heap.size := World.block_lt_of_cell? _ _ (hc 0 (List.length_pos_iff.2 hl)).1
      refine .inr ⟨b, o, e, hS _ hb hlt, fun j hj => ?_⟩
      obtain ⟨h0, h1, h2, q, c, h3, h4⟩ := hc j hj
      have he : ∀ i, w'.cell? ⟨b, i, none⟩ = w.cell? ⟨b, i, none⟩ := fun i => World.cell?_of_block (w := w) (hk b hb hlt)
      exact ⟨by rw [he]; exact h0, by rw [he]; exact h1, by rw [he]; exact h2, q, c, by rw [he]; exact h3, h4.on hS hk⟩
theorem RowsIn.below {l : List Rw} (h : RowsIn S w p l) (hb : Below w.heap.size w w') : RowsIn S w' p l := h.on (fun _ h _ => h) fun b _ hlt => hb.block b hlt
/-- Where a table's box is turned. -/
theorem leasesin_tab {b o : Nat} {x : Int} {q : Option Addr} {m k : Nat} {y : Value} {l : List (Int × Int)} (hb : w.heap[b]? = some (.cells #[.int .i64 x, .slice q m k] 24 (0, 0))) (h : LeasesIn S w p l) : LeasesIn S (w.setCell ⟨b, o, none⟩ y) p l := by
  rcases h with h | ⟨b', o', e, hs, hc⟩
  · exact .inl h
  · by_cases hl : l = []
    · exact .inl hl
    · have hne : b' ≠ b := by
        rintro rfl
        have h1 := (hc 0 (List.length_pos_iff.2 hl)).2
        rw [cell_of_row w b' _ _ _ (0, 0) hb] at h1
        match o', h1 with
        | 0, h1 => simp at h1
        | n + 1, h1 => simp at h1
      refine .inr ⟨b', o', e, hs, fun j hj => ?_⟩
      have he : ∀ i, (w.setCell ⟨b, o, none⟩ y).cell? ⟨b', i, none⟩ = w.cell? ⟨b', i, none⟩ := fun i => World.cell?_of_block (w := w) (Below.heap_setCell _ _ _ _ (by simpa using hne))
      rw [he, he]
      exact hc j hj
theorem rowsin_tab {b o : Nat} {x : Int} {q : Option Addr} {m k : Nat} {y : Value} {l : List Rw} (hb : w.heap[b]? = some (.cells #[.int .i64 x, .slice q m k] 24 (0, 0))) (h : RowsIn S w p l) : RowsIn S (w.setCell ⟨b, o, none⟩ y) p l := by
  rcases h with h | ⟨b', o', e, hs, hc⟩
  · exact .inl h
  · by_cases hl : l = []
    · exact .inl hl
    · have hne : b' ≠ b := by
        rintro rfl
        have h1 := (hc 0 (List.length_pos_iff.2 hl)).2.2.1
        rw [cell_of_row w b' _ _ _ (0, 0) hb] at h1
        match o', h1 with
        | n, h1 => simp at h1
      refine .inr ⟨b', o', e, hs, fun j hj => ?_⟩
      have he : ∀ i, (w.setCell ⟨b, o, none⟩ y).cell? ⟨b', i, none⟩ = w.cell? ⟨b', i, none⟩ := fun i => World.cell?_of_block (w := w) (Below.heap_setCell _ _ _ _ (by simpa using hne))
      obtain ⟨h0, h1, h2, pl, cl, h3, h4⟩ := hc j hj
      exact ⟨by rw [he]; exact h0, by rw [he]; exact h1, by rw [he]; exact h2, pl, cl, by rw [he]; exact h3, leasesin_tab hb h4⟩
end
/-- What tells a table, whose rows lie where those of the elder one lay, or are new. -/
def TellsTabFar (w : World) (pt : Option Addr) (t T : Tb) (mk : Value → Value) (e : Ending) (w' : World) : Prop := ∃ p c, e = .returned (mk (tabVal T p c)) ∧ (RowsAt w' p T.rows ∧ ∀ S, RowsIn S w pt t.rows → RowsIn (fun b => S b ∨ w.heap.size ≤ b) w' p T.rows) ∧ Below w.heap.size w w'
theorem TellsTabFar.near {w w' : World} {pt : Option Addr} {t T : Tb} {mk : Value → Value} {e : Ending} (h : TellsTabFar w pt t T mk e w') : TellsTab w T mk e w' := by
  obtain ⟨p, c, h1, h2, h3⟩ := h
  exact ⟨p, c, h1, h2.1, h3⟩

/-- Likewise; the leases lie where the table's lay, or are new. -/
def TellsRowFar (W w : World) (r : Rw) (mk : Value → Value) (e : Ending) (w' : World) : Prop := ∃ p c, e = .returned (mk (rowVal r p c)) ∧ LeasesAt w' p r.out ∧ (r.out = [] ∨ ∃ b o, p = some ⟨b, o, none⟩ ∧ (b < W.heap.size ∨ w.heap.size ≤ b)) ∧ Below w.heap.size w w'
theorem TellsRowFar.near {W w w' : World} {r : Rw} {mk : Value → Value} {e : Ending} (h : TellsRowFar W w r mk e w') : TellsRowIn w r mk e w' := by
  obtain ⟨p, c, h1, h2, -, h3⟩ := h
  exact ⟨p, c, h1, h2, h3⟩
/-- What is asked of the program's calls. -/
structure Way9 (I : Nat → Tb → Prop) : Prop where
  find : ∀ {n : Nat} {t : Tb} (p : Option Addr) (c : Nat) (key : Int) (w : World), I n t → n ≤ 61 → Num key → RowsAt w p t.rows → Calls Try.prog 11 #[tabVal t p c, .int .i64 key] w (TellsRowIn w (findRow t key) (fun v => .tuple #[v, .bool (findIs t key)]))
  total : ∀ (r : Rw) (p : Option Addr) (c : Nat) (w : World), RowB 200 r → LeasesAt w p r.out → Calls Try.prog 19 #[rowVal r p c] w fun e w' => e = .returned (.int .i64 (total r)) ∧ Below w.heap.size w w'
  look : ∀ {n : Nat} {t : Tb} (p : Option Addr) (c : Nat) (key now R B : Int) (W w : World), I n t → n ≤ 61 → Num key → Num now → Num R → Num B → RowsAt W p t.rows → Below W.heap.size W w → Calls Try.prog 14 #[tabVal t p c, .int .i64 key, .int .i64 now, .agg #[.int .i64 R, .int .i64 B]] w (TellsRowFar W w (look t key now R B) id)
  mint : ∀ {n : Nat} {t : Tb} (p : Option Addr) (c : Nat) (key now : Int) (f : Cf) (pf : Option Addr) (cf : Nat) (w : World), I n t → n ≤ 61 → Num key → Num now → f.rates.length ≤ 60 → RowsAt w p t.rows → RatesAt w pf f.rates → Calls Try.prog 30 #[tabVal t p c, .int .i64 key, .int .i64 now, cfVal f pf cf] w (TellsTabFar w p t (mint t key now f).1 (fun v => .tuple #[v, .int .i64 (mint t key now f).2]))
  settle : ∀ {n : Nat} {t : Tb} (p : Option Addr) (c : Nat) (key node spent : Int) (w : World), I n t → n ≤ 61 → Num key → Num node → Num spent → RowsAt w p t.rows → Calls Try.prog 32 #[tabVal t p c, .int .i64 key, .int .i64 node, .int .i64 spent] w (TellsTabFar w p t (settle t key node spent).1 (fun v => .tuple #[v, .int .i64 (settle t key node spent).2]))
  grant : ∀ {n : Nat} {t : Tb} (p : Option Addr) (c : Nat) (key node want : Int) (w : World), I n t → n ≤ 61 → Num key → Num node → Num want → RowsAt w p t.rows → Calls Try.prog 31 #[tabVal t p c, .int .i64 key, .int .i64 node, .int .i64 want] w (TellsTabFar w p t (grant t key node want).1 (fun v => .tuple #[v, .int .i64 (grant t key node want).2]))
  held : ∀ {n : Nat} {t : Tb} (p : Option Addr) (c : Nat) (node : Int) (w : World), I n t → n ≤ 61 → Num node → RowsAt w p t.rows → Calls Try.prog 17 #[tabVal t p c, .int .i64 node] w (TellsInts w (held t node))

/-! The document's, of tables of which Base holds. -/
section
variable {n : Nat} {t : Tb}
theorem base_len (h : Base n t) (hn : n ≤ 61) : t.rows.length ≤ 1000 ∧ ∀ r ∈ t.rows, r.out.length ≤ 1000 := ⟨by have := h.len; omega, fun r hr => by have := (h.rows r hr).len; omega⟩
theorem rsettle_base (h : Base n t) (hn : n ≤ 61) (p : Option Addr) (c : Nat) {key : Int} (hk : Num key) (node spent : Int) (w : World) (hr : RowsAt w p t.rows) : Calls Try.prog 34 #[tabVal t p c, .int .i64 key, .int .i64 node, .int .i64 spent] w (TellsTab w (settle t key node spent).1 (fun v => .tuple #[v, .int .i64 (settle t key node spent).2])) := by
  obtain ⟨h1, h2⟩ := base_len h hn
  cases hh : has t key node with
  | false =>
    have e : settle t key node spent = (t, 0) := by unfold settle; rw [if_neg (by simp [hh])]
    rw [e]
    exact settle_no t p c key node spent w hr h1 h2 hh
  | true => exact settle_yes t p c key node spent w hr h1 h2 hh (by have := (amount_in h hk hh).2; omega)
theorem rgrant_base (h : Base n t) (hn : n ≤ 61) (p : Option Addr) (c : Nat) {key : Int} (hk : Num key) (node want : Int) (w : World) (hr : RowsAt w p t.rows) : Calls Try.prog 35 #[tabVal t p c, .int .i64 key, .int .i64 node, .int .i64 want] w (TellsTab w (grant t key node want).1 (fun v => .tuple #[v, .int .i64 (grant t key node want).2])) := by
  obtain ⟨h1, h2⟩ := base_len h hn
  cases hh : mayGrant t key node want with
  | false =>
    have e : grant t key node want = (t, 0) := by unfold grant; rw [if_neg (by simp [hh])]
    rw [e]
    exact grant_no t p c key node want w hr h1 h2 hh
  | true => exact grant_yes t p c key node want w hr h1 h2 hh (by have := (base_find h hk).hi; omega)
end

def acVal (a : Ac) : Value := .agg #[.int .u8 a.kind, .int .i64 a.key, .int .i64 a.now, .int .i64 a.node, .int .i64 a.n]
def AcNum (a : Ac) : Prop := (0 ≤ a.kind ∧ a.kind ≤ 255) ∧ Num a.key ∧ Num a.now ∧ Num a.node ∧ Num a.n

/-- What stays with memory, and where a table's box is turned. -/
structure Stay (X : World → Option Addr → Prop) : Prop where
  on : ∀ {u u' : World} {p : Option Addr}, X u p → Below u.heap.size u u' → X u' p
  tab : ∀ {u : World} {p : Option Addr} {b o : Nat} {x : Int} {q : Option Addr} {m k : Nat} {y : Value}, u.heap[b]? = some (.cells #[.int .i64 x, .slice q m k] 24 (0, 0)) → X u p → X (u.setCell ⟨b, o, none⟩ y) p
theorem stay_rows (l : List Rw) : Stay fun u p => RowsAt u p l := ⟨fun h hb => h.below hb, fun hb h => rows_tab hb h⟩
theorem stay_far (l : List Rw) (N : (Nat → Prop) → Prop) (S' : (Nat → Prop) → Nat → Prop) : Stay fun u p => RowsAt u p l ∧ ∀ S, N S → RowsIn (S' S) u p l := ⟨fun h hb => ⟨h.1.below hb, fun S hS => (h.2 S hS).below hb⟩, fun hb h => ⟨rows_tab hb h.1, fun S hS => rowsin_tab hb (h.2 S hS)⟩⟩
/-- A result's box is set. -/
theorem tells_atX {X : World → Option Addr → Prop} (hX : Stay X) {w u : World} {start : Int} {p' : Option Addr} {c' n : Nat} {x : Int} (b : Nat) (hbw : w.heap.size ≤ b) (hres : u.heap[b]? = some (.cells #[.int .i64 x, .slice none 0 0] 24 (0, 0))) (hr : X u p') (hb : Below w.heap.size w u) (mk : Value → Value) :
    ∃ p c, Ending.returned (mk (.agg #[.int .i64 start, .slice p' n (c' + n)])) = .returned (mk (.agg #[.int .i64 start, .slice p n (c + n)])) ∧ X ((u.setCell ⟨b, 0, none⟩ (.int .i64 start)).setCell ⟨b, 1, none⟩ (.slice p' n (c' + n))) p ∧ Below w.heap.size w ((u.setCell ⟨b, 0, none⟩ (.int .i64 start)).setCell ⟨b, 1, none⟩ (.slice p' n (c' + n))) := by
  have h2 : (u.setCell ⟨b, 0, none⟩ (.int .i64 start)).heap[b]? = some (.cells #[.int .i64 start, .slice none 0 0] 24 (0, 0)) := by rw [heap_set _ 0 _ _ hres]; rfl
  exact ⟨p', c', rfl, hX.tab h2 (hX.tab hres hr), (hb.setCell hbw _).setCell hbw _⟩

set_option maxRecDepth 100000 in
set_option maxHeartbeats 4000000 in
theorem step_core (start key now node n sk tl va lo he ke qu nn : Int) (p pf : Option Addr) (nr c nz cf nt : Nat) (w : World) (kind ts N : Int) (X : World → Option Addr → Prop) (hX : Stay X) (hk : 0 ≤ kind ∧ kind ≤ 255) (hN : -9223372036854775808 ≤ N ∧ N ≤ 9223372036854775807)
    (hm : kind % 5 ≤ 1 → ∀ u, Below w.heap.size w u → Calls Try.prog 30 #[.agg #[.int .i64 start, .slice p nr (c + nr)], .int .i64 key, .int .i64 now, .agg #[.int .i64 n, .int .i64 sk, .int .i64 tl, .int .i64 va, .int .i64 lo, .int .i64 he, .int .i64 ke, .int .i64 qu, .slice pf nz cf]] u fun e u' => ∃ p' c', e = .returned (.tuple #[.agg #[.int .i64 ts, .slice p' nt (c' + nt)], .int .i64 N]) ∧ X u' p' ∧ Below u.heap.size u u')
    (hs : kind % 5 = 2 → ∀ u, Below w.heap.size w u → Calls Try.prog 32 #[.agg #[.int .i64 start, .slice p nr (c + nr)], .int .i64 key, .int .i64 node, .int .i64 nn] u fun e u' => ∃ p' c', e = .returned (.tuple #[.agg #[.int .i64 ts, .slice p' nt (c' + nt)], .int .i64 N]) ∧ X u' p' ∧ Below u.heap.size u u')
    (hg : 2 < kind % 5 → ∀ u, Below w.heap.size w u → Calls Try.prog 31 #[.agg #[.int .i64 start, .slice p nr (c + nr)], .int .i64 key, .int .i64 node, .int .i64 nn] u fun e u' => ∃ p' c', e = .returned (.tuple #[.agg #[.int .i64 ts, .slice p' nt (c' + nt)], .int .i64 N]) ∧ X u' p' ∧ Below u.heap.size u u') :
    Calls Try.prog 8 #[.agg #[.int .i64 start, .slice p nr (c + nr)], .agg #[.int .u8 kind, .int .i64 key, .int .i64 now, .int .i64 node, .int .i64 nn], .agg #[.int .i64 n, .int .i64 sk, .int .i64 tl, .int .i64 va, .int .i64 lo, .int .i64 he, .int .i64 ke, .int .i64 qu, .slice pf nz cf]] w fun e w' => ∃ p' c', e = .returned (.tuple #[.agg #[.int .i64 ts, .slice p' nt (c' + nt)], .int .i64 N]) ∧ X w' p' ∧ Below w.heap.size w w' := by
  have hcase : (kind % 5 = 0 ∨ kind % 5 = 1) ∨ kind % 5 = 2 ∨ (kind % 5 = 3 ∨ kind % 5 = 4) := by omega
  obtain ⟨hk0, hk1⟩ := hk
  obtain ⟨hN0, hN1⟩ := hN
  have M0 := Lib.hid (((((Mem.start w).box #[.int .i64 start, .slice p nr (c + nr)] 24).box #[.int .u8 kind, .int .i64 key, .int .i64 now, .int .i64 node, .int .i64 nn] 32).box #[.int .i64 n, .int .i64 sk, .int .i64 tl, .int .i64 va, .int .i64 lo, .int .i64 he, .int .i64 ke, .int .i64 qu, .slice pf nz cf] 27).box #[.int .i64 0, .slice none 0 0] 24)
  simp only [size_alloc] at M0
  go_enter Try.func8, Try.ntmps8
  rcases hcase with e | e | e
  · have hm := hm (by omega)
    clear hs hg
    rcases e with e | e
    all_goals
      go_wp2_with (first
        | (go_at_call 30; (with_reducible refine (hm _ M0.out.below).mono ?_); rintro e u1 ⟨p', c', rfl, hr1, hb1⟩; have m1 := M0.out.on hb1; have HX := Lib.hid (hX.on hr1 ((Below.refl _ _).alloc (Nat.le_refl _) (.cells #[.int .i64 ts, .slice p' nt (c' + nt)] 24))); have m2 := m1.box #[.int .i64 ts, .slice p' nt (c' + nt)] 24; obtain ⟨x0, x1, -⟩ := box2 (m2.boxes 0 _ _ _ rfl); obtain ⟨d0, d1, ff⟩ := box2 (m2.boxes 1 _ _ _ rfl); have f0 := ff 0; have f1 := ff 1; have M2 := Lib.hid m2; clear hm hr1 hb1 m1 m2 ff M0))
      refine bodyPost_ret (v := .tuple #[.agg #[.int .i64 ts, .slice p' nt (c' + nt)], .int .i64 N]) (by simp [results, Try.results8, go_sem, d0, d1]) rfl ?_
      exact tells_atX hX _ (by omega) (M2.out.boxes 1 _ _ _ rfl) HX.out M2.out.below (fun v => .tuple #[v, .int .i64 N])
  · have hs := hs e
    clear hm hg
    go_wp2_with (first
      | (go_at_call 32; (with_reducible refine (hs _ M0.out.below).mono ?_); rintro e u1 ⟨p', c', rfl, hr1, hb1⟩; have m2 := M0.out.on hb1; have HX := Lib.hid hr1; obtain ⟨d0, d1, ff⟩ := box2 (m2.boxes 0 _ _ _ rfl); have f0 := ff 0; have f1 := ff 1; have M2 := Lib.hid m2; clear hs hr1 hb1 m2 ff M0))
    refine bodyPost_ret (v := .tuple #[.agg #[.int .i64 ts, .slice p' nt (c' + nt)], .int .i64 N]) (by simp [results, Try.results8, go_sem, d0, d1]) rfl ?_
    exact tells_atX hX _ (by omega) (M2.out.boxes 0 _ _ _ rfl) HX.out M2.out.below (fun v => .tuple #[v, .int .i64 N])
  · have hg := hg (by omega)
    clear hm hs
    rcases e with e | e
    all_goals
      go_wp2_with (first
        | (go_at_call 31; (with_reducible refine (hg _ M0.out.below).mono ?_); rintro e u1 ⟨p', c', rfl, hr1, hb1⟩; have m2 := M0.out.on hb1; have HX := Lib.hid hr1; obtain ⟨d0, d1, ff⟩ := box2 (m2.boxes 0 _ _ _ rfl); have f0 := ff 0; have f1 := ff 1; have M2 := Lib.hid m2; clear hg hr1 hb1 m2 ff M0))
      refine bodyPost_ret (v := .tuple #[.agg #[.int .i64 ts, .slice p' nt (c' + nt)], .int .i64 N]) (by simp [results, Try.results8, go_sem, d0, d1]) rfl ?_
      exact tells_atX hX _ (by omega) (M2.out.boxes 0 _ _ _ rfl) HX.out M2.out.below (fun v => .tuple #[v, .int .i64 N])
set_option maxRecDepth 100000 in
set_option maxHeartbeats 4000000 in
theorem want_core (start key now node n sk tl va lo he ke qu nn : Int) (p pf : Option Addr) (nr c nz cf nt : Nat) (w : World) (kind ts N : Int) (X : World → Option Addr → Prop) (hX : Stay X) (hk : 0 ≤ kind ∧ kind ≤ 255) (hN : -9223372036854775808 ≤ N ∧ N ≤ 9223372036854775807)
    (hm : kind % 5 ≤ 1 → ∀ u, Below w.heap.size w u → Calls Try.prog 33 #[.agg #[.int .i64 start, .slice p nr (c + nr)], .int .i64 key, .int .i64 now, .agg #[.int .i64 n, .int .i64 sk, .int .i64 tl, .int .i64 va, .int .i64 lo, .int .i64 he, .int .i64 ke, .int .i64 qu, .slice pf nz cf]] u fun e u' => ∃ p' c', e = .returned (.tuple #[.agg #[.int .i64 ts, .slice p' nt (c' + nt)], .int .i64 N]) ∧ X u' p' ∧ Below u.heap.size u u')
    (hs : kind % 5 = 2 → ∀ u, Below w.heap.size w u → Calls Try.prog 34 #[.agg #[.int .i64 start, .slice p nr (c + nr)], .int .i64 key, .int .i64 node, .int .i64 nn] u fun e u' => ∃ p' c', e = .returned (.tuple #[.agg #[.int .i64 ts, .slice p' nt (c' + nt)], .int .i64 N]) ∧ X u' p' ∧ Below u.heap.size u u')
    (hg : 2 < kind % 5 → ∀ u, Below w.heap.size w u → Calls Try.prog 35 #[.agg #[.int .i64 start, .slice p nr (c + nr)], .int .i64 key, .int .i64 node, .int .i64 nn] u fun e u' => ∃ p' c', e = .returned (.tuple #[.agg #[.int .i64 ts, .slice p' nt (c' + nt)], .int .i64 N]) ∧ X u' p' ∧ Below u.heap.size u u') :
    Calls Try.prog 9 #[.agg #[.int .i64 start, .slice p nr (c + nr)], .agg #[.int .u8 kind, .int .i64 key, .int .i64 now, .int .i64 node, .int .i64 nn], .agg #[.int .i64 n, .int .i64 sk, .int .i64 tl, .int .i64 va, .int .i64 lo, .int .i64 he, .int .i64 ke, .int .i64 qu, .slice pf nz cf]] w fun e w' => ∃ p' c', e = .returned (.tuple #[.agg #[.int .i64 ts, .slice p' nt (c' + nt)], .int .i64 N]) ∧ X w' p' ∧ Below w.heap.size w w' := by
  have hcase : (kind % 5 = 0 ∨ kind % 5 = 1) ∨ kind % 5 = 2 ∨ (kind % 5 = 3 ∨ kind % 5 = 4) := by omega
  obtain ⟨hk0, hk1⟩ := hk
  obtain ⟨hN0, hN1⟩ := hN
  have M0 := Lib.hid (((((Mem.start w).box #[.int .i64 start, .slice p nr (c + nr)] 24).box #[.int .u8 kind, .int .i64 key, .int .i64 now, .int .i64 node, .int .i64 nn] 32).box #[.int .i64 n, .int .i64 sk, .int .i64 tl, .int .i64 va, .int .i64 lo, .int .i64 he, .int .i64 ke, .int .i64 qu, .slice pf nz cf] 27).box #[.int .i64 0, .slice none 0 0] 24)
  simp only [size_alloc] at M0
  go_enter Try.func9, Try.ntmps9
  rcases hcase with e | e | e
  · have hm := hm (by omega)
    clear hs hg
    rcases e with e | e
    all_goals
      go_wp2_with (first
        | (go_at_call 33; (with_reducible refine (hm _ M0.out.below).mono ?_); rintro e u1 ⟨p', c', rfl, hr1, hb1⟩; have m1 := M0.out.on hb1; have HX := Lib.hid (hX.on hr1 ((Below.refl _ _).alloc (Nat.le_refl _) (.cells #[.int .i64 ts, .slice p' nt (c' + nt)] 24))); have m2 := m1.box #[.int .i64 ts, .slice p' nt (c' + nt)] 24; obtain ⟨x0, x1, -⟩ := box2 (m2.boxes 0 _ _ _ rfl); obtain ⟨d0, d1, ff⟩ := box2 (m2.boxes 1 _ _ _ rfl); have f0 := ff 0; have f1 := ff 1; have M2 := Lib.hid m2; clear hm hr1 hb1 m1 m2 ff M0))
      refine bodyPost_ret (v := .tuple #[.agg #[.int .i64 ts, .slice p' nt (c' + nt)], .int .i64 N]) (by simp [results, Try.results9, go_sem, d0, d1]) rfl ?_
      exact tells_atX hX _ (by omega) (M2.out.boxes 1 _ _ _ rfl) HX.out M2.out.below (fun v => .tuple #[v, .int .i64 N])
  · have hs := hs e
    clear hm hg
    go_wp2_with (first
      | (go_at_call 34; (with_reducible refine (hs _ M0.out.below).mono ?_); rintro e u1 ⟨p', c', rfl, hr1, hb1⟩; have m2 := M0.out.on hb1; have HX := Lib.hid hr1; obtain ⟨d0, d1, ff⟩ := box2 (m2.boxes 0 _ _ _ rfl); have f0 := ff 0; have f1 := ff 1; have M2 := Lib.hid m2; clear hs hr1 hb1 m2 ff M0))
    refine bodyPost_ret (v := .tuple #[.agg #[.int .i64 ts, .slice p' nt (c' + nt)], .int .i64 N]) (by simp [results, Try.results9, go_sem, d0, d1]) rfl ?_
    exact tells_atX hX _ (by omega) (M2.out.boxes 0 _ _ _ rfl) HX.out M2.out.below (fun v => .tuple #[v, .int .i64 N])
  · have hg := hg (by omega)
    clear hm hs
    rcases e with e | e
    all_goals
      go_wp2_with (first
        | (go_at_call 35; (with_reducible refine (hg _ M0.out.below).mono ?_); rintro e u1 ⟨p', c', rfl, hr1, hb1⟩; have m2 := M0.out.on hb1; have HX := Lib.hid hr1; obtain ⟨d0, d1, ff⟩ := box2 (m2.boxes 0 _ _ _ rfl); have f0 := ff 0; have f1 := ff 1; have M2 := Lib.hid m2; clear hg hr1 hb1 m2 ff M0))
      refine bodyPost_ret (v := .tuple #[.agg #[.int .i64 ts, .slice p' nt (c' + nt)], .int .i64 N]) (by simp [results, Try.results9, go_sem, d0, d1]) rfl ?_
      exact tells_atX hX _ (by omega) (M2.out.boxes 0 _ _ _ rfl) HX.out M2.out.below (fun v => .tuple #[v, .int .i64 N])
end Go.Proofs.Ytcnnepmhdccipaa.Ledger
