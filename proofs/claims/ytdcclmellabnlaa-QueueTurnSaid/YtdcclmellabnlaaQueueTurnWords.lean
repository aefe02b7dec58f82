/-
  In turn: words for the program's queue, a box, and two rows, while the first one of a key is taken again and again; a name's place among items.
-/
import Derived.Test.YtdcclmellabnlaaQueuePlaysWay
import Derived.Test.YtdcclmellabnlaaQueueTurnPlain
import Derived.Test.YtdcclmellabnlaaQpProg
namespace Go.Proofs.Ytdcclmellabnlaa.Queue
open Go.RowKit
open _root_.Go.Proofs.Ytdcclmellabnlaa.Ledger (spot spot_at spot_none)
open _root_.Go.Proofs.Ytdcclmellabnlaa.Codec (lt_of_heap frozen_of heap_set below_new own_below)
open _root_.Go.Proofs.Ytdcclmellabnlaa.Kit (Enc Lies Own At Kept Laid Off Two cell_on lt_heap take_snoc below_drewN box5 ints own_keep own_lt cells cells_snoc)

theorem eq5q (a : It) (w : World) : (Op.equalIn 10000 35 (val a) (val a)).run Try.prog w = .ok true w := by
  obtain ⟨a1, a2, a3, a4, a5⟩ := a
  unfold val
  rw [run_equalIn_agg w 9999 _ _ _ (by kernel_rfl) (by kernel_rfl)]
  have e : ∀ (a b : Int) (w : World), (Op.equalIn 9999 3 (.int .i64 a) (.int .i64 b)).run Try.prog w = .ok (a == b) w := fun a b w => run_equalIn_int w 9998 _ _ _ a b Try.underlying3
  simp [Program.fieldsOf, Try.underlying35, Op.eqFields, part, isAgg, run_underlying Try.underlying3, e]
theorem neq5q (a : It) (w : World) : (binOp .neq 35 (val a) (val a)).run Try.prog w = .ok (.bool false) w := by
  have := eq5q a w
  unfold val at this ⊢
  rw [run_neq_struct, this]; rfl
set_option maxRecDepth 100000 in
theorem tplace_any {l : List It} {p : Option Addr} {c : Nat} {w : World} (h : Lies item w p l) (hl : l.length ≤ 1000) (id : Int) :
    Calls Try.prog 23 #[.slice p l.length c, .int .i64 id] w fun e w' => e = .returned (.int .i64 (place l id)) ∧ Below w.heap.size w w' := by
  have HPL := Lib.hid (show place l id = spot (fun x => x.id == id) l from rfl)
  generalize place l id = R at HPL ⊢
  have HR := Lib.hid h
  have HB := Lib.hid (Below.refl w.heap.size w)
  clear h
  go_enter Try.func23, Try.ntmps23
  go_wp2
  go_loop [5] (fun i => ∃ j : Nat, j ≤ l.length ∧ i = .int .i64 (j : Int) ∧ Hid (∀ i, i < j → (l.getD i z).id ≠ id)) (fun i => l.length - (intOf i).toNat)
  case atStart => exact ⟨0, by omega, rfl, fun i hi => by omega⟩
  case round =>
    obtain ⟨j, hj, rfl, hne⟩ := hrel
    by_cases hlt : j < l.length
    · obtain ⟨b, o, rfl, hat⟩ := lies_at HR.out hlt
      obtain ⟨k0, -⟩ := at5 hat
      have hlt' : (j : Int) < (l.length : Int) := by omega
      by_cases hk : (l.getD j z).id = id
      · have HE := Lib.hid (show R = (j : Int) by rw [HPL.out]; exact spot_at _ z l j hlt (fun i hi => by simpa using hne.out i hi) (by simpa using hk))
        rw [hk] at k0
        clear hne HPL HR hk hat
        go_wp2
        go_ret
        exact ⟨by rw [HE.out]; rfl, HB.out⟩
      · have HN : Hid (∀ i, i < j + 1 → (l.getD i z).id ≠ id) := fun i hi => by
          by_cases e : i = j
          · rw [e]; exact hk
          · exact hne.out i (by omega)
        generalize (l.getD j z).id = q at k0 hk
        clear hne HPL HR hat
        go_wp2
        go_round
        case rel => exact ⟨j + 1, by omega, by go_num, HN⟩
        case measure => simp only [intOf]; omega
    · have hlt' : ¬ (j : Int) < (l.length : Int) := by omega
      have HE := Lib.hid (show R = -1 by rw [HPL.out]; exact spot_none _ z l (fun i hi => by simpa using hne.out i (by omega)))
      clear hne HPL HR
      go_wp2
      go_ret
      exact ⟨by rw [HE.out]; rfl, HB.out⟩

/-- The queue stays, where nothing but blocks that are none of its own has turned. -/
theorem pq_free {F : Nat → Prop} {B q : Nat} {w u : World} {room : Int} {l : List It} (h : Pq F B w q room l) (hs : w.heap.size ≤ u.heap.size) (hk : ∀ g, g < w.heap.size → ¬ F g → u.heap[g]? = w.heap[g]?) : Pq (fun g => F g ∨ w.heap.size ≤ g ∧ g < u.heap.size) B u q room l := by
  obtain ⟨y, hy⟩ := h
  refine ⟨y, hy.ge, ?_, (hk q hy.lt hy.nf).trans hy.blk, own_keep hy.own (fun b e => hk b (own_lt hy.own e) (hy.nfy b e)), ?_, ?_⟩
  · rintro (e | e)
    · exact hy.nf e
    · have := hy.lt; omega
  · rintro g e (e2 | e2)
    · exact hy.nfy g e e2
    · have := own_lt hy.own e; omega
  · rintro g (e | e)
    · exact Nat.lt_of_lt_of_le (hy.fl g e) hs
    · exact e.2
theorem pq_sub {F G : Nat → Prop} {B q : Nat} {w : World} {room : Int} {l : List It} (h : Pq F B w q room l) (hg : ∀ g, G g → F g) : Pq G B w q room l := by
  obtain ⟨y, hy⟩ := h
  exact ⟨y, hy.sub hg⟩
/-- While the first one is taken: the queue (R), the box xb (x), the rows (T, G). -/
structure Tst (B : Nat) (q : Nat) (room : Int) (R : List It) (xb : Nat) (x : It) (wv gv : Value) (T G : List It) (u : World) : Prop where
  pq : Pq (fun g => g = xb ∨ wv.ownBlock = some g ∨ gv.ownBlock = some g) B u q room R
  two : Two item 35 B u gv wv G T
  box : u.heap[xb]? = some (.cells #[.int .i64 x.id, .int .i64 x.key, .int .i64 x.cost, .int .i64 x.cls, .int .i64 x.til] 35 (0, 0))
  xg : gv.ownBlock ≠ some xb
  xw : wv.ownBlock ≠ some xb
  ge : B ≤ xb
section
variable {B q xb : Nat} {room : Int} {R R' T G : List It} {x x' : It} {wv gv : Value} {u u' : World}
theorem Tst.lt (h : Tst B q room R xb x wv gv T G u) : B ≤ u.heap.size := by have := lt_heap h.box; have := h.ge; omega
theorem Tst.on (h : Tst B q room R xb x wv gv T G u) (hb : Below u.heap.size u u') : Tst B q room R xb x wv gv T G u' :=
  ⟨way12.below h.pq hb, h.two.on hb, (hb.block _ (lt_heap h.box)).trans h.box, h.xg, h.xw, h.ge⟩
theorem Tst.take (h : Tst B q room R xb x wv gv T G u) (hm : Moved Pq (fun g => g = xb ∨ wv.ownBlock = some g ∨ gv.ownBlock = some g) B u q room R' u') : Tst B q room R' xb x wv gv T G u' :=
  ⟨hm.pw, ⟨own_keep h.two.o1 (fun b e => hm.rest b (.inr (.inr e)) (own_lt h.two.o1 e)), own_keep h.two.o2 (fun b e => hm.rest b (.inr (.inl e)) (own_lt h.two.o2 e)), h.two.ap⟩,
    (hm.rest xb (.inl rfl) (lt_heap h.box)).trans h.box, h.xg, h.xw, h.ge⟩
theorem Tst.set (h : Tst B q room R xb x wv gv T G u) (x' : It) : Tst B q room R xb x' wv gv T G (set5 u xb x') := by
  have hs : u.heap.size ≤ (set5 u xb x').heap.size := (set5_below (B := 0) (w0 := u) (b := xb) (Below.refl 0 u) (Nat.zero_le _) x').size
  refine ⟨pq_sub (pq_free h.pq hs (fun g _ hf => set5_off x' (fun e => hf (.inl e)))) (fun g e => .inl e), ⟨own_keep h.two.o1 (fun b e => set5_off x' (fun e2 => h.xg (e2 ▸ e))), own_keep h.two.o2 (fun b e => set5_off x' (fun e2 => h.xw (e2 ▸ e))), h.two.ap⟩, set5_block h.box x', h.xg, h.xw, h.ge⟩
/-- One item, just laid, is appended to what was taken. -/
theorem push_turn {P : Program} {ST : TypeId} (L : Laid P item 35 ST) {ops : Array Oper} {rest : List Oper} {o : Oper} {a : Act} {Q : Exit → Act → World → Prop} (hgd : o.guard = Option.none) (s y : Operand)
    (ho : o.op = .call { callee := .builtin .append, args := #[s, y], argTypes := #[ST, ST] })
    (wr : World) (hs : a.eval s = gv) (n : Nat) (hn : G.length = n) (H : Tst B q room R xb x wv gv T G wr) (hu : Below wr.heap.size wr u)
    (g : Nat) (x1 : It) {tg : TypeId} {fr : Nat × Nat} (hy : a.eval y = .slice (some ⟨g, 0, Option.none⟩) 1 1) (hg : u.heap[g]? = some (.cells (item.cs x1).toArray tg fr)) (hlen : n ≤ 100000)
    (h : ∀ p c w', Hid (Tst B q room R xb x wv (.slice p (n + 1) c) T (G ++ [x1]) w') → (∀ k, Below k wr u → k ≤ B → Below k wr w') → wpList P ops Q rest (a.put o.dst (.slice p (n + 1) c)) w') : wpList P ops Q (o :: rest) a u := by
  subst hn
  obtain ⟨zv, byt, hi0, hzc, hby⟩ := L.info
  obtain ⟨i0, hi, hz0, hz1, hz2⟩ := info_parts hi0
  have hmul : (G.length + 1) * byt ≤ 100001 * 1000 := Nat.mul_le_mul (by omega) hby
  have H2 := H.on hu
  have hB := H2.lt
  refine wpList_append_own_at _ hgd s y ST ho B 35 i0 zv item.n byt L.sl hi hz0 hz1 hz2 hzc item.pos gv G.length (cells item G) hs H2.two.o1 ⟨g, 0, Option.none⟩ 1 1 (item.cs x1) hy (by rw [item.len, Nat.one_mul]) (fun j z hz => World.news_of_block hg j z (by simpa using hz)) (item.one x1) (by unfold maxLen; omega) (by omega) hB ?_
  intro v' w' ho2 hg2 _ hat
  have R : Own item 35 B w' v' (G ++ [x1]) := by
    unfold Own
    rw [cells_snoc, List.length_append]
    exact ho2
  obtain ⟨p, c, rfl⟩ : ∃ p c, v' = .slice p (G.length + 1) c := by
    rcases ho2.2 with ⟨_, h0⟩ | ⟨g, cap, cur, rfl, _⟩
    · omega
    · exact ⟨_, cap, rfl⟩
  have hkeep : ∀ k, k < u.heap.size → gv.ownBlock ≠ some k → w'.heap[k]? = u.heap[k]? := fun k hk hne => hg2.block k hk (fun e => hne e.symm)
  have hx := lt_heap H2.box
  refine h p c w' ⟨pq_sub (pq_free H2.pq hg2.size (fun k hk hf => hkeep k hk (fun e => hf (.inr (.inr e))))) ?_, ⟨R, own_keep H2.two.o2 (fun b e => hkeep b (own_lt H2.two.o2 e) (fun e2 => H2.two.ap b e2 e)), ?_⟩, (hkeep xb hx H2.xg).trans H2.box, ?_, H2.xw, H2.ge⟩ ?_
  · rintro k (e | e | e)
    · exact .inl (.inl e)
    · exact .inl (.inr (.inl e))
    · rcases hat with hat | hat
      · exact .inl (.inr (.inr (hat ▸ e)))
      · have hlt := own_lt R e
        rw [hat] at e
        simp only [Option.some.injEq] at e
        exact .inr ⟨by omega, hlt⟩
  · intro b e e2
    rcases hat with hat | hat
    · exact H2.two.ap b (by rw [← hat]; exact e) e2
    · have h1 := own_lt H2.two.o2 e2
      rw [hat] at e
      simp only [Option.some.injEq] at e
      omega
  · intro e
    rcases hat with hat | hat
    · exact H2.xg (hat ▸ e)
    · rw [hat] at e
      simp only [Option.some.injEq] at e
      omega
  · intro k hk hkB
    exact hk.grown hg2 (Nat.le_trans hkB hB) (fun k' e => Nat.le_trans hkB (World.ownsRow.lt H2.two.o1 k' e).1)
end
end Go.Proofs.Ytdcclmellabnlaa.Queue
