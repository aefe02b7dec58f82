/-
  Spend of any wallet of leases that may be, and of none; any key, cost, reading.
-/
import Derived.Test.YtlipepbemofihaaLsClose
namespace Go.Proofs.Ytlipepbemofihaa.Lease
open Go.RowKit Go.Maps

set_option maxRecDepth 100000 in
set_option maxHeartbeats 1000000 in
theorem spend_none (v : Value) (k c now L : Int) (w : World) (hn : c < 1 ∨ L < c)
    (ho : Calls Try.prog 12 #[v, .int .i64 k, .int .i64 now] w fun e w' => e = .returned (.int .i64 L) ∧ Below w.heap.size w w') :
    Calls Try.prog 14 #[v, .int .i64 k, .int .i64 c, .int .i64 now] w fun e w' => e = .returned (.tuple #[.int .i64 0, .bool false]) ∧ Below w.heap.size w w' := by
  by_cases h1 : c < 1
  · clear hn
    go_enter Try.func14, Try.ntmps14
    go_wp2
    refine bodyPost_ret (v := .tuple #[.int .i64 0, .bool false]) (by simp [results, Try.results14, go_sem]) rfl ⟨rfl, ?_⟩
    exact Below.refl _ _
  · have h2 : L < c := by omega
    clear hn
    go_enter Try.func14, Try.ntmps14
    go_wp2_with (go_at_call 12; refine ho.mono ?_; clear ho; rintro e u ⟨rfl, hb⟩)
    refine bodyPost_ret (v := .tuple #[.int .i64 0, .bool false]) (by simp [results, Try.results14, go_sem]) rfl ⟨rfl, ?_⟩
    exact hb

set_option maxRecDepth 100000 in
set_option maxHeartbeats 2000000 in
theorem spend_some {B q : Nat} {w : World} {l : List Lz} (hB : B ≤ w.heap.size) (h : Pm B w q l) (hr : Rise l) {k c now L : Int} (hlen : l.length < maxLen) (hk : Num k) (hp : 0 ≤ place l k) (h1 : 1 ≤ c) (h2 : c ≤ L) (x : Lz) (hx : the l k = x)
    (hs : -9223372036854775808 ≤ x.spent + c ∧ x.spent + c ≤ 9223372036854775807)
    (ho : Calls Try.prog 12 #[.pointer (some ⟨q, 0, none⟩), .int .i64 k, .int .i64 now] w fun e w' => e = .returned (.int .i64 L) ∧ Below w.heap.size w w') :
    Calls Try.prog 14 #[.pointer (some ⟨q, 0, none⟩), .int .i64 k, .int .i64 c, .int .i64 now] w fun e w' => e = .returned (.tuple #[.int .i64 x.gen, .bool true]) ∧ Moved Pm B w q (l.set (place l k).toNat (more x c)) w' := by
  have hkey : x.key = k := by rw [← hx]; exact (place_some hp).2.1
  have hfx : found l k = x := by unfold found; rw [if_pos hp, hx]
  obtain ⟨m, hc, _, hm⟩ := h.cell
  obtain ⟨b, rfl⟩ : ∃ b, m = some b := by
    rcases hm with ⟨-, rfl⟩ | ⟨b, D, rfl, -⟩
    · simp [place, Ledger.spot] at hp
    · exact ⟨b, rfl⟩
  have HG := Lib.hid (fun u (hu : Below w.heap.size w u) => (hm.below hu).get hr hk)
  rw [hfx] at HG
  have hq := h.lt
  have HT := Lib.hid (fun u v w' l' (hu : Below w.heap.size w u) (hv : u.grownBy v (some b)) (hl : Mw B v (some b) l') (hw : Below v.heap.size v w') => h.turned hB hc hu hm hv hl hw)
  have HM := Lib.hid hm
  have HC := Lib.hid (fun u (hu : Below w.heap.size w u) => cell_on hc hu)
  clear h hm hc
  have hd : IntKind.i64.wrap (x.spent + c) = x.spent + c := IntWalk.i64_in _ hs
  obtain ⟨key, gen, amount, spent, til⟩ := x
  simp only at hkey
  subst hkey
  simp only [val] at HG hd ⊢
  clear hs hfx hx
  go_enter Try.func14, Try.ntmps14
  go_wp2_with (first
    | (go_at_call 12; refine ho.mono ?_; clear ho; rintro e u ⟨rfl, hb⟩; have hc := HC.out _ hb; have hq := Nat.lt_of_lt_of_le hq hb.size; have hl := HG.out _ hb)
    | go_in)
  have hb5 := hb.alloc hb.size (.cells #[.int .i64 key, .int .i64 gen, .int .i64 amount, .int .i64 (spent + c), .int .i64 til] 33)
  have hz := (MapKept.heap_alloc u (.cells #[.int .i64 key, .int .i64 gen, .int .i64 amount, .int .i64 (spent + c), .int .i64 til] 33)).1
  generalize (u.alloc (.cells #[.int .i64 key, .int .i64 gen, .int .i64 amount, .int .i64 (spent + c), .int .i64 til] 33)) = u5 at *
  have hc5 := HC.out _ hb5
  obtain ⟨v, hrun, hv, hgv⟩ := (HM.out.below hb5.drew).put (w := u5.drew) hr hlen ⟨key, gen, amount, spent + c, til⟩ hk
  rw [if_neg (show ¬ place l key < 0 by omega)] at hv
  simp only [val] at hrun
  obtain ⟨z0, z1, z2, z3, z4⟩ := box5 hz
  have hzv := turn_cell hgv (HM.out.below hb5.drew) hz
  obtain ⟨y0, y1, y2, y3, y4⟩ := box5 hzv
  clear hz hzv
  go_region
  all_goals go_wp2
  all_goals refine bodyPost_ret (v := .tuple #[.int .i64 gen, .bool true]) (by simp [results, Try.results14, go_sem]) rfl ⟨rfl, ?_⟩
  all_goals exact HT.out _ _ _ _ hb5.drew hgv hv (Below.refl _ _)
theorem pspend_any {B q : Nat} {w : World} {l : List Lz} (h : Pm B w q l) (hB : B ≤ w.heap.size) (hg : Good l) (hlen : l.length ≤ 100) {k c now : Int} (hk : Num k) :
    Calls Try.prog 14 #[.pointer (some ⟨q, 0, none⟩), .int .i64 k, .int .i64 c, .int .i64 now] w fun e w' => e = .returned (.tuple #[.int .i64 (spend l k c now).2.1, .bool (spend l k c now).2.2]) ∧ Moved Pm B w q (spend l k c now).1 w' := by
  have ho := pleft_any h hg (now := now) hk
  by_cases hn : c < 1 ∨ left l k now < c
  · refine (spend_none _ k c now _ w hn ho).mono ?_
    rintro e w' ⟨rfl, hb⟩
    unfold spend
    rw [if_pos hn]
    exact ⟨rfl, h.same hB hb⟩
  · obtain ⟨hp, -, h1, h2⟩ := left_some hn
    have hm := hg.each _ (place_some hp).2.2
    refine (spend_some hB h hg.rise (by unfold maxLen; omega) hk hp h2 (by omega) _ rfl (by unfold Nums Num at hm; omega) ho).mono ?_
    rintro e w' ⟨rfl, hv⟩
    unfold spend
    rw [if_neg hn]
    exact ⟨rfl, hv⟩
theorem nspend_any (k c now : Int) (w : World) : Calls Try.prog 14 #[.pointer none, .int .i64 k, .int .i64 c, .int .i64 now] w fun e w' => e = .returned (.tuple #[.int .i64 0, .bool false]) ∧ Below w.heap.size w w' :=
  spend_none _ k c now 0 w (by omega) (nleft_any k now w)
end Go.Proofs.Ytlipepbemofihaa.Lease
