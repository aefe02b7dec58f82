/-
  All that is asked of the program's ledger, of tables whose rows rise by keys, and leases by nodes: Find, Total, Look, Mint, Settle, Grant, Held.
-/
import Derived.Test.YtcnnepmhdccipaaLgSort
namespace Go.Proofs.Ytcnnepmhdccipaa.Ledger
open Go.RowKit
open _root_.Go.Proofs.Ytcnnepmhdccipaa.Frame (Rw Tb noRow LeasesAt cell_on)

theorem pheld_rise {n : Nat} {t : Tb} (p : Option Addr) (c : Nat) (node : Int) (w : World) (h : Rise n t) (hn : n ≤ 61) (hr : RowsAt w p t.rows) :
    Calls Try.prog 17 #[tabVal t p c, .int .i64 node] w (TellsInts w (held t node)) := by
  obtain ⟨hl, ho⟩ := base_len h.base hn
  have hp := held_up h.up node
  have hlen : (heldOf node t.rows).length ≤ t.rows.length := by have := heldOf_len node t.rows t.rows.length; rwa [List.take_length] at this
  refine pheld_core t.start t.rows p c node w hr hl (fun u j hj p' c' hu => ?_) (fun u0 u v hv hb => sort_keys (heldOf node t.rows) hp (by omega) u0 u v hv hb) fun k hk => ?_
  · have hm : t.rows.getD j noRow ∈ t.rows := by simp [List.getD, hj]
    have hB := h.base.rows _ hm
    have hU := h.ups _ hm
    generalize t.rows.getD j noRow = r at *
    refine (lent_any r p' c' node u hu (ho r hm)).mono ?_
    rintro e u' ⟨rfl, hb⟩
    rcases lent_out hU node fun y hy => (hB.out y hy).2 with ⟨h1, h2⟩ | ⟨h1, h2⟩
    · exact ⟨_, by rw [h2, decide_eq_false (by omega)], hb⟩
    · exact ⟨_, by rw [h2, decide_eq_true h1], hb⟩
  · have := List.pairwise_iff_getElem.1 hp k (k + 1) (by show k < (heldOf node t.rows).length; omega) hk (by omega)
    have h1 : k < (heldOf node t.rows).length := by omega
    show (heldOf node t.rows).getD k 0 < (heldOf node t.rows).getD (k + 1) 0
    simp only [List.getD, h1, hk, List.getElem?_eq_getElem, Option.getD_some]
    exact this
theorem inv9 : Inv Rise := inv_rise
theorem way9 : Way9 Rise where
  find := by
    intro n t p c key w h hn hk hr
    obtain ⟨hl, -⟩ := base_len h.base hn
    obtain ⟨m, hO⟩ := open_of hr
    have hlen := hO.len
    have hf := hO.found key
    have hF := foundP_row t m key hO.row
    have tv : tabVal t p c = .agg #[.int .i64 t.start, .slice p m.length (c + m.length)] := by unfold tabVal; rw [hlen]
    rw [tv]
    refine (pfind_any t.start m p c key w (by omega) (by rw [hO.row]; exact hr) hO.lay).mono ?_
    rintro e w' ⟨rfl, hb⟩
    rw [hO.row]
    refine ⟨(foundP t.start m key).2.1, (foundP t.start m key).2.2, ?_, ?_, hb⟩
    · rw [← hF]; rfl
    · rw [← hF]; exact hf.below hb
  total := fun r p c w hB hl => ptotal_any r p c w hl (by have := hB.len; omega)
  look := by
    intro n t p c key now R B W w h hn hk hno hR hB hr hW
    obtain ⟨hl, ho⟩ := base_len h.base hn
    obtain ⟨m, hO⟩ := open_of hr
    have hlen := hO.len
    have hf := hO.found key
    have hF := foundP_row t m key hO.row
    have tv : tabVal t p c = .agg #[.int .i64 t.start, .slice p m.length (c + m.length)] := by unfold tabVal; rw [hlen]
    rw [tv]
    refine (plook_any t.start m p c key now R B w (by omega) (by rw [hO.row]; exact hr.below hW) (hO.lay.on hW) (fun x hx => ⟨(hO.leases x hx).below hW, ho x.1 (by rw [← hO.row]; exact List.mem_map_of_mem hx)⟩)).mono ?_
    rintro e w' ⟨rfl, hb⟩
    have e1 : (lookP t.start m key now R B).1 = look t key now R B := by
      show minted (foundP t.start m key).1 now R B = minted (findRow t key) now R B
      rw [hF]
    have e2 : (look t key now R B).out = (foundP t.start m key).1.out := by rw [hF]; rfl
    refine ⟨(foundP t.start m key).2.1, (foundP t.start m key).2.2, ?_, ?_, ?_, hb⟩
    · rw [← e1]; rfl
    · rw [e2]; exact (hf.below hW).below hb
    · rw [e2]
      rcases hf with hf | ⟨b, o, e3, hc⟩
      · exact .inl hf
      · by_cases hz : (foundP t.start m key).1.out = []
        · exact .inl hz
        · exact .inr ⟨b, o, e3, .inl (World.block_lt_of_cell? _ _ (hc 0 (List.length_pos_iff.2 hz)).1)⟩
  mint := fun p c key now f pf cf w h hn _ _ _ hr hz => pmint_rise p c key now f pf cf w h hn hr hz
  settle := fun p c key node spent w h hn hk _ hs hr => psettle_rise p c key node spent w h hn hk hs hr
  grant := fun p c key node want w h hn hk _ _ hr => pgrant_rise p c key node want w h hn hk hr
  held := fun p c node w h hn _ hr => pheld_rise p c node w h hn hr
end Go.Proofs.Ytcnnepmhdccipaa.Ledger
