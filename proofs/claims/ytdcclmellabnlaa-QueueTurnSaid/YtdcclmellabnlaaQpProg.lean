/-
  The program's queue does what is asked of it.
-/
import Derived.Test.YtdcclmellabnlaaQpPut
import Derived.Test.YtdcclmellabnlaaQpKeys
import Derived.Test.YtdcclmellabnlaaQpRest
namespace Go.Proofs.Ytdcclmellabnlaa.Queue
open Go.RowKit
open _root_.Go.Proofs.Ytdcclmellabnlaa.Kit (Enc Lies Own At Kept Laid Off cell_on lt_heap take_snoc below_drewN box5 ints own_keep own_lt cells)

theorem way12 : Way12 Pq where
  below := fun ⟨y, hy⟩ hb => ⟨y, hy.below hb⟩
  kept := fun ⟨y, hy⟩ hk _ => ⟨y, hy.kept hk⟩
  sub := fun ⟨y, hy⟩ hg => ⟨y, hy.sub hg⟩
  grow := fun ⟨y, hy⟩ hb => ⟨y, hy.grow hb⟩
  new := fun room w h0 h1 => new_ok room w h0 h1
  newno := fun room w h => new_no room w h
  put := fun h hB _ hl x _ => pput_any h hB hl x
  take := fun h hB hg hl id _ => ptake_any h hB hg hl id
  expire := fun h hB _ hl now _ => pexpire_any h hB hl now
  first := fun h hg hl key _ => first_core _ key _ _ fun _ hu => pof_any (by obtain ⟨y, hy⟩ := h; exact ⟨y, hy.below hu⟩) hg hl key
  of := fun h hg hl key _ => pof_any h hg hl key
  keys := fun h _ hl => pkeys_any h hl
  sum := fun {_ _ _ _ _ l} h hg hl key _ => sum_core _ key _ (of l key) (Nat.le_trans (of_len l key) (by omega)) (pof_any h hg hl key)
  all := fun h _ hl => (pall_any h hl).mono fun e w' ⟨y, he, ho, hb⟩ => by
    obtain ⟨p, c, rfl, hli, -⟩ := own_slice ho
    exact ⟨p, c, he, hli, hb⟩
  nput := nput_any
  ntake := ntake_any
  nexpire := nexpire_any
  nfirst := fun key w => first_core _ key w [] fun u _ => (nof_any key u).mono fun e w' ⟨p, c, he, hb⟩ => ⟨p, c, he, .inl rfl, hb⟩
  nof := nof_any
  nkeys := nkeys_any
  nsum := fun key w => sum_core _ key w [] (by simp) ((nof_any key w).mono fun e w' ⟨p, c, he, hb⟩ => ⟨p, c, he, .inl rfl, hb⟩)
  nall := fun w => (nall_any w).mono fun e w' ⟨he, hb⟩ => ⟨_, _, he, hb⟩
end Go.Proofs.Ytdcclmellabnlaa.Queue
