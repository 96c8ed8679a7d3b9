/-
  What the document's own New, Fork and Words answer.
-/
import Derived.Test.YtjneaphlghfbhaaGreatDoorMem5
import Derived.Test.YtjneaphlghfbhaaGreatDoorMapp
namespace Go.Proofs.YtjneaphlghfbhaaGreatDoor.Mem
open Go.RowKit Go.Proofs.YtjneaphlghfbhaaGreatDoor.Bits

theorem rnew_many {w : World} {ao : Option Addr} {n cp : Nat} (hn : 65536 < n) (hm : n ≤ 9223372036854775807) :
    Calls Tryz.prog 18 #[.slice ao n cp] w fun e w' => e = .returned (.tuple #[.pointer none, .int .i64 3]) ∧ w' = w := by
  go_enter Tryz.func18, Tryz.ntmps18
  go_wp2
  go_ret2
  exact ⟨rfl, rfl⟩
theorem rnew_ok {w : World} {ao : Option Addr} {xs : List Int} {n cp : Nat} (hs : Src w ao xs) (hr : inR xs) (hc : ao = none → cp = 0) (hnn : xs.length = n) (hn : n ≤ 65536) :
    Calls Tryz.prog 18 #[.slice ao n cp] w fun e w' => ∃ a b c, e = .returned (.tuple #[.pointer (some ⟨a, 0, none⟩), .int .i64 0]) ∧ w.grownBy w' none ∧ Mm 81 w' a b c xs ∧ w.heap.size ≤ a ∧ w.heap.size ≤ b := by
  have HN : Hid (xs.length = n) := hnn
  have HS : Hid (Src w ao xs) := hs
  have HR : Hid (inR xs) := hr
  have HC : Hid (ao = none → cp = 0) := hc
  clear hnn hs hr hc
  go_enter Tryz.func18, Tryz.ntmps18
  go_wp2_with (at_builtin; refine wpList_append_src (w0 := w) rfl (.tmp 7) (.tmp 8) rfl w.heap.size rfl (heap_alloc_new _ _) _ _ _ rfl xs (HS.out.kept (World.grownBy_alloc _ _ _)) HR.out HN.out HC.out (by omega) w.heap.size (Nat.le_refl _) ((Below.refl _ _).alloc (Nat.le_refl _) _) ?_; intro b c' w1 hb ha hw; have HA := (show Hid _ from ha); clear ha)
  go_ret2
  have hsz := hw.size
  have hm := mm_new (T := 81) HA.out
  rw [HN.out] at hm
  exact ⟨_, _, _, rfl, grown_trans (grown_below hw) (World.grownBy_alloc _ _ _), hm, hsz, hb⟩
end Go.Proofs.YtjneaphlghfbhaaGreatDoor.Mem
