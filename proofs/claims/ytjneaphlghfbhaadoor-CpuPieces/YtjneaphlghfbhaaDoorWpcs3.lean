/-
  The walk of CpuPieces, where no machine is made; and as one.
-/
import Derived.Test.YtjneaphlghfbhaaDoorWpcs2
namespace Go.Proofs.YtjneaphlghfbhaaDoor.Cpu
open Go.RowKit Go.Proofs.YtjneaphlghfbhaaDoor.Bits Go.Proofs.YtjneaphlghfbhaaDoor.Gw Go.Proofs.YtjneaphlghfbhaaDoor.Risc Go.Proofs.YtjneaphlghfbhaaDoor.Alu Go.Proofs.YtjneaphlghfbhaaDoor.Mem
set_option linter.unusedVariables false

set_option maxHeartbeats 4000000 in
set_option maxRecDepth 100000 in
theorem pieces_many (w : World) (L : Laid w) (o0 : Option Addr) (n0 c0 : Nat) (x0 : List Int) (W0 : Wl w o0 n0 c0 x0) (inp : ByteArray) (A B : Nat) (hi : inp.size ≤ 4000) (hA : A ≤ 20000) (hB : B ≤ 20000) (hn : 65536 < n0) (hm : n0 ≤ 70000) :
    Calls Tryd.prog 3 #[.slice o0 n0 c0, .string inp, .agg #[.int .i64 A, .int .i64 B]] w fun e w' => e = .returned (.bool true) ∧ w.grownBy w' none := by
  have HL := hd L
  have HW := hd W0
  have hlg : lgB n0 = false := by simp [lgB]; omega
  have HLG := hd hlg
  have j1 : ¬ (4000 : Int) < (inp.size : Int) := by omega
  have j2 : ¬ (A : Int) < 0 := by omega
  have j3 : ¬ (B : Int) < 0 := by omega
  have j4 : ¬ (20000 : Int) < (A : Int) := by omega
  have j5 : ¬ (20000 : Int) < (B : Int) := by omega
  have HE : Hid (errI n0 inp.size 0 = 3) := hd (by simp [errI, hn])
  have HN := hd hn
  have HI := hd hi
  clear L W0 hi hn hlg
  go_enter Tryd.func3, Tryd.ntmps3
  go_wp2
  go_quiet (fail)
  go_upto_region 4 with (go_at_call 7; refine (large_any _ _ _ _ (by omega)).mono ?_; rw [HLG.out]; rintro e w' ⟨rfl, rfl⟩)
  have HG0 := hd (grown_drewN (World.grownBy_alloc w (Obj.cells #[Value.int IntKind.i64 ↑A, Value.int IntKind.i64 ↑B] 23) none) nq)
  have HSr := hd (HW.out.src.kept HG0.out)
  generalize (w.alloc (Obj.cells #[Value.int IntKind.i64 ↑A, Value.int IntKind.i64 ↑B] 23)).drewN nq = V0 at HG0 HSr ⊢
  go_upto_region 5 with (first
    | (at_builtin; refine wpList_append_src (w0 := V0) rfl (.tmp 48) (.tmp 49) rfl (V0).heap.size rfl (heap_alloc_new _ _) _ _ _ rfl x0 (HSr.out.kept (World.grownBy_alloc _ _ _)) HW.out.rng HW.out.len HW.out.none (by omega) (V0).heap.size (Nat.le_refl _) ((Below.refl _ _).alloc (Nat.le_refl _) _) ?_; intro bb cc w1 hbb ha hw; have HA := hd ha; have HGa := hd (grown_below hw); clear ha hw hbb)
    | (go_at_call 9; refine (new_err HA.out.src HW.out.rng HW.out.len (by omega) (by have := HI.out; omega) (.inl HN.out)).mono ?_; rw [HE.out]; rintro e w2 ⟨rfl, hg⟩; have HG1 := hd (grown_trans (grown_trans HG0.out HGa.out) hg); clear hg))
  replace HSr := hd (HW.out.src.kept HG1.out)
  clear HA HGa HG0
  go_wp2_with (first
    | (at_builtin; refine wpList_append_src (w0 := w2) rfl (.tmp 56) (.tmp 57) rfl (w2).heap.size rfl (heap_alloc_new _ _) _ _ _ rfl x0 (HSr.out.kept (World.grownBy_alloc _ _ _)) HW.out.rng HW.out.len HW.out.none (by omega) (w2).heap.size (Nat.le_refl _) ((Below.refl _ _).alloc (Nat.le_refl _) _) ?_; intro bb cc w3 hbb ha hw; have HA := hd ha; have HGa := hd (grown_below hw); clear ha hw hbb)
    | (go_at_call 9; refine (new_err HA.out.src HW.out.rng HW.out.len (by omega) (by have := HI.out; omega) (.inl HN.out)).mono ?_; rw [HE.out]; rintro e w4 ⟨rfl, hg⟩; have HG2 := hd (grown_trans HG1.out (grown_trans HGa.out hg)); clear hg)
    | (go_at_call 8; refine (wakes_any _ (laid_chg HL.out (F := []) (Chg.still HG2.out) (by simp))).mono ?_; rintro e w8 ⟨rfl, hg⟩; have HWK := hd hg; clear hg))
  go_ret
  exact ⟨rfl, grown_trans HG2.out HWK.out⟩
theorem pieces_walk (w : World) (L : Laid w) (o0 : Option Addr) (n0 c0 : Nat) (x0 : List Int) (W0 : Wl w o0 n0 c0 x0) (inp : ByteArray) (x y : Int) (hi : inp.size ≤ maxLen) :
    Calls Tryd.prog 3 #[.slice o0 n0 c0, .string inp, .agg #[.int .i64 x, .int .i64 y]] w fun e w' => e = .returned (.bool true) ∧ w.grownBy w' none := by
  have hmax := W0.max
  unfold maxLen at hmax hi
  by_cases h : lgB n0 = true ∨ 4000 < inp.size ∨ x < 0 ∨ y < 0 ∨ 20000 < x ∨ 20000 < y
  · exact pieces_bad w L o0 n0 c0 inp x y (by omega) (by omega) h
  · have h1 : lgB n0 = false := by
      cases e : lgB n0
      · rfl
      · exact absurd (.inl e) h
    obtain ⟨A, rfl⟩ := Int.eq_ofNat_of_zero_le (show 0 ≤ x by omega)
    obtain ⟨B, rfl⟩ := Int.eq_ofNat_of_zero_le (show 0 ≤ y by omega)
    simp [lgB] at h1
    by_cases h2 : n0 ≤ 3000
    · exact pieces_good w L o0 n0 c0 x0 W0 inp A B (by omega) (by omega) (by omega) h2
    · exact pieces_many w L o0 n0 c0 x0 W0 inp A B (by omega) (by omega) (by omega) (by omega) (by omega)
end Go.Proofs.YtjneaphlghfbhaaDoor.Cpu
