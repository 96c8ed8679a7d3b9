/-
  The walk of CpuPorts.
-/
import Derived.Test.YtjneaphlghfbhabDoorCport
import Derived.Test.YtjneaphlghfbhabDoorCsep
namespace Go.Proofs.YtjneaphlghfbhabDoor.Cpu
open Go.RowKit Go.Proofs.YtjneaphlghfbhabDoor.Bits Go.Proofs.YtjneaphlghfbhabDoor.Gw Go.Proofs.YtjneaphlghfbhabDoor.Risc Go.Proofs.YtjneaphlghfbhabDoor.Alu Go.Proofs.YtjneaphlghfbhabDoor.Mem
set_option linter.unusedVariables false

set_option maxHeartbeats 4000000 in
set_option maxRecDepth 100000 in
theorem ports_walk (w : World) (L : Laid w) (inp : ByteArray) (hmax : inp.size ≤ maxLen) :
    Calls Tryd.prog 3 #[.string inp] w fun e w' => e = .returned (.bool true) ∧ w.grownBy w' none := by
  have HL := hd L
  unfold maxLen at hmax
  clear L
  by_cases hs : 500 < inp.size
  · have i1 : (500 : Int) < (inp.size : Int) := by omega
    clear hs
    go_enter Tryd.func3, Tryd.ntmps3
    go_wp2_with (go_at_call 4; refine (wakes_any _ HL.out).mono ?_; rintro e w8 ⟨rfl, hg⟩; have HWK := hd hg; clear hg)
    go_ret
    exact ⟨rfl, HWK.out⟩
  · have i1 : ¬ (500 : Int) < (inp.size : Int) := by omega
    obtain ⟨S, hS, hN, s1, s2, s3⟩ := port_ran (inp := inp) (by omega)
    have HS := hd (And.intro hS hN)
    have HE := hd (And.intro s1 (And.intro s2 s3))
    have HI : Hid (inp.size ≤ 4096) := hd (by omega)
    clear hS hN s1 s2 s3 hs hmax
    go_enter Tryd.func3, Tryd.ntmps3
    go_upto_region 4 with fail
    have HX : Hid (Lies (w.alloc (Obj.cells #[Value.int IntKind.i64 1, Value.bool true, Value.bool false, Value.int IntKind.i64 1, Value.int IntKind.i64 0, Value.int IntKind.i64 0, Value.int IntKind.i64 0, Value.int IntKind.i64 65535, Value.int IntKind.i64 1, Value.bool false, Value.bool false, Value.int IntKind.i64 1, Value.int IntKind.i64 1, Value.int IntKind.i64 0, Value.int IntKind.i64 8, Value.int IntKind.i64 65472, Value.int IntKind.i64 2, Value.bool false, Value.bool false, Value.int IntKind.i64 2, Value.int IntKind.i64 1, Value.int IntKind.i64 0, Value.int IntKind.i64 0, Value.int IntKind.i64 12, Value.int IntKind.i64 3, Value.bool true, Value.bool false, Value.int IntKind.i64 1, Value.int IntKind.i64 0, Value.int IntKind.i64 0, Value.int IntKind.i64 0, Value.int IntKind.i64 3, Value.int IntKind.i64 2, Value.bool false, Value.bool false, Value.int IntKind.i64 3, Value.int IntKind.i64 1, Value.int IntKind.i64 0, Value.int IntKind.i64 0, Value.int IntKind.i64 8, Value.int IntKind.i64 2, Value.bool true, Value.bool false, Value.int IntKind.i64 3, Value.int IntKind.i64 1, Value.int IntKind.i64 0, Value.int IntKind.i64 0, Value.int IntKind.i64 8, Value.int IntKind.i64 3, Value.bool true, Value.bool false, Value.int IntKind.i64 7, Value.int IntKind.i64 0, Value.int IntKind.i64 0, Value.int IntKind.i64 0, Value.int IntKind.i64 (-5), Value.int IntKind.i64 2, Value.bool true, Value.bool false, Value.int IntKind.i64 0, Value.int IntKind.i64 1, Value.int IntKind.i64 0, Value.int IntKind.i64 0, Value.int IntKind.i64 0] 24)) w.heap.size portIs) := hd ⟨_, _, _, heap_alloc_new w _, rfl⟩
    have HG0 := hd (World.grownBy_alloc w (Obj.cells #[Value.int IntKind.i64 1, Value.bool true, Value.bool false, Value.int IntKind.i64 1, Value.int IntKind.i64 0, Value.int IntKind.i64 0, Value.int IntKind.i64 0, Value.int IntKind.i64 65535, Value.int IntKind.i64 1, Value.bool false, Value.bool false, Value.int IntKind.i64 1, Value.int IntKind.i64 1, Value.int IntKind.i64 0, Value.int IntKind.i64 8, Value.int IntKind.i64 65472, Value.int IntKind.i64 2, Value.bool false, Value.bool false, Value.int IntKind.i64 2, Value.int IntKind.i64 1, Value.int IntKind.i64 0, Value.int IntKind.i64 0, Value.int IntKind.i64 12, Value.int IntKind.i64 3, Value.bool true, Value.bool false, Value.int IntKind.i64 1, Value.int IntKind.i64 0, Value.int IntKind.i64 0, Value.int IntKind.i64 0, Value.int IntKind.i64 3, Value.int IntKind.i64 2, Value.bool false, Value.bool false, Value.int IntKind.i64 3, Value.int IntKind.i64 1, Value.int IntKind.i64 0, Value.int IntKind.i64 0, Value.int IntKind.i64 8, Value.int IntKind.i64 2, Value.bool true, Value.bool false, Value.int IntKind.i64 3, Value.int IntKind.i64 1, Value.int IntKind.i64 0, Value.int IntKind.i64 0, Value.int IntKind.i64 8, Value.int IntKind.i64 3, Value.bool true, Value.bool false, Value.int IntKind.i64 7, Value.int IntKind.i64 0, Value.int IntKind.i64 0, Value.int IntKind.i64 0, Value.int IntKind.i64 (-5), Value.int IntKind.i64 2, Value.bool true, Value.bool false, Value.int IntKind.i64 0, Value.int IntKind.i64 1, Value.int IntKind.i64 0, Value.int IntKind.i64 0, Value.int IntKind.i64 0] 24) none)
    generalize w.alloc (Obj.cells #[Value.int IntKind.i64 1, Value.bool true, Value.bool false, Value.int IntKind.i64 1, Value.int IntKind.i64 0, Value.int IntKind.i64 0, Value.int IntKind.i64 0, Value.int IntKind.i64 65535, Value.int IntKind.i64 1, Value.bool false, Value.bool false, Value.int IntKind.i64 1, Value.int IntKind.i64 1, Value.int IntKind.i64 0, Value.int IntKind.i64 8, Value.int IntKind.i64 65472, Value.int IntKind.i64 2, Value.bool false, Value.bool false, Value.int IntKind.i64 2, Value.int IntKind.i64 1, Value.int IntKind.i64 0, Value.int IntKind.i64 0, Value.int IntKind.i64 12, Value.int IntKind.i64 3, Value.bool true, Value.bool false, Value.int IntKind.i64 1, Value.int IntKind.i64 0, Value.int IntKind.i64 0, Value.int IntKind.i64 0, Value.int IntKind.i64 3, Value.int IntKind.i64 2, Value.bool false, Value.bool false, Value.int IntKind.i64 3, Value.int IntKind.i64 1, Value.int IntKind.i64 0, Value.int IntKind.i64 0, Value.int IntKind.i64 8, Value.int IntKind.i64 2, Value.bool true, Value.bool false, Value.int IntKind.i64 3, Value.int IntKind.i64 1, Value.int IntKind.i64 0, Value.int IntKind.i64 0, Value.int IntKind.i64 8, Value.int IntKind.i64 3, Value.bool true, Value.bool false, Value.int IntKind.i64 7, Value.int IntKind.i64 0, Value.int IntKind.i64 0, Value.int IntKind.i64 0, Value.int IntKind.i64 (-5), Value.int IntKind.i64 2, Value.bool true, Value.bool false, Value.int IntKind.i64 0, Value.int IntKind.i64 1, Value.int IntKind.i64 0, Value.int IntKind.i64 0, Value.int IntKind.i64 0] 24) = W at HX HG0 ⊢
    generalize w.heap.size = X at HX ⊢
    have HP := played_any (n := 8) (cap := 8) (laid_chg HL.out (F := []) (Chg.still HG0.out) (by simp)) HX.out rfl (by decide) (by decide) port_good inp HI.out 10000 10000 rfl (by decide) HS.out.1 HS.out.2
    rw [HE.out.1, HE.out.2.1, HE.out.2.2] at HP
    have e5 : ((5 + 5 * inp.size : Nat) : Int) = 5 + 5 * (inp.size : Int) := by omega
    rw [e5] at HP
    have HPP := hd HP
    clear HP e5
    go_upto_region 5 with (go_at_call 5; refine HPP.out.mono ?_; rintro e w1 ⟨m, mh, mb, mo, rfl, hm, hg⟩; have HM := hd hm; have HG1 := hd (grown_trans HG0.out hg); clear hm hg)
    have HY := hd (oc_new w1 1 S.tr inp (5 + 5 * (inp.size : Int)) inp.size)
    replace HM := hd (HM.out.grown (World.grownBy_alloc w1 (Obj.cells #[Value.int IntKind.i64 1, Value.int IntKind.i64 S.tr, Value.string inp, Value.int IntKind.i64 (5 + 5 * ↑inp.size), Value.int IntKind.i64 ↑inp.size] 28) none))
    replace HG1 := hd (grown_trans HG1.out (World.grownBy_alloc w1 (Obj.cells #[Value.int IntKind.i64 1, Value.int IntKind.i64 S.tr, Value.string inp, Value.int IntKind.i64 (5 + 5 * ↑inp.size), Value.int IntKind.i64 ↑inp.size] 28) none))
    generalize w1.alloc (Obj.cells #[Value.int IntKind.i64 1, Value.int IntKind.i64 S.tr, Value.string inp, Value.int IntKind.i64 (5 + 5 * ↑inp.size), Value.int IntKind.i64 ↑inp.size] 28) = V at HY HM HG1 ⊢
    generalize w1.heap.size = Y at HY ⊢
    obtain ⟨y0, y1, y2, y3, y4⟩ := HY.out.c
    have LV := hd HM.out.laid
    have n0 : (0 : Int) ≤ (inp.size : Int) := by omega
    clear HY HS HX
    go_wp2_with (go_at_call 4; refine (wakes_any _ LV.out).mono ?_; rintro e w8 ⟨rfl, hg⟩; have HWK := hd hg; clear hg)
    go_ret
    exact ⟨rfl, grown_trans HG1.out HWK.out⟩
end Go.Proofs.YtjneaphlghfbhabDoor.Cpu
