/-
  Package store's Get and Delete of nil.
-/
import Derived.Test.YtaekljpijnkjoaaDoorSn3
namespace Go.Proofs.YtaekljpijnkjoaaDoor.St
open Go.RowKit Go.Maps Go.Proofs.YtaekljpijnkjoaaDoor.Tx
set_option linter.unusedVariables false
set_option linter.unusedSimpArgs false
set_option maxRecDepth 100000

theorem find_nil (w : World) (n : List UInt8) (hm : n.length ≤ maxLen) :
    Calls Tryd.prog 25 #[.pointer none, .string (bs n)] w fun e w' => e = .returned (.tuple #[.agg (padV (kkV n)), .agg #[.string (bs [])], .bool false]) ∧ w.grownBy w' none := by
  cases hn : nmB n
  · have := find_no hn hm w (.pointer none)
    rw [show kkV n = [] by simp [kkV, hn]]
    exact this
  · rw [show kkV n = n by simp [kkV, hn]]
    obtain ⟨kl, hkl⟩ := isK (nm_len hn)
    exact find_is hn w _ none [] false (fun W _ => all_nil W) (fun W _ => by
      have := Maps.look_nil (w := W) true LK Tryd.underlying48 (file_zero W) hkl
      exact this)
set_option maxHeartbeats 1000000 in
theorem get_nil (w : World) (n : List UInt8) (hm : n.length ≤ maxLen) :
    Calls Tryd.prog 10 #[.pointer none, .string (bs n)] w fun e w' => e = .returned (.tuple #[.string (bs []), .bool false]) ∧ w.grownBy w' none := by
  obtain ⟨Z, hZ⟩ : ∃ Z, padV [] = Z := ⟨_, rfl⟩
  have hpz : Z.size = 24 := by rw [← hZ]; exact padV_size (by simp)
  have b0' : (⟨#[]⟩ : ByteArray) = bs [] := rfl
  rw [padV_nil] at hZ
  have HF := hide (find_nil w n hm)
  have hps := padV_size (kk_len n)
  have hp1 := padV_one (kkV n)
  generalize padV (kkV n) = K at HF hps hp1
  have hsc := fun (W : World) (o : Obj) => stores_mid W (Z := Z) (K := K) o hpz hps hp1
  clear hp1 hm
  go_enter Tryd.func10, Tryd.ntmps10
  go_wp2_with (go_at_call 25; refine HF.out.mono ?_; rintro e w1 ⟨rfl, hg⟩; have HG := hide hg; clear hg)
  go_ret2
  exact ⟨rfl, grown_trans HG.out (grown_trans (alloc_g _ _) (alloc_g _ _))⟩
set_option maxHeartbeats 1000000 in
theorem del_nil (w : World) (n : List UInt8) (hm : n.length ≤ maxLen) :
    Calls Tryd.prog 12 #[.pointer none, .string (bs n)] w fun e w' => e = .returned (.bool false) ∧ w.grownBy w' none := by
  obtain ⟨Z, hZ⟩ : ∃ Z, padV [] = Z := ⟨_, rfl⟩
  have hpz : Z.size = 24 := by rw [← hZ]; exact padV_size (by simp)
  have b0' : (⟨#[]⟩ : ByteArray) = bs [] := rfl
  rw [padV_nil] at hZ
  have HF := hide (find_nil w n hm)
  have hps := padV_size (kk_len n)
  have hp1 := padV_one (kkV n)
  generalize padV (kkV n) = K at HF hps hp1
  have hsc := fun (W : World) (o : Obj) => stores_mid W (Z := Z) (K := K) o hpz hps hp1
  clear hp1 hm
  go_enter Tryd.func12, Tryd.ntmps12
  go_wp2_with (go_at_call 25; refine HF.out.mono ?_; rintro e w1 ⟨rfl, hg⟩; have HG := hide hg; clear hg)
  go_ret
  exact ⟨rfl, grown_trans HG.out (grown_trans (alloc_g _ _) (alloc_g _ _))⟩
/- How long a slice is. -/
theorem own_len {w : World} {base n : Nat} {e : TypeId} {v : Value} {xs : List Value} (h : w.ownsRow base e 1 v n xs) : ∃ a c, v = .slice a n c := by
  rcases h.2 with ⟨rfl, rfl⟩ | ⟨g, cap, cur, rfl, _⟩
  · exact ⟨none, 0, rfl⟩
  · exact ⟨_, cap, rfl⟩
end Go.Proofs.YtaekljpijnkjoaaDoor.St
