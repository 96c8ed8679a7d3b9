/-
  The document's own Names; two lists of texts held against each other.
-/
import Derived.Test.YtaekljpijnkjoaaDoorRf6
namespace Go.Proofs.YtaekljpijnkjoaaDoor.St
open Go.RowKit Go.Maps Go.Proofs.YtaekljpijnkjoaaDoor.Tx
set_option linter.unusedVariables false
set_option linter.unusedSimpArgs false
set_option maxRecDepth 100000

/- A whole row as a source. -/
theorem own_src {w : World} {B n : Nat} {v : Value} {xs : List Value} (h : w.ownsRow B 9 1 v n xs) : Srs w v xs := by
  have hl : xs.length = n := by have := h.1; omega
  rcases h.2 with ⟨rfl, h0⟩ | ⟨g, cap, cur, rfl, r⟩
  · exact .inl ⟨rfl, List.eq_nil_of_length_eq_zero (by omega)⟩
  · exact part_src (o := 0) h hl (fun j y hj => by rw [Nat.zero_add]; exact hj)
set_option maxHeartbeats 2000000 in
theorem rnames_at {w : World} {B q : Nat} {vN vT : Value} {l : List Pr} (r : Rs w B q vN vT l) (hl : l.length ≤ 64) :
    Calls Tryd.prog 14 #[.pointer (some ⟨q, 0, none⟩)] w fun e w' => ∃ v, e = .returned v ∧ w.grownBy w' none ∧ w'.ownsRow w.heap.size 9 1 v l.length (l.map nmV) := by
  have hc0 := r.c0
  have HS := hide (own_src r.nm)
  have HO := hide (nmV_one l)
  have HL := hide hl
  have hql := r.lt
  clear r hl
  go_enter Tryd.func14, Tryd.ntmps14
  go_wp2_with (at_builtin; refine wpList_plain rfl (fun K hK => wp_app (.tmp 5) (.tmp 9) rfl w.heap.size (.slice (some ⟨w.heap.size, 0, none⟩) 0 0) 0 [] rfl (empty_row w) vN (l.map nmV) rfl (HS.out.grown (alloc_g w (.cells #[] 9))) HO.out (by have := HL.out; simp; omega) (alloc_g w (.cells #[] 9)).size (fun d c w1 h1 h2 => hK _ _ ?_)); simp only [List.length_map, Nat.zero_add, List.nil_append] at h1 ⊢; have H1 := hide h1; have G1 := hide (new_row (alloc_g w (.cells #[] 9)) (empty_row w) h2); clear h1 h2)
  go_ret
  exact ⟨_, rfl, G1.out, H1.out⟩
/- A slice of strings: its shape, and what stands at a place. -/
theorem Srs.shape {w : World} {u : Value} {ys : List Value} (h : Srs w u ys) : ∃ d c, u = .slice d ys.length c := by
  rcases h with ⟨rfl, rfl⟩ | ⟨g, o, c, rfl, _⟩
  · exact ⟨none, 0, rfl⟩
  · exact ⟨_, c, rfl⟩
set_option maxHeartbeats 2000000 in
theorem texts_same {w : World} {u v : Value} {ns : List (List UInt8)} (hu : Srs w u (ns.map fun s => .string (bs s))) (hv : Srs w v (ns.map fun s => .string (bs s))) (hl : ns.length ≤ 1000) :
    Calls Tryd.prog 17 #[u, v] w fun e w' => e = .returned (.bool true) ∧ w.grownBy w' none := by
  cases ns with
  | nil =>
    obtain ⟨d, c, rfl⟩ := hu.shape
    obtain ⟨d', c', rfl⟩ := hv.shape
    clear hu hv
    go_enter Tryd.func17, Tryd.ntmps17
    go_wp2
    go_loop [5] (fun iv => iv = .int .i64 0) (fun iv => 0)
    case atStart => rfl
    case round =>
      subst hrel
      go_wp2
      go_ret
      exact ⟨rfl, ⟨rfl, rfl, rfl, Nat.le_refl _, fun _ _ _ => rfl⟩⟩
  | cons s0 ns0 =>
    obtain ⟨ns, hns⟩ : ∃ ns, ns = s0 :: ns0 := ⟨_, rfl⟩
    rw [← hns] at hu hv hl
    rcases hu with ⟨_, h0⟩ | ⟨g, o, c, rfl, hc⟩
    · rw [hns] at h0; cases h0
    · rcases hv with ⟨_, h0⟩ | ⟨g', o', c', rfl, hc'⟩
      · rw [hns] at h0; cases h0
      · have HC := hide hc
        have HC' := hide hc'
        obtain ⟨N, hN⟩ : ∃ N, ns.length = N := ⟨_, rfl⟩
        have HN := hide hN
        rw [List.length_map, hN]
        rw [hN] at hl
        have hN1 : (N : Int) ≤ 1000 := by omega
        clear hc hc' hns hN
        go_enter Tryd.func17, Tryd.ntmps17
        go_wp2
        go_loopw [5] (fun iv W => ∃ i : Nat, i ≤ N ∧ iv = .int .i64 i ∧ Hid (w.grownBy W none)) (fun iv _ => N - (intOf iv).toNat)
        case atStart => exact ⟨0, by omega, rfl, ⟨rfl, rfl, rfl, Nat.le_refl _, fun _ _ _ => rfl⟩⟩
        case round =>
          obtain ⟨i, hi, rfl, hG⟩ := hrel
          by_cases hiN : i < N
          · obtain ⟨s, hs⟩ : ∃ s, ns[i]? = some s := ⟨_, List.getElem?_eq_getElem (by rw [HN.out]; exact hiN)⟩
            have c1 := HC.out i (.string (bs s)) (by simp [hs])
            have c2 := HC'.out i (.string (bs s)) (by simp [hs])
            have e1 : wr.cell? ⟨g, o + i, none⟩ = some (.string (bs s)) := by rw [← c1]; simp only [World.cell?, hG.out.block g (World.block_lt_of_cell? w _ c1) (by simp)]
            have e2 : wr.cell? ⟨g', o' + i, none⟩ = some (.string (bs s)) := by rw [← c2]; simp only [World.cell?, hG.out.block g' (World.block_lt_of_cell? w _ c2) (by simp)]
            clear c1 c2 hs
            go_wp2
            go_quiet (fail)
            go_wp2
            exact ⟨⟨i + 1, by omega, by go_num, hide (grown_trans hG.out ⟨rfl, rfl, rfl, Nat.le_refl _, fun _ _ _ => rfl⟩)⟩, by simp [intOf]; omega⟩
          · obtain rfl : i = N := by omega
            go_wp2
            go_ret
            exact ⟨rfl, hG.out⟩
end Go.Proofs.YtaekljpijnkjoaaDoor.St
