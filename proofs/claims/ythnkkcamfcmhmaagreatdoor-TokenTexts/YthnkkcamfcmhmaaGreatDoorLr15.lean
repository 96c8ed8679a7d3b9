/-
  The document's own tokens (package spinetref09): Text.
-/
import Derived.Test.YthnkkcamfcmhmaaGreatDoorLr14
namespace Go.Proofs.YthnkkcamfcmhmaaGreatDoor.Lx
open Go.RowKit Go.Proofs.YthnkkcamfcmhmaaGreatDoor.Tx
set_option linter.unusedVariables false
set_option linter.unusedSimpArgs false
set_option maxRecDepth 100000

theorem take_all {ts : List Tk} {i : Nat} {x : Tk} (hx : ts[i]? = some x) (h : ∀ t ∈ ts.take i, goodT t = true) (hg : goodT x = true) : ∀ t ∈ ts.take (i + 1), goodT t = true := by
  obtain ⟨hi, rfl⟩ := List.getElem?_eq_some_iff.1 hx
  rw [List.take_succ_eq_append_getElem hi]
  intro t ht
  rcases List.mem_append.1 ht with h' | h'
  · exact h t h'
  · have : t = ts[i] := by simpa using h'
    rw [this]; exact hg
theorem row_g {w W W1 : World} {v : Value} {n : Nat} {xs : List Value} (h : w.grownBy W none) (hl : ∀ k, v.ownBlock = some k → w.heap.size ≤ k) (hg : W.grownBy W1 v.ownBlock) : w.grownBy W1 none :=
  h.andThen hg (fun j hj => .inl (hl j hj))
theorem textT_many {ts : List Tk} (h : 6000 < ts.length) : textT ts = ([], 3) := by unfold textT; rw [if_pos h]
theorem textT_bad {ts : List Tk} {i : Nat} {x : Tk} (h : ¬ 6000 < ts.length) (hx : ts[i]? = some x) (hg : goodT x = false) : textT ts = ([], 1) := by
  unfold textT
  rw [if_neg h, if_neg]
  intro ha
  obtain ⟨hi, rfl⟩ := List.getElem?_eq_some_iff.1 hx
  have := List.all_eq_true.1 ha _ (List.getElem_mem hi)
  rw [hg] at this
  cases this
theorem textT_good {ts : List Tk} (h : ¬ 6000 < ts.length) (ha : ∀ t ∈ ts, goodT t = true) : textT ts = if 16384 < (joinT ts).length then ([], 2) else (joinT ts, 0) := by
  unfold textT
  rw [if_neg h, if_pos (List.all_eq_true.2 ha)]
theorem join_first {ts : List Tk} {m : Nat} {x : Tk} (h : m = 0) (hx : ts[m]? = some x) : joinT (ts.take (m + 1)) = oneS x := by
  subst h
  cases ts with
  | nil => simp at hx
  | cons u us =>
    have : u = x := by simpa using hx
    subst this
    simp [joinT]
theorem join_next {ts : List Tk} {m : Nat} {x : Tk} (h : m ≠ 0) (hx : ts[m]? = some x) : joinT (ts.take (m + 1)) = (joinT (ts.take m) ++ [32]) ++ oneS x := by
  obtain ⟨hi, rfl⟩ := List.getElem?_eq_some_iff.1 hx
  rw [List.take_succ_eq_append_getElem hi, joinT_snoc]
  intro e
  have := congrArg List.length e
  rw [List.length_take, List.length_nil] at this
  omega
set_option maxHeartbeats 4000000 in
theorem text_at (w : World) (o : Option Addr) (cp : Nat) (ts : List Tk) (hl : ts.length ≤ 9223372036854775807) (ht : ∀ t ∈ ts, t.t.length ≤ 9223372036854775807) (h1 : TkS w o ts) :
    Calls Tryz.prog 7 #[.slice o ts.length cp] w fun e w' => e = .returned (.tuple #[.string (bs (textT ts).1), .int .i64 (textT ts).2]) ∧ w.grownBy w' none := by
  have H1 := hide h1
  have HT := hide ht
  have hl' : (ts.length : Int) ≤ 9223372036854775807 := by omega
  clear h1 ht hl
  by_cases h6 : 6000 < ts.length
  · have HE := hide (textT_many h6)
    have k1 : (6000 : Int) < ts.length := by omega
    go_enter Tryz.func7, Tryz.ntmps7
    go_wp2
    go_ret2
    refine ⟨?_, ⟨rfl, rfl, rfl, Nat.le_refl _, fun _ _ _ => rfl⟩⟩
    rw [HE.out]
    rfl
  have H6 := hide h6
  have k1 : ¬ (6000 : Int) < ts.length := by omega
  have k2 : (ts.length : Int) ≤ 6000 := by omega
  clear h6 hl'
  go_enter Tryz.func7, Tryz.ntmps7
  go_wp2
  go_loopw [4] (fun iv W => ∃ i : Nat, i ≤ ts.length ∧ iv = .int .i64 i ∧ Hid (∀ t ∈ ts.take i, goodT t = true) ∧ Hid (w.grownBy W none)) (fun iv _ => ts.length - (intOf iv).toNat)
  case atStart => exact ⟨0, Nat.zero_le _, rfl, hide (by simp), hide ⟨rfl, rfl, rfl, Nat.le_refl _, fun _ _ _ => rfl⟩⟩
  case round =>
    obtain ⟨i, hi, rfl, HA, HG⟩ := hrel
    by_cases hlt : i < ts.length
    · have j1 : (i : Int) < ts.length := by omega
      obtain ⟨A1, rfl⟩ : ∃ ad, o = some ad := by
        cases o with
        | none => have := H1.out.nil' rfl; omega
        | some ad => exact ⟨ad, rfl⟩
      obtain ⟨P, hP⟩ : ∃ P, A1.add (i * 4) = P := ⟨_, rfl⟩
      have t1 := (H1.out.at' A1 rfl i hlt).kept HG.out
      rw [hP] at t1
      obtain ⟨x, hx⟩ : ∃ x, ts[i] = x := ⟨_, rfl⟩
      rw [hx] at t1
      have HX := hide (show ts[i]? = some x by rw [List.getElem?_eq_getElem hlt, hx])
      have HGd := hide (fun W => good_at x W (by rw [← hx]; exact HT.out _ (List.getElem_mem hlt)))
      unfold aggT at HGd
      obtain ⟨x0, x1, x2, x3⟩ := four_of' t1
      clear t1 hx
      cases hg : goodT x
      · rw [hg] at HGd
        have HE := hide (textT_bad H6.out HX.out hg)
        clear hg
        go_wp2_with (go_at_call 16; refine (HGd.out _).mono ?_; rintro e wk ⟨rfl, hk⟩; have GK := hide (grown_trans HG.out hk); clear hk)
        go_ret2
        refine ⟨?_, GK.out⟩
        rw [HE.out]
        rfl
      · rw [hg] at HGd
        have HN := hide (take_all HX.out HA.out hg)
        clear hg
        go_wp2_with (go_at_call 16; refine (HGd.out _).mono ?_; rintro e wk ⟨rfl, hk⟩; have GK := hide (grown_trans HG.out hk); clear hk)
        go_roundw
        case rel => exact ⟨i + 1, by omega, by go_num, HN, GK⟩
        case measure => simp [intOf]; omega
    · have j1 : ¬ (i : Int) < ts.length := by omega
      have HAl := hide (show ∀ t ∈ ts, goodT t = true by have := HA.out; rwa [List.take_of_length_le (by omega)] at this)
      have HE := hide (textT_good H6.out HAl.out)
      clear HA
      go_wp2
      go_loopw [5, 6] (fun bv iv W => ∃ (v : Value) (m : Nat), m ≤ ts.length ∧ bv = v ∧ iv = .int .i64 m ∧ Hid (W.ownsRow w.heap.size 5 1 v (joinT (ts.take m)).length ((joinT (ts.take m)).map b8)) ∧ Hid (w.grownBy W none)) (fun _ iv _ => ts.length - (intOf iv).toNat)
      case atStart => exact ⟨.slice none 0 0, 0, Nat.zero_le _, rfl, rfl, hide ⟨rfl, .inl ⟨rfl, rfl⟩⟩, HG⟩
      case round =>
        obtain ⟨v, m, hm, rfl, rfl, HO, HG2⟩ := hrel
        obtain ⟨da, dc, hv⟩ := own_shape1 HO.out
        subst hv
        have hLn := joinT_len (ts.take m) (fun t h => HAl.out t (List.mem_of_mem_take h))
        rw [List.length_take] at hLn
        obtain ⟨J, hJ⟩ : ∃ J, joinT (ts.take m) = J := ⟨_, rfl⟩
        rw [hJ] at hLn HO ⊢
        have lJ : J.length ≤ 500000 := by omega
        have lJ' : (J.length : Int) ≤ 500000 := by omega
        by_cases hlt2 : m < ts.length
        · have j2 : (m : Int) < ts.length := by omega
          obtain ⟨A1, rfl⟩ : ∃ ad, o = some ad := by
            cases o with
            | none => have := H1.out.nil' rfl; omega
            | some ad => exact ⟨ad, rfl⟩
          obtain ⟨P, hP⟩ : ∃ P, A1.add (m * 4) = P := ⟨_, rfl⟩
          have t1 := H1.out.at' A1 rfl m hlt2
          rw [hP] at t1
          obtain ⟨x, hx⟩ : ∃ x, ts[m] = x := ⟨_, rfl⟩
          rw [hx] at t1
          have HX := hide (show ts[m]? = some x by rw [List.getElem?_eq_getElem hlt2, hx])
          have hgx : goodT x = true := by rw [← hx]; exact HAl.out _ (List.getElem_mem hlt2)
          have HOn := hide (fun W => One_at x W hgx)
          have lS := oneS_len hgx
          unfold aggT at HOn
          have HT1 := hide t1
          clear t1 hx hgx
          by_cases hm0 : m = 0
          · have HJ := hide (show joinT (ts.take (m + 1)) = J ++ oneS x by rw [join_first hm0 HX.out, ← hJ, hm0]; rfl)
            have m0 : ¬ (0 : Int) < m := by omega
            obtain ⟨x0, x1, x2, x3⟩ := four_of' (HT1.out.kept HG2.out)
            clear hm0 hJ hLn
            go_wp2_with (first
              | (go_at_call 17; refine (HOn.out _).mono ?_; rintro e wk ⟨rfl, hk⟩; have GK := hide (grown_trans HG2.out hk); have OK := hide (HO.out.kept hk (none_or _)); clear hk)
              | (at_builtin; refine wp_apps8 rfl _ _ rfl w.heap.size (.slice da J.length dc) J (oneS x) rfl OK.out rfl (by omega) GK.out.size ?_; intro d1 n1 p1 w3 h1 h3; have O3 := hide h1; have G3 := hide (GK.out.andThen h3 (fun j hj => .inl (OK.out.lt j hj).1)); clear h1 h3))
            go_roundw
            case rel => exact ⟨_, m + 1, by omega, rfl, by go_num, by rw [HJ.out]; exact O3, G3⟩
            case measure => simp [intOf]; omega
          · have HJ := hide (show joinT (ts.take (m + 1)) = (J ++ [32]) ++ oneS x by rw [join_next hm0 HX.out, hJ])
            have m0 : (0 : Int) < m := by omega
            have lJ2 : (J ++ [32]).length ≤ 600000 := by simp; omega
            clear hm0 hJ hLn
            go_wp2_with (first
              | (go_at_call 17; refine (HOn.out _).mono ?_; rintro e wk ⟨rfl, hk⟩; have GK := hide (grown_trans G2.out hk); have OK := hide (O2.out.kept hk (none_or _)); clear hk)
              | (at_builtin; refine wp_app8 rfl _ _ rfl w.heap.size (.slice da J.length dc) J rfl (HO.out.alloc _) _ 32 rfl (cell_one _ (b8 32) _) (by omega) (by have := HG2.out.size; simp; omega) ?_; intro d2 n2 p2 w2 h1 h3; have O2 := hide h1; have G2 := hide ((grown_trans HG2.out (alloc_g _ _)).andThen h3 (fun j hj => .inl (HO.out.lt j hj).1)); obtain ⟨x0, x1, x2, x3⟩ := four_of' (HT1.out.kept G2.out); clear h1 h3)
              | (at_builtin; refine wp_apps8 rfl _ _ rfl w.heap.size (.slice d2 n2 p2) (J ++ [32]) (oneS x) rfl OK.out rfl (by omega) GK.out.size ?_; intro d1 n1 p1 w3 h1 h3; have O3 := hide h1; have G3 := hide (GK.out.andThen h3 (fun j hj => .inl (OK.out.lt j hj).1)); clear h1 h3))
            go_roundw
            case rel => exact ⟨_, m + 1, by omega, rfl, by go_num, by rw [HJ.out]; exact O3, G3⟩
            case measure => simp [intOf]; omega
        · have j2 : ¬ (m : Int) < ts.length := by omega
          rw [List.take_of_length_le (by omega)] at hJ
          rw [hJ] at HE
          have hcv := conv_own HO.out
          clear hJ hLn
          by_cases h16 : 16384 < J.length
          · have i16 : (16384 : Int) < J.length := by omega
            rw [if_pos h16] at HE
            go_wp2
            go_ret2
            refine ⟨?_, HG2.out⟩
            rw [HE.out]
            rfl
          · have i16 : ¬ (16384 : Int) < J.length := by omega
            rw [if_neg h16] at HE
            go_wp2
            go_ret2
            refine ⟨?_, HG2.out⟩
            rw [HE.out]
            rfl
end Go.Proofs.YthnkkcamfcmhmaaGreatDoor.Lx
