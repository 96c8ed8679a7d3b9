/-
  Package asm: all names are told.
-/
import Derived.Test.YtjeogojgabfbiaaGreatDoorNm2
namespace Go.Proofs.YtjeogojgabfbiaaGreatDoor.Asm
open Go.RowKit Go.Maps Go.Proofs.YtjeogojgabfbiaaGreatDoor.Bits Go.Proofs.YtjeogojgabfbiaaGreatDoor.Gw Go.Proofs.YtjeogojgabfbiaaGreatDoor.Risc Go.Proofs.YtjeogojgabfbiaaGreatDoor.Tx Go.Proofs.YtjeogojgabfbiaaGreatDoor.Mp
set_option linter.unusedVariables false
set_option linter.unusedSimpArgs false
set_option maxRecDepth 100000

abbrev kv (k : K4) : Value := kd k.1 k.2.1 k.2.2.1 k.2.2.2
abbrev enN (k : K4) : Value × Value := (kv k, spv (bs (nmK k)) (rgT k))
abbrev enK (k : K4) : Value × Value := (spv (bs (nmK k)) (rgT k), kv k)
def opsC : Array Value := (opNs.map fun l => Value.string (bs l)).toArray
def cdsC : Array Value := (cdNs.map fun l => Value.string (bs l)).toArray
structure Nms (w : World) : Prop where
  size : 21 ≤ w.heap.size
  ops : ∃ t fr, w.heap[0]? = some (.cells opsC t fr)
  conds : ∃ t fr, w.heap[1]? = some (.cells cdsC t fr)
theorem idx_ops (k : Nat) (h : k < 12) (w : World) : (Instr.index 117 (.agg opsC) (.int .i64 k)).run Tryz.prog w = .ok (.string (bs (nm opNs k))) w := by
  have : k = 0 ∨ k = 1 ∨ k = 2 ∨ k = 3 ∨ k = 4 ∨ k = 5 ∨ k = 6 ∨ k = 7 ∨ k = 8 ∨ k = 9 ∨ k = 10 ∨ k = 11 := by omega
  rcases this with h | h | h | h | h | h | h | h | h | h | h | h <;> subst h <;> rfl
theorem idx_cds (k : Nat) (h : k < 16) (w : World) : (Instr.index 118 (.agg cdsC) (.int .i64 k)).run Tryz.prog w = .ok (.string (bs (nm cdNs k))) w := by
  have : k = 0 ∨ k = 1 ∨ k = 2 ∨ k = 3 ∨ k = 4 ∨ k = 5 ∨ k = 6 ∨ k = 7 ∨ k = 8 ∨ k = 9 ∨ k = 10 ∨ k = 11 ∨ k = 12 ∨ k = 13 ∨ k = 14 ∨ k = 15 := by omega
  rcases this with h | h | h | h | h | h | h | h | h | h | h | h | h | h | h | h <;> subst h <;> rfl
structure Inv (K : TypeId) (w : World) (b : Nat) (W : World) (l : List (Value × Value)) : Prop where
  g : w.grownBy W (some b)
  m : MapL Tryz.prog K W b l
theorem gcellb {w w' : World} {b : Nat} (h : w.grownBy w' (some b)) {k : Nat} (hk : k ≠ b) (hlt : k < w.heap.size) (o : Nat) : w'.cell? ⟨k, o, none⟩ = w.cell? ⟨k, o, none⟩ := by
  have := h.block k hlt (by simp [hk])
  simp [World.cell?, this]
theorem wf0 : (Lit.int .i64 0).wf = true := by decide
theorem wf_small {n : Int} (h0 : 0 ≤ n) (h1 : n ≤ 1000) : (Lit.int .i64 n).wf = true := WalkArith.wf_i64 (by omega)
theorem nmK_0 (j : Nat) (u v : Bool) : nmK (0, (j : Int), u, v) = nm opNs j ++ (mkU u ++ mkV v) := by simp [nmK]
theorem nmK_1 (j : Nat) (u v : Bool) : nmK (1, (j : Int), u, v) = nm opNs j ++ (mkU u ++ mkV v) := by simp [nmK]
theorem nmK_2 (u v : Bool) : nmK (2, 0, u, v) = memN u v := by simp [nmK]
theorem nmK_3 (j : Nat) (u v : Bool) : nmK (3, (j : Int), u, v) = jmpN v ++ nm cdNs j := by simp [nmK, jmpN]
theorem add_bs (a b : List UInt8) (h : a.length + b.length ≤ 1000000) (W : World) : (Op.stringOp .add (bs a) (bs b)).run Tryz.prog W = .ok (.string (bs (a ++ b))) W := by
  rw [run_string_add_sum W _ _ (by rw [bs_size, bs_size]; omega), bs_append]
theorem mk_len (u v : Bool) : (mkU u ++ mkV v).length ≤ 2 := by unfold mkU mkV; split <;> split <;> simp
theorem jmp_len (v : Bool) : (jmpN v).length ≤ 3 := by unfold jmpN; split <;> simp
theorem tellN {w W : World} {b c : Nat} {l : List (Value × Value)} (f op : Int) (u v : Bool) (s : ByteArray) (f0 : 0 ≤ f ∧ f ≤ 3) (o0 : 0 ≤ op ∧ op ≤ 15) (hl : l.length < 1000000) (hlt : c < w.heap.size) (hcb : c ≠ b)
    (hc : w.cell? ⟨c, 0, none⟩ = some (.map (some b))) (I : Inv 83 w b W l) :
    Calls Tryz.prog 44 #[kd f op u v, .string s, .pointer (some ⟨c, 0, none⟩)] W fun e w' => e = .returned (.tuple #[]) ∧ Inv 83 w b w' (l ++ [(kd f op u v, spv s (rgK4 f u))]) :=
  (names1 f op u v s (wf_small f0.1 (by omega)) (wf_small o0.1 (by omega)) W hl ((gcellb I.g hcb hlt 0).trans hc) (Nat.lt_of_lt_of_le hlt I.g.size) I.m).mono fun e w' ⟨h1, h2, h3⟩ => ⟨h1, grown_trans I.g h2, h3⟩
theorem tellK {w W : World} {b c : Nat} {l : List (Value × Value)} (f op : Int) (u v : Bool) (s : ByteArray) (hs : s.size ≤ maxLen) (hl : l.length < 1000000) (hlt : c < w.heap.size) (hcb : c ≠ b)
    (hc : w.cell? ⟨c, 0, none⟩ = some (.map (some b))) (I : Inv 81 w b W l) :
    Calls Tryz.prog 54 #[kd f op u v, .string s, .pointer (some ⟨c, 0, none⟩)] W fun e w' => e = .returned (.tuple #[]) ∧ Inv 81 w b w' (l ++ [(spv s (rgK4 f u), kd f op u v)]) :=
  (kinds1 f op u v s hs W hl ((gcellb I.g hcb hlt 0).trans hc) (Nat.lt_of_lt_of_le hlt I.g.size) I.m).mono fun e w' ⟨h1, h2, h3⟩ => ⟨h1, grown_trans I.g h2, h3⟩
set_option maxHeartbeats 4000000 in
theorem each_names {b c : Nat} (w : World) (hN : Nms w) (hb : 21 ≤ b) (hlt : c < w.heap.size) (hcb : c ≠ b)
    (hc : w.cell? ⟨c, 0, none⟩ = some (.map (some b))) (hm : MapL Tryz.prog 83 w b []) :
    Calls Tryz.prog 43 #[.func (.func 44) #[] #[.pointer (some ⟨c, 0, none⟩)]] w fun e w' => e = .returned (.tuple #[]) ∧ w.grownBy w' (some b) ∧ MapL Tryz.prog 83 w' b ((tab 4).map enN) := by
  have HC := hide hc
  have HM := hide hm
  have HCB := hide hcb
  have HLT := hide hlt
  have HN := hide hN
  clear hc hm hcb hlt hN
  go_enter Tryz.func43, Tryz.ntmps43
  go_wp2
  go_loopw [9] (fun i W => ∃ n : Nat, n ≤ 4 ∧ i = .int .i64 n ∧ Inv 83 w b W ((tab n).map enN)) (fun i _ => 4 - (intOf i).toNat)
  case atStart => exact ⟨0, by decide, rfl, ⟨rfl, rfl, rfl, Nat.le_refl _, fun _ _ _ => rfl⟩, HM.out⟩
  case round =>
    obtain ⟨n, hn, rfl, I0⟩ := hrel
    by_cases hn4 : n < 4
    · have h4 : n = 0 ∨ n = 1 ∨ n = 2 ∨ n = 3 := by omega
      have hlen : ((tab n).map enN).length < 1000 := by rw [List.length_map, tab_len]; omega
      obtain ⟨l0, hl0⟩ : ∃ l0, (tab n).map enN = l0 := ⟨_, rfl⟩
      have HL0 := hide hl0
      rw [hl0] at I0 hlen
      clear hl0
      have hu : (bits BinOp.and IntKind.i64 (n : Int) 1 != 0) = uM n := by rcases h4 with rfl | rfl | rfl | rfl <;> decide
      have hv : (bits BinOp.and IntKind.i64 (n : Int) 2 != 0) = vM n := by rcases h4 with rfl | rfl | rfl | rfl <;> decide
      clear h4
      obtain ⟨u, hu'⟩ : ∃ u, uM n = u := ⟨_, rfl⟩
      obtain ⟨v, hv'⟩ : ∃ v, vM n = v := ⟨_, rfl⟩
      have HU := hide hu'
      have HV := hide hv'
      rw [hu'] at hu
      rw [hv'] at hv
      clear hu' hv'
      go_wp2_with fail
      refine (memn_any _ _ _).mono ?_
      rintro e w1 ⟨rfl, rfl⟩
      go_wp2_with fail
      refine (tellN 2 0 u v (bs (memN u v)) (by decide) (by decide) (by omega) HLT.out HCB.out HC.out I0).mono ?_
      rintro e w2 ⟨rfl, I1⟩
      rw [← nmK_2 u v] at I1
      obtain ⟨to, fo, ho⟩ := HN.out.ops
      have ho1 : w2.heap[0]? = some (.cells opsC to fo) := (I1.g.block _ (by have := HN.out.size; omega) (by simp; omega)).trans ho
      have HO := hide ho1
      clear ho ho1
      obtain ⟨l1, hl1⟩ : ∃ l1, l0 ++ [(kd 2 0 u v, spv (bs (nmK (2, 0, u, v))) (rgK4 2 u))] = l1 := ⟨_, rfl⟩
      have hlen1 : l1.length < 1002 := by rw [← hl1]; simp; omega
      have HL1 := hide hl1
      rw [hl1] at I1
      clear hl1
      go_wp2_with (refine wpList_load_row rfl 117 (.global 0) rfl 0 rfl _ _ _ _ HO.out Tryz.underlying117 rfl (by kernel_rfl) ?_)
      go_loopw [27] (fun i W => ∃ j : Nat, j ≤ 12 ∧ i = .int .i64 j ∧ Inv 83 w b W (l1 ++ (tabO u v j).map enN)) (fun i _ => 12 - (intOf i).toNat)
      case atStart => exact ⟨0, by decide, rfl, by simpa [tabO] using I1⟩
      case round =>
        obtain ⟨j, hj, rfl, J0⟩ := hrel
        by_cases hj12 : j < 12
        · have hidx := idx_ops j hj12
          obtain ⟨nj, hnj⟩ : ∃ nj, nm opNs j = nj := ⟨_, rfl⟩
          have hnl : nj.length ≤ 3 := by rw [← hnj]; exact opNs_len j
          have hadd := add_bs nj (mkU u ++ mkV v) (by have := mk_len u v; omega)
          have HNJ := hide hnj
          rw [hnj] at hidx
          clear hnj
          have hjl : (l1 ++ (tabO u v j).map enN).length < 2000 := by rw [List.length_append, List.length_map, tabO_len]; omega
          go_wp2_with fail
          refine (mark_any _ _ _).mono ?_
          rintro e w3 ⟨rfl, rfl⟩
          go_wp2_with fail
          refine (tellN 0 j u v (bs (nj ++ (mkU u ++ mkV v))) (by decide) (by omega) (by omega) HLT.out HCB.out HC.out J0).mono ?_
          rintro e w4 ⟨rfl, J1⟩
          go_wp2_with fail
          refine (tellN 1 j u v (bs (nj ++ (mkU u ++ mkV v))) (by decide) (by omega) (by simp at hjl ⊢; omega) HLT.out HCB.out HC.out J1).mono ?_
          rintro e w5 ⟨rfl, J2⟩
          go_wp2
          go_roundw
          case rel =>
            refine ⟨j + 1, by omega, by go_num, ?_⟩
            rw [← HNJ.out] at J2
            rw [tabO_succ, List.map_append, List.map_append, ← List.append_assoc, ← List.append_assoc]
            have E0 : ([((0 : Int), (j : Int), u, v)] : List K4).map enN = [(kd 0 j u v, spv (bs (nm opNs j ++ (mkU u ++ mkV v))) (rgK4 0 u))] := by simp [enN, nmK_0, rgT, rgK4]
            have E1 : ([((1 : Int), (j : Int), u, v)] : List K4).map enN = [(kd 1 j u v, spv (bs (nm opNs j ++ (mkU u ++ mkV v))) (rgK4 1 u))] := by simp [enN, nmK_1, rgT, rgK4]
            rw [E0, E1]
            exact J2
          case measure => simp [intOf]; omega
        · obtain rfl : j = 12 := by omega
          obtain ⟨tc, fc, hcn⟩ := HN.out.conds
          have HO2 := hide ((J0.g.block _ (by have := HN.out.size; omega) (by simp; omega)).trans hcn)
          clear hcn
          go_wp2_with (refine wpList_load_row rfl 118 (.global 1) rfl 1 rfl _ _ _ _ HO2.out Tryz.underlying118 rfl (by kernel_rfl) ?_)
          obtain ⟨l2, hl2⟩ : ∃ l2, l1 ++ (tabO u v 12).map enN = l2 := ⟨_, rfl⟩
          have hlen2 : l2.length < 2000 := by rw [← hl2, List.length_append, List.length_map, tabO_len]; omega
          have HL2 := hide hl2
          rw [hl2] at J0
          clear hl2
          go_loopw [52] (fun i W => ∃ j : Nat, j ≤ 16 ∧ i = .int .i64 j ∧ Inv 83 w b W (l2 ++ (tabC u v j).map enN)) (fun i _ => 16 - (intOf i).toNat)
          case atStart => exact ⟨0, by decide, rfl, by simpa [tabC] using J0⟩
          case round =>
            obtain ⟨j, hj, rfl, C0⟩ := hrel
            by_cases hj16 : j < 16
            · have hidx := idx_cds j hj16
              obtain ⟨nj, hnj⟩ : ∃ nj, nm cdNs j = nj := ⟨_, rfl⟩
              have hnl : nj.length ≤ 2 := by rw [← hnj]; exact cdNs_len j
              have hadd := add_bs (jmpN v) nj (by have := jmp_len v; omega)
              have HNJ := hide hnj
              rw [hnj] at hidx
              clear hnj
              have hjl : (l2 ++ (tabC u v j).map enN).length < 3000 := by rw [List.length_append, List.length_map, tabC_len]; omega
              go_wp2_with fail
              refine (jump_any _ _).mono ?_
              rintro e w3 ⟨rfl, rfl⟩
              go_wp2_with fail
              refine (tellN 3 j u v (bs (jmpN v ++ nj)) (by decide) (by omega) (by omega) HLT.out HCB.out HC.out C0).mono ?_
              rintro e w4 ⟨rfl, C1⟩
              go_wp2
              go_roundw
              case rel =>
                refine ⟨j + 1, by omega, by go_num, ?_⟩
                rw [← HNJ.out] at C1
                rw [tabC_succ, List.map_append, ← List.append_assoc]
                have E0 : ([((3 : Int), (j : Int), u, v)] : List K4).map enN = [(kd 3 j u v, spv (bs (jmpN v ++ nm cdNs j)) (rgK4 3 u))] := by simp [enN, nmK_3, rgT, rgK4]
                rw [E0]
                exact C1
              case measure => simp [intOf]; omega
            · obtain rfl : j = 16 := by omega
              go_wp2
              go_roundw
              case rel =>
                refine ⟨n + 1, by omega, by go_num, ?_⟩
                have E : (tab (n + 1)).map enN = l2 ++ (tabC u v 16).map enN := by
                  rw [tab_succ, List.map_append, HL0.out, tabM, List.map_cons, List.map_append, HU.out, HV.out, ← HL2.out, ← HL1.out]
                  simp [enN, rgT, rgK4]
                rw [E]
                exact C0
              case measure => simp [intOf]; omega
    · obtain rfl : n = 4 := by omega
      go_wp2
      go_end0
      exact ⟨rfl, I0.g, I0.m⟩
end Go.Proofs.YtjeogojgabfbiaaGreatDoor.Asm
