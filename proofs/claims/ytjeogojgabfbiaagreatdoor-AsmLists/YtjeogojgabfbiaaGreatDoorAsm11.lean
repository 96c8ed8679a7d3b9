/-
  What the document's own parts does with the name of an operation.
-/
import Derived.Test.YtjeogojgabfbiaaGreatDoorAsm10
namespace Go.Proofs.YtjeogojgabfbiaaGreatDoor.Asm
open Go.RowKit Go.Proofs.YtjeogojgabfbiaaGreatDoor.Bits Go.Proofs.YtjeogojgabfbiaaGreatDoor.Gw Go.Proofs.YtjeogojgabfbiaaGreatDoor.Risc Go.Proofs.YtjeogojgabfbiaaGreatDoor.Tx
set_option linter.unusedVariables false
set_option linter.unusedSimpArgs false
set_option maxRecDepth 100000

/- A mark at a text's end, and the text without it. -/
def endB (s : List UInt8) (c : UInt8) : Bool := s.getLast? == some c
def endL (s : List UInt8) (c : UInt8) : List UInt8 := if endB s c = true then s.dropLast else s
structure En (s : List UInt8) (c : UInt8) (n : Nat) (y : Bool) (r : List UInt8) : Prop where
  len : s.length = n
  b : endB s c = y
  l : endL s c = r
  nil : n = 0 → y = false
  at' : 0 < n → ∀ h : n - 1 < (bs s).size, ((((bs s)[n - 1]'h).toNat : Int) == (c.toNat : Int)) = y
  cut : y = true → (bs s).extract 0 (n - 1) = bs r
  same : y = false → r = s
theorem En.mk' (s : List UInt8) (c : UInt8) : En s c s.length (endB s c) (endL s c) := by
  refine ⟨rfl, rfl, rfl, fun h => ?_, fun h0 h => ?_, fun h => ?_, fun h => ?_⟩
  · have : s = [] := List.eq_nil_of_length_eq_zero h
    subst this
    rfl
  · have hl : s.getLast? = some (s[s.length - 1]'h) := by
      rw [List.getLast?_eq_getElem?, List.getElem?_eq_getElem h]
    rw [bs_get, endB, hl]
    rw [Bool.eq_iff_iff]
    simp only [beq_iff_eq, Option.some.injEq]
    constructor
    · intro e; exact UInt8.toNat_inj.1 (by omega)
    · intro e; rw [e]
  · rw [endL, if_pos h, bs_ext, List.dropLast_eq_take]
    simp
  · rw [endL, if_neg (by rw [h]; decide)]
theorem own_new' (V : World) (cs : Array Value) (k : Nat) (h : V.heap.size = k) : Own (V.alloc (.cells cs 47)) k cs := by rw [← h]; exact Own.new V cs
theorem own_drew {V : World} {b : Nat} {cs : Array Value} (h : Own V b cs) : Own V.drew b cs := h
theorem own_other {V : World} {b c i : Nat} {v : Value} {cs : Array Value} (h : Own V b cs) (hc : c ≠ b) : Own (V.setCell ⟨c, i, none⟩ v) b cs := by
  unfold Own at h ⊢
  simp [World.setCell, Array.getElem?_modify, h]
  omega
theorem own_six {V : World} {b : Nat} {c0 c1 c2 c3 c4 c5 c6 c7 : Value} (h : Own V b #[c0, c1, c2, c3, c4, c5, c6, c7]) (v : Value) : Own (V.setCell ⟨b, 6, none⟩ v) b #[c0, c1, c2, c3, c4, c5, v, c7] := by
  have := h.set 6 v
  simpa using this
theorem far_set {w V : World} {b i : Nat} {v : Value} (h : w.grownBy V none) (hb : w.heap.size ≤ b) : w.grownBy (V.setCell ⟨b, i, none⟩ v) none :=
  ⟨h.os, h.tape, h.output, by simpa [World.setCell] using h.size, fun k hk hr => by rw [← h.block k hk hr]; simp [World.setCell, Array.getElem?_modify]; omega⟩
theorem own_cell {V : World} {b : Nat} {cs : Array Value} (h : Own V b cs) {j : Nat} {v : Value} (hj : cs[j]? = some v) : V.cell? ⟨b, j, none⟩ = some v := by rw [cell_of_row _ _ _ _ _ _ h]; exact hj
theorem own_fr {V : World} {b : Nat} {cs : Array Value} (h : Own V b cs) : ∀ i, V.frozen? ⟨b, i, none⟩ = false := fun i => by
  unfold Own at h
  simp [World.frozen?, h]
set_option maxHeartbeats 4000000 in
theorem parts_op (s s1 s2 : List UInt8) (n n1 : Nat) (u v : Bool) (hs : s.length ≤ 1000) (E1 : En s 34 n v s1) (E2 : En s1 39 n1 u s2) (hk : idxI meNs s = -1) (hcut : cutB s [46] = false) (w : World) :
    Calls Tryz.prog 27 #[.string (bs s)] w fun e w' => e = .returned (.tuple #[ins 0 u v 0 0 0 (idxI opNs s2) 0, .bool (decide (0 ≤ idxI opNs s2))]) ∧ w.grownBy w' none := by
  have HX := hide (index_any meNs s 4 (w.heap.size + 1) rfl (by decide) _ (me_cells w))
  rw [hk] at HX
  have b4 : (⟨#[46]⟩ : ByteArray) = bs [46] := rfl
  have HC := hide (fun W => cut_any s [46] (by omega) (by decide) (by decide) W)
  rw [hcut] at HC
  obtain ⟨q, hq⟩ : ∃ q, idxI opNs s2 = q := ⟨_, rfl⟩
  rw [hq]
  have HQ := hide hq
  have l0 : (bs s).size = n := E1.len
  have l1 : (bs s1).size = n1 := E2.len
  have N0 := E1.nil
  have N1 := E2.nil
  have A0 := E1.at'
  have A1 := E2.at'
  have C0 := E1.cut
  have C1 := E2.cut
  have S0 := E1.same
  have S1 := E2.same
  have z0 : (n : Int) ≤ 1000 := by have := E1.len; omega
  have z1 : (n1 : Int) ≤ 1000 := by
    cases v
    · rw [← E2.len, S0 rfl]; omega
    · have h2 : (bs s1).size = ((bs s).extract 0 (n - 1)).size := by rw [C0 rfl]
      rw [l1, bs_ext, bs_size] at h2
      simp at h2
      omega
  clear hq hk hcut
  have HO : Hid (Own ((w.alloc (Obj.cells #[Value.int IntKind.i64 0, Value.bool false, Value.bool false, Value.int IntKind.i64 0, Value.int IntKind.i64 0, Value.int IntKind.i64 0, Value.int IntKind.i64 0, Value.int IntKind.i64 0] 47)).alloc (Obj.cells #[Value.string ⟨#[76, 68, 82]⟩, Value.string ⟨#[76, 68, 66]⟩, Value.string ⟨#[83, 84, 82]⟩, Value.string ⟨#[83, 84, 66]⟩] 9)) w.heap.size #[Value.int IntKind.i64 0, Value.bool false, Value.bool false, Value.int IntKind.i64 0, Value.int IntKind.i64 0, Value.int IntKind.i64 0, Value.int IntKind.i64 0, Value.int IntKind.i64 0]) := hide (own_g (Own.new w #[Value.int IntKind.i64 0, Value.bool false, Value.bool false, Value.int IntKind.i64 0, Value.int IntKind.i64 0, Value.int IntKind.i64 0, Value.int IntKind.i64 0, Value.int IntKind.i64 0]) (World.grownBy_alloc _ _ _))
  have HG : Hid (w.grownBy ((w.alloc (Obj.cells #[Value.int IntKind.i64 0, Value.bool false, Value.bool false, Value.int IntKind.i64 0, Value.int IntKind.i64 0, Value.int IntKind.i64 0, Value.int IntKind.i64 0, Value.int IntKind.i64 0] 47)).alloc (Obj.cells #[Value.string ⟨#[76, 68, 82]⟩, Value.string ⟨#[76, 68, 66]⟩, Value.string ⟨#[83, 84, 82]⟩, Value.string ⟨#[83, 84, 66]⟩] 9)) none) := hide (grown_trans (World.grownBy_alloc _ _ _) (World.grownBy_alloc _ _ _))
  cases v
  · have hss := (S0 rfl).symm
    subst hss
    obtain rfl : n1 = n := by rw [← E1.len, ← E2.len]
    by_cases k0 : n1 = 0
    · subst k0
      obtain rfl := N1 rfl
      obtain rfl := S1 rfl
      clear N0 N1 A0 A1 C0 C1 S0 S1 E1 E2 l1 z1
      (go_enter Tryz.func27, Tryz.ntmps27; go_upto_region 16 with (first | (go_at_call 55; refine HX.out.mono ?_; rintro e w1 ⟨rfl, rfl⟩) | (go_at_call 26; refine (HC.out _).mono ?_; rintro e w1 ⟨rfl, n, rfl⟩)))
      (go_upto_region 17 with (first | (go_at_call 20; refine (ops_any _).mono ?_; rintro e w2 ⟨bb, rfl, hg, hb, hn⟩; have HO2 := hide (own_g (own_g HO.out (by (with_reducible repeat (first | exact World.grownBy.refl _ _ | refine grown_trans ?_ (drew_g _) | refine grown_trans ?_ (drewN_g _ _) | refine grown_trans ?_ (World.grownBy_alloc _ _ _))))) hg); have HG2 := hide (grown_trans (grown_trans HG.out (by (with_reducible repeat (first | exact World.grownBy.refl _ _ | refine grown_trans ?_ (drew_g _) | refine grown_trans ?_ (drewN_g _ _) | refine grown_trans ?_ (World.grownBy_alloc _ _ _))))) hg); (have HV2 : Hid (Own w2 (w.heap.size + 1 + 1) #[Value.int IntKind.i64 0, .bool false, .bool false, .int .i64 0, .int .i64 0, .int .i64 0, .int .i64 0, .int .i64 0]) := hide (own_g (by repeat (first | exact own_new' _ _ _ (by simp) | refine own_drew ?_)) hg)); (have HX2 := hide (index_any opNs s2 12 bb rfl (by decide) w2 (fun k h => by rw [hn k h]; simp [nm, List.getD_eq_getElem?_getD, List.getElem?_eq_getElem h]))); have y6 := own_cell HV2.out (j := 6) rfl; have yf := own_fr HV2.out; clear hg hb hn) | (go_at_call 55; refine HX2.out.mono ?_; rw [HQ.out]; rintro e w1 ⟨rfl, rfl⟩)))
      (have HV3 := hide (own_six HV2.out (.int .i64 q)); (have HO3 := hide (own_other (i := 6) (v := .int .i64 q) HO2.out (show w.heap.size + 1 + 1 ≠ w.heap.size by omega))); (have HG3 := hide (far_set (i := 6) (v := .int .i64 q) HG2.out (show w.heap.size ≤ w.heap.size + 1 + 1 by omega))); generalize w1.setCell ⟨w.heap.size + 1 + 1, 6, none⟩ (.int .i64 q) = V3 at HV3 HO3 HG3 ⊢; clear HX2 y6 yf HV2 HO2 HG2 HX HC HO HG; have x0 := own_cell HV3.out (j := 0) rfl; have x1 := own_cell HV3.out (j := 1) rfl; have x2 := own_cell HV3.out (j := 2) rfl; have x3 := own_cell HV3.out (j := 3) rfl; have x4 := own_cell HV3.out (j := 4) rfl; have x5 := own_cell HV3.out (j := 5) rfl; have x6 := own_cell HV3.out (j := 6) rfl; have x7 := own_cell HV3.out (j := 7) rfl; have r0 := own_cell HO3.out (j := 0) rfl; have r1 := own_cell HO3.out (j := 1) rfl; have r2 := own_cell HO3.out (j := 2) rfl; have r3 := own_cell HO3.out (j := 3) rfl; have r4 := own_cell HO3.out (j := 4) rfl; have r5 := own_cell HO3.out (j := 5) rfl; have r6 := own_cell HO3.out (j := 6) rfl; have r7 := own_cell HO3.out (j := 7) rfl; have rf := own_fr HO3.out; go_region; all_goals go_wp2)
      ((have o := own_drew (Own.set8 HO3.out (.int .i64 0) (.bool false) (.bool false) (.int .i64 0) (.int .i64 0) (.int .i64 0) (.int .i64 q) (.int .i64 0))); (have g := grown_trans (far_set8 HG3.out (Nat.le_refl _) (.int .i64 0) (.bool false) (.bool false) (.int .i64 0) (.int .i64 0) (.int .i64 0) (.int .i64 q) (.int .i64 0)) (drew_g _)); generalize ((((((((V3.setCell ⟨w.heap.size, 0, none⟩ (.int .i64 0)).setCell ⟨w.heap.size, 1, none⟩ (.bool false)).setCell ⟨w.heap.size, 2, none⟩ (.bool false)).setCell ⟨w.heap.size, 3, none⟩ (.int .i64 0)).setCell ⟨w.heap.size, 4, none⟩ (.int .i64 0)).setCell ⟨w.heap.size, 5, none⟩ (.int .i64 0)).setCell ⟨w.heap.size, 6, none⟩ (.int .i64 q)).setCell ⟨w.heap.size, 7, none⟩ (.int .i64 0)).drew = WF at o g ⊢; have z0 := own_cell o (j := 0) rfl; have z1 := own_cell o (j := 1) rfl; have z2 := own_cell o (j := 2) rfl; have z3 := own_cell o (j := 3) rfl; have z4 := own_cell o (j := 4) rfl; have z5 := own_cell o (j := 5) rfl; have z6 := own_cell o (j := 6) rfl; have z7 := own_cell o (j := 7) rfl; refine bodyPost_ret (v := .tuple #[ins 0 false false 0 0 0 q 0, .bool (decide (0 ≤ q))]) (by simp [results, Tryz.results27, go_sem, ins, z0, z1, z2, z3, z4, z5, z6, z7]) rfl ?_; exact ⟨rfl, g⟩)
    · obtain ⟨m, rfl⟩ : ∃ m, n1 = m + 1 := ⟨n1 - 1, by omega⟩
      have a0 : ∀ h, ((((bs s)[m]'h).toNat : Int) == 34) = false := A0 (by omega)
      have a1 : ∀ h, ((((bs s)[m]'h).toNat : Int) == 39) = u := A1 (by omega)
      have i1 : (0 : Int) < ((m + 1 : Nat) : Int) := by omega
      cases u
      · obtain rfl := S1 rfl
        clear N0 N1 A0 A1 C0 C1 S0 S1 E1 E2 l1 z1
        (go_enter Tryz.func27, Tryz.ntmps27; go_upto_region 16 with (first | (go_at_call 55; refine HX.out.mono ?_; rintro e w1 ⟨rfl, rfl⟩) | (go_at_call 26; refine (HC.out _).mono ?_; rintro e w1 ⟨rfl, n, rfl⟩)))
        (go_upto_region 17 with (first | (go_at_call 20; refine (ops_any _).mono ?_; rintro e w2 ⟨bb, rfl, hg, hb, hn⟩; have HO2 := hide (own_g (own_g HO.out (by (with_reducible repeat (first | exact World.grownBy.refl _ _ | refine grown_trans ?_ (drew_g _) | refine grown_trans ?_ (drewN_g _ _) | refine grown_trans ?_ (World.grownBy_alloc _ _ _))))) hg); have HG2 := hide (grown_trans (grown_trans HG.out (by (with_reducible repeat (first | exact World.grownBy.refl _ _ | refine grown_trans ?_ (drew_g _) | refine grown_trans ?_ (drewN_g _ _) | refine grown_trans ?_ (World.grownBy_alloc _ _ _))))) hg); (have HV2 : Hid (Own w2 (w.heap.size + 1 + 1) #[Value.int IntKind.i64 0, .bool false, .bool false, .int .i64 0, .int .i64 0, .int .i64 0, .int .i64 0, .int .i64 0]) := hide (own_g (by repeat (first | exact own_new' _ _ _ (by simp) | refine own_drew ?_)) hg)); (have HX2 := hide (index_any opNs s2 12 bb rfl (by decide) w2 (fun k h => by rw [hn k h]; simp [nm, List.getD_eq_getElem?_getD, List.getElem?_eq_getElem h]))); have y6 := own_cell HV2.out (j := 6) rfl; have yf := own_fr HV2.out; clear hg hb hn) | (go_at_call 55; refine HX2.out.mono ?_; rw [HQ.out]; rintro e w1 ⟨rfl, rfl⟩)))
        (have HV3 := hide (own_six HV2.out (.int .i64 q)); (have HO3 := hide (own_other (i := 6) (v := .int .i64 q) HO2.out (show w.heap.size + 1 + 1 ≠ w.heap.size by omega))); (have HG3 := hide (far_set (i := 6) (v := .int .i64 q) HG2.out (show w.heap.size ≤ w.heap.size + 1 + 1 by omega))); generalize w1.setCell ⟨w.heap.size + 1 + 1, 6, none⟩ (.int .i64 q) = V3 at HV3 HO3 HG3 ⊢; clear HX2 y6 yf HV2 HO2 HG2 HX HC HO HG; have x0 := own_cell HV3.out (j := 0) rfl; have x1 := own_cell HV3.out (j := 1) rfl; have x2 := own_cell HV3.out (j := 2) rfl; have x3 := own_cell HV3.out (j := 3) rfl; have x4 := own_cell HV3.out (j := 4) rfl; have x5 := own_cell HV3.out (j := 5) rfl; have x6 := own_cell HV3.out (j := 6) rfl; have x7 := own_cell HV3.out (j := 7) rfl; have r0 := own_cell HO3.out (j := 0) rfl; have r1 := own_cell HO3.out (j := 1) rfl; have r2 := own_cell HO3.out (j := 2) rfl; have r3 := own_cell HO3.out (j := 3) rfl; have r4 := own_cell HO3.out (j := 4) rfl; have r5 := own_cell HO3.out (j := 5) rfl; have r6 := own_cell HO3.out (j := 6) rfl; have r7 := own_cell HO3.out (j := 7) rfl; have rf := own_fr HO3.out; go_region; all_goals go_wp2)
        ((have o := own_drew (Own.set8 HO3.out (.int .i64 0) (.bool false) (.bool false) (.int .i64 0) (.int .i64 0) (.int .i64 0) (.int .i64 q) (.int .i64 0))); (have g := grown_trans (far_set8 HG3.out (Nat.le_refl _) (.int .i64 0) (.bool false) (.bool false) (.int .i64 0) (.int .i64 0) (.int .i64 0) (.int .i64 q) (.int .i64 0)) (drew_g _)); generalize ((((((((V3.setCell ⟨w.heap.size, 0, none⟩ (.int .i64 0)).setCell ⟨w.heap.size, 1, none⟩ (.bool false)).setCell ⟨w.heap.size, 2, none⟩ (.bool false)).setCell ⟨w.heap.size, 3, none⟩ (.int .i64 0)).setCell ⟨w.heap.size, 4, none⟩ (.int .i64 0)).setCell ⟨w.heap.size, 5, none⟩ (.int .i64 0)).setCell ⟨w.heap.size, 6, none⟩ (.int .i64 q)).setCell ⟨w.heap.size, 7, none⟩ (.int .i64 0)).drew = WF at o g ⊢; have z0 := own_cell o (j := 0) rfl; have z1 := own_cell o (j := 1) rfl; have z2 := own_cell o (j := 2) rfl; have z3 := own_cell o (j := 3) rfl; have z4 := own_cell o (j := 4) rfl; have z5 := own_cell o (j := 5) rfl; have z6 := own_cell o (j := 6) rfl; have z7 := own_cell o (j := 7) rfl; refine bodyPost_ret (v := .tuple #[ins 0 false false 0 0 0 q 0, .bool (decide (0 ≤ q))]) (by simp [results, Tryz.results27, go_sem, ins, z0, z1, z2, z3, z4, z5, z6, z7]) rfl ?_; exact ⟨rfl, g⟩)
      · have c1 : (bs s).extract 0 m = bs s2 := C1 rfl
        clear N0 N1 A0 A1 C0 C1 S0 S1 E1 E2 l1 z1
        (go_enter Tryz.func27, Tryz.ntmps27; go_upto_region 15 with (first | (go_at_call 55; refine HX.out.mono ?_; rintro e w1 ⟨rfl, rfl⟩) | (go_at_call 26; refine (HC.out _).mono ?_; rintro e w1 ⟨rfl, n, rfl⟩)))
        go_region
        (go_upto_region 17 with (first | (go_at_call 20; refine (ops_any _).mono ?_; rintro e w2 ⟨bb, rfl, hg, hb, hn⟩; have HO2 := hide (own_g (own_g HO.out (by (with_reducible repeat (first | exact World.grownBy.refl _ _ | refine grown_trans ?_ (drew_g _) | refine grown_trans ?_ (drewN_g _ _) | refine grown_trans ?_ (World.grownBy_alloc _ _ _))))) hg); have HG2 := hide (grown_trans (grown_trans HG.out (by (with_reducible repeat (first | exact World.grownBy.refl _ _ | refine grown_trans ?_ (drew_g _) | refine grown_trans ?_ (drewN_g _ _) | refine grown_trans ?_ (World.grownBy_alloc _ _ _))))) hg); (have HV2 : Hid (Own w2 (w.heap.size + 1 + 1) #[Value.int IntKind.i64 0, .bool true, .bool false, .int .i64 0, .int .i64 0, .int .i64 0, .int .i64 0, .int .i64 0]) := hide (own_g (by repeat (first | exact own_new' _ _ _ (by simp) | refine own_drew ?_)) hg)); (have HX2 := hide (index_any opNs s2 12 bb rfl (by decide) w2 (fun k h => by rw [hn k h]; simp [nm, List.getD_eq_getElem?_getD, List.getElem?_eq_getElem h]))); have y6 := own_cell HV2.out (j := 6) rfl; have yf := own_fr HV2.out; clear hg hb hn) | (go_at_call 55; refine HX2.out.mono ?_; rw [HQ.out]; rintro e w1 ⟨rfl, rfl⟩)))
        (have HV3 := hide (own_six HV2.out (.int .i64 q)); (have HO3 := hide (own_other (i := 6) (v := .int .i64 q) HO2.out (show w.heap.size + 1 + 1 ≠ w.heap.size by omega))); (have HG3 := hide (far_set (i := 6) (v := .int .i64 q) HG2.out (show w.heap.size ≤ w.heap.size + 1 + 1 by omega))); generalize w1.setCell ⟨w.heap.size + 1 + 1, 6, none⟩ (.int .i64 q) = V3 at HV3 HO3 HG3 ⊢; clear HX2 y6 yf HV2 HO2 HG2 HX HC HO HG; have x0 := own_cell HV3.out (j := 0) rfl; have x1 := own_cell HV3.out (j := 1) rfl; have x2 := own_cell HV3.out (j := 2) rfl; have x3 := own_cell HV3.out (j := 3) rfl; have x4 := own_cell HV3.out (j := 4) rfl; have x5 := own_cell HV3.out (j := 5) rfl; have x6 := own_cell HV3.out (j := 6) rfl; have x7 := own_cell HV3.out (j := 7) rfl; have r0 := own_cell HO3.out (j := 0) rfl; have r1 := own_cell HO3.out (j := 1) rfl; have r2 := own_cell HO3.out (j := 2) rfl; have r3 := own_cell HO3.out (j := 3) rfl; have r4 := own_cell HO3.out (j := 4) rfl; have r5 := own_cell HO3.out (j := 5) rfl; have r6 := own_cell HO3.out (j := 6) rfl; have r7 := own_cell HO3.out (j := 7) rfl; have rf := own_fr HO3.out; go_region; all_goals go_wp2)
        ((have o := own_drew (Own.set8 HO3.out (.int .i64 0) (.bool true) (.bool false) (.int .i64 0) (.int .i64 0) (.int .i64 0) (.int .i64 q) (.int .i64 0))); (have g := grown_trans (far_set8 HG3.out (Nat.le_refl _) (.int .i64 0) (.bool true) (.bool false) (.int .i64 0) (.int .i64 0) (.int .i64 0) (.int .i64 q) (.int .i64 0)) (drew_g _)); generalize ((((((((V3.setCell ⟨w.heap.size, 0, none⟩ (.int .i64 0)).setCell ⟨w.heap.size, 1, none⟩ (.bool true)).setCell ⟨w.heap.size, 2, none⟩ (.bool false)).setCell ⟨w.heap.size, 3, none⟩ (.int .i64 0)).setCell ⟨w.heap.size, 4, none⟩ (.int .i64 0)).setCell ⟨w.heap.size, 5, none⟩ (.int .i64 0)).setCell ⟨w.heap.size, 6, none⟩ (.int .i64 q)).setCell ⟨w.heap.size, 7, none⟩ (.int .i64 0)).drew = WF at o g ⊢; have z0 := own_cell o (j := 0) rfl; have z1 := own_cell o (j := 1) rfl; have z2 := own_cell o (j := 2) rfl; have z3 := own_cell o (j := 3) rfl; have z4 := own_cell o (j := 4) rfl; have z5 := own_cell o (j := 5) rfl; have z6 := own_cell o (j := 6) rfl; have z7 := own_cell o (j := 7) rfl; refine bodyPost_ret (v := .tuple #[ins 0 true false 0 0 0 q 0, .bool (decide (0 ≤ q))]) (by simp [results, Tryz.results27, go_sem, ins, z0, z1, z2, z3, z4, z5, z6, z7]) rfl ?_; exact ⟨rfl, g⟩)
  · have n0 : 0 < n := by cases n with | zero => cases N0 rfl | succ n => omega
    obtain ⟨m, rfl⟩ : ∃ m, n = m + 1 := ⟨n - 1, by omega⟩
    have a0 : ∀ h, ((((bs s)[m]'h).toNat : Int) == 34) = true := A0 n0
    have c0 : (bs s).extract 0 m = bs s1 := C0 rfl
    have i1 : (0 : Int) < ((m + 1 : Nat) : Int) := by omega
    clear N0 A0 C0 S0 n0
    by_cases k0 : n1 = 0
    · subst k0
      obtain rfl := N1 rfl
      obtain rfl := S1 rfl
      clear N1 A1 C1 S1 E1 E2
      (go_enter Tryz.func27, Tryz.ntmps27; go_upto_region 12 with (first | (go_at_call 55; refine HX.out.mono ?_; rintro e w1 ⟨rfl, rfl⟩) | (go_at_call 26; refine (HC.out _).mono ?_; rintro e w1 ⟨rfl, n, rfl⟩)))
      go_region
      (go_upto_region 17 with (first | (go_at_call 20; refine (ops_any _).mono ?_; rintro e w2 ⟨bb, rfl, hg, hb, hn⟩; have HO2 := hide (own_g (own_g HO.out (by (with_reducible repeat (first | exact World.grownBy.refl _ _ | refine grown_trans ?_ (drew_g _) | refine grown_trans ?_ (drewN_g _ _) | refine grown_trans ?_ (World.grownBy_alloc _ _ _))))) hg); have HG2 := hide (grown_trans (grown_trans HG.out (by (with_reducible repeat (first | exact World.grownBy.refl _ _ | refine grown_trans ?_ (drew_g _) | refine grown_trans ?_ (drewN_g _ _) | refine grown_trans ?_ (World.grownBy_alloc _ _ _))))) hg); (have HV2 : Hid (Own w2 (w.heap.size + 1 + 1) #[Value.int IntKind.i64 0, .bool false, .bool true, .int .i64 0, .int .i64 0, .int .i64 0, .int .i64 0, .int .i64 0]) := hide (own_g (by repeat (first | exact own_new' _ _ _ (by simp) | refine own_drew ?_)) hg)); (have HX2 := hide (index_any opNs s2 12 bb rfl (by decide) w2 (fun k h => by rw [hn k h]; simp [nm, List.getD_eq_getElem?_getD, List.getElem?_eq_getElem h]))); have y6 := own_cell HV2.out (j := 6) rfl; have yf := own_fr HV2.out; clear hg hb hn) | (go_at_call 55; refine HX2.out.mono ?_; rw [HQ.out]; rintro e w1 ⟨rfl, rfl⟩)))
      (have HV3 := hide (own_six HV2.out (.int .i64 q)); (have HO3 := hide (own_other (i := 6) (v := .int .i64 q) HO2.out (show w.heap.size + 1 + 1 ≠ w.heap.size by omega))); (have HG3 := hide (far_set (i := 6) (v := .int .i64 q) HG2.out (show w.heap.size ≤ w.heap.size + 1 + 1 by omega))); generalize w1.setCell ⟨w.heap.size + 1 + 1, 6, none⟩ (.int .i64 q) = V3 at HV3 HO3 HG3 ⊢; clear HX2 y6 yf HV2 HO2 HG2 HX HC HO HG; have x0 := own_cell HV3.out (j := 0) rfl; have x1 := own_cell HV3.out (j := 1) rfl; have x2 := own_cell HV3.out (j := 2) rfl; have x3 := own_cell HV3.out (j := 3) rfl; have x4 := own_cell HV3.out (j := 4) rfl; have x5 := own_cell HV3.out (j := 5) rfl; have x6 := own_cell HV3.out (j := 6) rfl; have x7 := own_cell HV3.out (j := 7) rfl; have r0 := own_cell HO3.out (j := 0) rfl; have r1 := own_cell HO3.out (j := 1) rfl; have r2 := own_cell HO3.out (j := 2) rfl; have r3 := own_cell HO3.out (j := 3) rfl; have r4 := own_cell HO3.out (j := 4) rfl; have r5 := own_cell HO3.out (j := 5) rfl; have r6 := own_cell HO3.out (j := 6) rfl; have r7 := own_cell HO3.out (j := 7) rfl; have rf := own_fr HO3.out; go_region; all_goals go_wp2)
      ((have o := own_drew (Own.set8 HO3.out (.int .i64 0) (.bool false) (.bool true) (.int .i64 0) (.int .i64 0) (.int .i64 0) (.int .i64 q) (.int .i64 0))); (have g := grown_trans (far_set8 HG3.out (Nat.le_refl _) (.int .i64 0) (.bool false) (.bool true) (.int .i64 0) (.int .i64 0) (.int .i64 0) (.int .i64 q) (.int .i64 0)) (drew_g _)); generalize ((((((((V3.setCell ⟨w.heap.size, 0, none⟩ (.int .i64 0)).setCell ⟨w.heap.size, 1, none⟩ (.bool false)).setCell ⟨w.heap.size, 2, none⟩ (.bool true)).setCell ⟨w.heap.size, 3, none⟩ (.int .i64 0)).setCell ⟨w.heap.size, 4, none⟩ (.int .i64 0)).setCell ⟨w.heap.size, 5, none⟩ (.int .i64 0)).setCell ⟨w.heap.size, 6, none⟩ (.int .i64 q)).setCell ⟨w.heap.size, 7, none⟩ (.int .i64 0)).drew = WF at o g ⊢; have z0 := own_cell o (j := 0) rfl; have z1 := own_cell o (j := 1) rfl; have z2 := own_cell o (j := 2) rfl; have z3 := own_cell o (j := 3) rfl; have z4 := own_cell o (j := 4) rfl; have z5 := own_cell o (j := 5) rfl; have z6 := own_cell o (j := 6) rfl; have z7 := own_cell o (j := 7) rfl; refine bodyPost_ret (v := .tuple #[ins 0 false true 0 0 0 q 0, .bool (decide (0 ≤ q))]) (by simp [results, Tryz.results27, go_sem, ins, z0, z1, z2, z3, z4, z5, z6, z7]) rfl ?_; exact ⟨rfl, g⟩)
    · obtain ⟨m1, rfl⟩ : ∃ m1, n1 = m1 + 1 := ⟨n1 - 1, by omega⟩
      have a1 : ∀ h, ((((bs s1)[m1]'h).toNat : Int) == 39) = u := A1 (by omega)
      have i2 : (0 : Int) < ((m1 + 1 : Nat) : Int) := by omega
      cases u
      · obtain rfl := S1 rfl
        clear N1 A1 C1 S1 E1 E2
        (go_enter Tryz.func27, Tryz.ntmps27; go_upto_region 12 with (first | (go_at_call 55; refine HX.out.mono ?_; rintro e w1 ⟨rfl, rfl⟩) | (go_at_call 26; refine (HC.out _).mono ?_; rintro e w1 ⟨rfl, n, rfl⟩)))
        go_region
        (go_upto_region 17 with (first | (go_at_call 20; refine (ops_any _).mono ?_; rintro e w2 ⟨bb, rfl, hg, hb, hn⟩; have HO2 := hide (own_g (own_g HO.out (by (with_reducible repeat (first | exact World.grownBy.refl _ _ | refine grown_trans ?_ (drew_g _) | refine grown_trans ?_ (drewN_g _ _) | refine grown_trans ?_ (World.grownBy_alloc _ _ _))))) hg); have HG2 := hide (grown_trans (grown_trans HG.out (by (with_reducible repeat (first | exact World.grownBy.refl _ _ | refine grown_trans ?_ (drew_g _) | refine grown_trans ?_ (drewN_g _ _) | refine grown_trans ?_ (World.grownBy_alloc _ _ _))))) hg); (have HV2 : Hid (Own w2 (w.heap.size + 1 + 1) #[Value.int IntKind.i64 0, .bool false, .bool true, .int .i64 0, .int .i64 0, .int .i64 0, .int .i64 0, .int .i64 0]) := hide (own_g (by repeat (first | exact own_new' _ _ _ (by simp) | refine own_drew ?_)) hg)); (have HX2 := hide (index_any opNs s2 12 bb rfl (by decide) w2 (fun k h => by rw [hn k h]; simp [nm, List.getD_eq_getElem?_getD, List.getElem?_eq_getElem h]))); have y6 := own_cell HV2.out (j := 6) rfl; have yf := own_fr HV2.out; clear hg hb hn) | (go_at_call 55; refine HX2.out.mono ?_; rw [HQ.out]; rintro e w1 ⟨rfl, rfl⟩)))
        (have HV3 := hide (own_six HV2.out (.int .i64 q)); (have HO3 := hide (own_other (i := 6) (v := .int .i64 q) HO2.out (show w.heap.size + 1 + 1 ≠ w.heap.size by omega))); (have HG3 := hide (far_set (i := 6) (v := .int .i64 q) HG2.out (show w.heap.size ≤ w.heap.size + 1 + 1 by omega))); generalize w1.setCell ⟨w.heap.size + 1 + 1, 6, none⟩ (.int .i64 q) = V3 at HV3 HO3 HG3 ⊢; clear HX2 y6 yf HV2 HO2 HG2 HX HC HO HG; have x0 := own_cell HV3.out (j := 0) rfl; have x1 := own_cell HV3.out (j := 1) rfl; have x2 := own_cell HV3.out (j := 2) rfl; have x3 := own_cell HV3.out (j := 3) rfl; have x4 := own_cell HV3.out (j := 4) rfl; have x5 := own_cell HV3.out (j := 5) rfl; have x6 := own_cell HV3.out (j := 6) rfl; have x7 := own_cell HV3.out (j := 7) rfl; have r0 := own_cell HO3.out (j := 0) rfl; have r1 := own_cell HO3.out (j := 1) rfl; have r2 := own_cell HO3.out (j := 2) rfl; have r3 := own_cell HO3.out (j := 3) rfl; have r4 := own_cell HO3.out (j := 4) rfl; have r5 := own_cell HO3.out (j := 5) rfl; have r6 := own_cell HO3.out (j := 6) rfl; have r7 := own_cell HO3.out (j := 7) rfl; have rf := own_fr HO3.out; go_region; all_goals go_wp2)
        ((have o := own_drew (Own.set8 HO3.out (.int .i64 0) (.bool false) (.bool true) (.int .i64 0) (.int .i64 0) (.int .i64 0) (.int .i64 q) (.int .i64 0))); (have g := grown_trans (far_set8 HG3.out (Nat.le_refl _) (.int .i64 0) (.bool false) (.bool true) (.int .i64 0) (.int .i64 0) (.int .i64 0) (.int .i64 q) (.int .i64 0)) (drew_g _)); generalize ((((((((V3.setCell ⟨w.heap.size, 0, none⟩ (.int .i64 0)).setCell ⟨w.heap.size, 1, none⟩ (.bool false)).setCell ⟨w.heap.size, 2, none⟩ (.bool true)).setCell ⟨w.heap.size, 3, none⟩ (.int .i64 0)).setCell ⟨w.heap.size, 4, none⟩ (.int .i64 0)).setCell ⟨w.heap.size, 5, none⟩ (.int .i64 0)).setCell ⟨w.heap.size, 6, none⟩ (.int .i64 q)).setCell ⟨w.heap.size, 7, none⟩ (.int .i64 0)).drew = WF at o g ⊢; have z0 := own_cell o (j := 0) rfl; have z1 := own_cell o (j := 1) rfl; have z2 := own_cell o (j := 2) rfl; have z3 := own_cell o (j := 3) rfl; have z4 := own_cell o (j := 4) rfl; have z5 := own_cell o (j := 5) rfl; have z6 := own_cell o (j := 6) rfl; have z7 := own_cell o (j := 7) rfl; refine bodyPost_ret (v := .tuple #[ins 0 false true 0 0 0 q 0, .bool (decide (0 ≤ q))]) (by simp [results, Tryz.results27, go_sem, ins, z0, z1, z2, z3, z4, z5, z6, z7]) rfl ?_; exact ⟨rfl, g⟩)
      · have c1 : (bs s1).extract 0 m1 = bs s2 := C1 rfl
        clear N1 A1 C1 S1 E1 E2
        (go_enter Tryz.func27, Tryz.ntmps27; go_upto_region 12 with (first | (go_at_call 55; refine HX.out.mono ?_; rintro e w1 ⟨rfl, rfl⟩) | (go_at_call 26; refine (HC.out _).mono ?_; rintro e w1 ⟨rfl, n, rfl⟩)))
        go_region
        go_upto_region 15 with fail
        go_region
        (go_upto_region 17 with (first | (go_at_call 20; refine (ops_any _).mono ?_; rintro e w2 ⟨bb, rfl, hg, hb, hn⟩; have HO2 := hide (own_g (own_g HO.out (by (with_reducible repeat (first | exact World.grownBy.refl _ _ | refine grown_trans ?_ (drew_g _) | refine grown_trans ?_ (drewN_g _ _) | refine grown_trans ?_ (World.grownBy_alloc _ _ _))))) hg); have HG2 := hide (grown_trans (grown_trans HG.out (by (with_reducible repeat (first | exact World.grownBy.refl _ _ | refine grown_trans ?_ (drew_g _) | refine grown_trans ?_ (drewN_g _ _) | refine grown_trans ?_ (World.grownBy_alloc _ _ _))))) hg); (have HV2 : Hid (Own w2 (w.heap.size + 1 + 1) #[Value.int IntKind.i64 0, .bool true, .bool true, .int .i64 0, .int .i64 0, .int .i64 0, .int .i64 0, .int .i64 0]) := hide (own_g (by repeat (first | exact own_new' _ _ _ (by simp) | refine own_drew ?_)) hg)); (have HX2 := hide (index_any opNs s2 12 bb rfl (by decide) w2 (fun k h => by rw [hn k h]; simp [nm, List.getD_eq_getElem?_getD, List.getElem?_eq_getElem h]))); have y6 := own_cell HV2.out (j := 6) rfl; have yf := own_fr HV2.out; clear hg hb hn) | (go_at_call 55; refine HX2.out.mono ?_; rw [HQ.out]; rintro e w1 ⟨rfl, rfl⟩)))
        (have HV3 := hide (own_six HV2.out (.int .i64 q)); (have HO3 := hide (own_other (i := 6) (v := .int .i64 q) HO2.out (show w.heap.size + 1 + 1 ≠ w.heap.size by omega))); (have HG3 := hide (far_set (i := 6) (v := .int .i64 q) HG2.out (show w.heap.size ≤ w.heap.size + 1 + 1 by omega))); generalize w1.setCell ⟨w.heap.size + 1 + 1, 6, none⟩ (.int .i64 q) = V3 at HV3 HO3 HG3 ⊢; clear HX2 y6 yf HV2 HO2 HG2 HX HC HO HG; have x0 := own_cell HV3.out (j := 0) rfl; have x1 := own_cell HV3.out (j := 1) rfl; have x2 := own_cell HV3.out (j := 2) rfl; have x3 := own_cell HV3.out (j := 3) rfl; have x4 := own_cell HV3.out (j := 4) rfl; have x5 := own_cell HV3.out (j := 5) rfl; have x6 := own_cell HV3.out (j := 6) rfl; have x7 := own_cell HV3.out (j := 7) rfl; have r0 := own_cell HO3.out (j := 0) rfl; have r1 := own_cell HO3.out (j := 1) rfl; have r2 := own_cell HO3.out (j := 2) rfl; have r3 := own_cell HO3.out (j := 3) rfl; have r4 := own_cell HO3.out (j := 4) rfl; have r5 := own_cell HO3.out (j := 5) rfl; have r6 := own_cell HO3.out (j := 6) rfl; have r7 := own_cell HO3.out (j := 7) rfl; have rf := own_fr HO3.out; go_region; all_goals go_wp2)
        ((have o := own_drew (Own.set8 HO3.out (.int .i64 0) (.bool true) (.bool true) (.int .i64 0) (.int .i64 0) (.int .i64 0) (.int .i64 q) (.int .i64 0))); (have g := grown_trans (far_set8 HG3.out (Nat.le_refl _) (.int .i64 0) (.bool true) (.bool true) (.int .i64 0) (.int .i64 0) (.int .i64 0) (.int .i64 q) (.int .i64 0)) (drew_g _)); generalize ((((((((V3.setCell ⟨w.heap.size, 0, none⟩ (.int .i64 0)).setCell ⟨w.heap.size, 1, none⟩ (.bool true)).setCell ⟨w.heap.size, 2, none⟩ (.bool true)).setCell ⟨w.heap.size, 3, none⟩ (.int .i64 0)).setCell ⟨w.heap.size, 4, none⟩ (.int .i64 0)).setCell ⟨w.heap.size, 5, none⟩ (.int .i64 0)).setCell ⟨w.heap.size, 6, none⟩ (.int .i64 q)).setCell ⟨w.heap.size, 7, none⟩ (.int .i64 0)).drew = WF at o g ⊢; have z0 := own_cell o (j := 0) rfl; have z1 := own_cell o (j := 1) rfl; have z2 := own_cell o (j := 2) rfl; have z3 := own_cell o (j := 3) rfl; have z4 := own_cell o (j := 4) rfl; have z5 := own_cell o (j := 5) rfl; have z6 := own_cell o (j := 6) rfl; have z7 := own_cell o (j := 7) rfl; refine bodyPost_ret (v := .tuple #[ins 0 true true 0 0 0 q 0, .bool (decide (0 ≤ q))]) (by simp [results, Tryz.results27, go_sem, ins, z0, z1, z2, z3, z4, z5, z6, z7]) rfl ?_; exact ⟨rfl, g⟩)
end Go.Proofs.YtjeogojgabfbiaaGreatDoor.Asm
