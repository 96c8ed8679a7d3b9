/-
  The document's own Hex: a word's eight digits.
  The document's own Lines.
  The document's own hash: a word in eight digits behind '#'.
  The document's own Words.
  The law's walk: any words as lines, and any lines as words, or the first that is none.
-/
import Derived.Test.YtjeogojgabfbiaaGreatDoorAsm18
import Derived.Laws.IdiomStrings
import Derived.Laws.BytesArg
import Derived.Test.YtjeogojgabfbiaaGreatDoorLx
import Derived.Test.YtjeogojgabfbiaaGreatDoorAsm7
import Derived.Lib.AppendStr
import Derived.Test.YtjeogojgabfbiaaGreatDoorAsm15
namespace Go.Proofs.YtjeogojgabfbiaaGreatDoor.Asm
open Go.RowKit Go.Proofs.YtjeogojgabfbiaaGreatDoor.Bits Go.Proofs.YtjeogojgabfbiaaGreatDoor.Gw Go.Proofs.YtjeogojgabfbiaaGreatDoor.Risc Go.Proofs.YtjeogojgabfbiaaGreatDoor.Tx
set_option linter.unusedVariables false
set_option linter.unusedSimpArgs false
set_option maxRecDepth 100000

theorem and15u (z : Int) (h0 : 0 ≤ z) (h1 : z < 4294967296) : bits .and .u32 z 15 = z % 16 := by
  have := lower_eq z 4 (by omega) (by omega) h0 h1
  simpa using this
theorem dgb (x : Int) (x0 : 0 ≤ x) (x1 : x < 4294967296) (L : Int) (i : Nat) (hL : L = ((16 ^ i : Nat) : Int)) : bits .and .u32 (x / L) 15 = (dgH x i : Nat) := by
  obtain ⟨u, rfl⟩ := Int.eq_ofNat_of_zero_le x0
  subst hL
  generalize hM : (16 ^ i : Nat) = M
  have e : ((u : Int) / (M : Int)) = ((u / M : Nat) : Int) := by simp
  have hlt : u / M ≤ u := Nat.div_le_self u M
  have hdg : dgH (u : Int) i = u / M % 16 := by rw [dgH, hM]; rfl
  rw [e, hdg]
  generalize u / M = q at hlt
  rw [and15u _ (by omega) (by omega)]
  omega
theorem hexL_at (x : Int) (k : Nat) (h : k < 8) : (hexL x).take (k + 1) = (hexL x).take k ++ [hexC (dgH x (7 - k))] := by
  have e : hexL x = [hexC (dgH x 7), hexC (dgH x 6), hexC (dgH x 5), hexC (dgH x 4), hexC (dgH x 3), hexC (dgH x 2), hexC (dgH x 1), hexC (dgH x 0)] := rfl
  rw [e]
  match k, h with
  | 0, _ => rfl
  | 1, _ => rfl
  | 2, _ => rfl
  | 3, _ => rfl
  | 4, _ => rfl
  | 5, _ => rfl
  | 6, _ => rfl
  | 7, _ => rfl
theorem ch16 (D : Nat) (h : D < 16) : ∀ h' : D < (⟨#[48, 49, 50, 51, 52, 53, 54, 55, 56, 57, 97, 98, 99, 100, 101, 102]⟩ : ByteArray).size, (⟨#[48, 49, 50, 51, 52, 53, 54, 55, 56, 57, 97, 98, 99, 100, 101, 102]⟩ : ByteArray)[D]'h' = hexC D := by
  intro h'
  rcases (by omega : D = 0 ∨ D = 1 ∨ D = 2 ∨ D = 3 ∨ D = 4 ∨ D = 5 ∨ D = 6 ∨ D = 7 ∨ D = 8 ∨ D = 9 ∨ D = 10 ∨ D = 11 ∨ D = 12 ∨ D = 13 ∨ D = 14 ∨ D = 15) with rfl | rfl | rfl | rfl | rfl | rfl | rfl | rfl | rfl | rfl | rfl | rfl | rfl | rfl | rfl | rfl <;> rfl
theorem own_shape8 {w : World} {B : Nat} {e : TypeId} {k : Nat} {v : Value} {xs : List Value} (h : w.ownsRow B e 1 v k xs) : ∃ ao cp, v = .slice ao k cp := by
  rcases h.2 with ⟨rfl, rfl⟩ | ⟨g, c, cur, rfl, _⟩
  · exact ⟨_, _, rfl⟩
  · exact ⟨_, _, rfl⟩
theorem cell_new8 (w : World) (v : Value) (e : TypeId) : ∀ (j : Nat) (u : Value), [v][j]? = some u → (w.alloc (.cells #[v] e)).cell? ((⟨w.heap.size, 0, none⟩ : Addr).add j) = some u := by
  intro j u hj
  match j, hj with
  | 0, hj => simp at hj; subst hj; simp [Addr.add]
theorem conv_own {w : World} {B n : Nat} {v : Value} {l : List UInt8} (h : w.ownsRow B 5 1 v n (l.map b8)) : (convert 67 9 v).run Tryz.prog w = .ok (.string (bs l)) w := by
  have hl : l.length = n := by simpa using h.1
  subst hl
  rcases h.2 with ⟨rfl, h0⟩ | ⟨g, cap, cur, rfl, hb, hg, hc, hm, hs, ht⟩
  · have : l = [] := List.length_eq_zero_iff.1 h0
    subst this
    exact run_convert_bytes_nil (w := w) 67 5 Tryz.underlying67 Tryz.underlying5 _ _ 9 Tryz.underlying9
  · refine run_convert_bytes_back w 67 9 5 ⟨g, 0, none⟩ cap l Tryz.underlying67 Tryz.underlying5 Tryz.underlying9 fun j hj => ?_
    have e := congrArg (fun l => l[j]?) ht
    simp only [Nat.mul_one, List.getElem?_map, List.getElem?_eq_getElem hj, Option.map_some] at e
    rw [List.getElem?_take, if_pos hj, Array.getElem?_toList] at e
    have k : (⟨g, 0, none⟩ : Addr).add j = ⟨g, j, none⟩ := by unfold Addr.add; split <;> simp_all
    rw [k, cell_of_row _ _ _ _ _ _ hg]
    exact e
set_option maxHeartbeats 8000000 in
theorem rhex_any (x : Int) (x0 : 0 ≤ x) (x1 : x < 4294967296) (w : World) :
    Calls Tryz.prog 39 #[.int .u32 x] w fun e w' => e = .returned (.string (bs (hexL x))) ∧ w.grownBy w' none := by
  obtain ⟨i0, hi, hz0, hz1, hz2⟩ := info_parts Tryz.info8
  go_enter Tryz.func39, Tryz.ntmps39
  go_wp2_with fail
  go_loopw [3, 4] (fun v i W => ∃ k : Nat, k ≤ 8 ∧ i = .int .i64 (7 - k) ∧ Below w.heap.size w W ∧ W.ownsRow w.heap.size 5 1 v k (((hexL x).take k).map b8)) (fun _ i _ => (intOf i + 1).toNat)
  case atStart => exact ⟨0, by omega, rfl, Below.refl _ _, World.ownsRow_nil _ _ _ _⟩
  case round =>
    obtain ⟨k, hk, rfl, hb, ho⟩ := hrel
    obtain ⟨ao, cp, rfl⟩ := own_shape8 ho
    have HB := hide hb
    have HO := hide ho
    have hsz := hb.size
    clear hb ho
    rcases (by omega : k = 8 ∨ k = 0 ∨ k = 1 ∨ k = 2 ∨ k = 3 ∨ k = 4 ∨ k = 5 ∨ k = 6 ∨ k = 7) with rfl | rfl | rfl | rfl | rfl | rfl | rfl | rfl | rfl
    · have hcv := conv_own HO.out
      rw [show (hexL x).take 8 = hexL x from rfl] at hcv
      go_wp2_with fail
      go_ret
      exact ⟨rfl, HB.out.os, HB.out.tape, HB.out.output, HB.out.size, fun j hj _ => HB.out.block j hj⟩
    · have hd := dgb x x0 x1 268435456 7 (by decide)
      have HX := hide (hexL_at x 0 (by omega))
      have hD : dgH x 7 < 16 := Nat.mod_lt _ (by decide)
      rw [show (7 : Nat) - 0 = 7 from rfl] at HX
      generalize dgH x 7 = D at hd HX hD
      have hwr : wrap64 (D : Int) = D := by unfold wrap64; omega
      have hch := ch16 D hD
      go_wp2_with (at_builtin; refine wpList_append_own _ rfl _ _ 67 rfl w.heap.size 5 i0 (.int .u8 0) 1 1 Tryz.underlying67 hi hz0 hz1 hz2 rfl (by decide) _ _ _ rfl (HO.out.alloc _) ⟨wr.heap.size, 0, none⟩ 1 1 [b8 (hexC D)] rfl rfl ?c1 ?c2 ?c3 ?c4 ?c5 ?_)
      case c1 => exact cell_new8 _ _ _
      case c2 => intro u hu; simp at hu; subst hu; rfl
      case c3 => unfold maxLen; omega
      case c4 => omega
      case c5 => simp; omega
      intro v' w3 hown' hgrow _
      have hlt := (HO.out.alloc (.cells #[b8 (hexC D)] 5)).lt
      have HB3 := hide (show Below w.heap.size w w3 from (HB.out.alloc hsz _).grown hgrow (by simp; omega) (fun g hg => (hlt g hg).1))
      have HO3 := hide hown'
      clear hown' hgrow hlt
      go_wp2
      go_roundw
      case rel => exact ⟨1, by omega, by go_num, HB3.out, by rw [HX.out, List.map_append]; exact HO3.out⟩
      case measure => simp [intOf]
    · have hd := dgb x x0 x1 16777216 6 (by decide)
      have HX := hide (hexL_at x 1 (by omega))
      have hD : dgH x 6 < 16 := Nat.mod_lt _ (by decide)
      rw [show (7 : Nat) - 1 = 6 from rfl] at HX
      generalize dgH x 6 = D at hd HX hD
      have hwr : wrap64 (D : Int) = D := by unfold wrap64; omega
      have hch := ch16 D hD
      go_wp2_with (at_builtin; refine wpList_append_own _ rfl _ _ 67 rfl w.heap.size 5 i0 (.int .u8 0) 1 1 Tryz.underlying67 hi hz0 hz1 hz2 rfl (by decide) _ _ _ rfl (HO.out.alloc _) ⟨wr.heap.size, 0, none⟩ 1 1 [b8 (hexC D)] rfl rfl ?c1 ?c2 ?c3 ?c4 ?c5 ?_)
      case c1 => exact cell_new8 _ _ _
      case c2 => intro u hu; simp at hu; subst hu; rfl
      case c3 => unfold maxLen; omega
      case c4 => omega
      case c5 => simp; omega
      intro v' w3 hown' hgrow _
      have hlt := (HO.out.alloc (.cells #[b8 (hexC D)] 5)).lt
      have HB3 := hide (show Below w.heap.size w w3 from (HB.out.alloc hsz _).grown hgrow (by simp; omega) (fun g hg => (hlt g hg).1))
      have HO3 := hide hown'
      clear hown' hgrow hlt
      go_wp2
      go_roundw
      case rel => exact ⟨2, by omega, by go_num, HB3.out, by rw [HX.out, List.map_append]; exact HO3.out⟩
      case measure => simp [intOf]
    · have hd := dgb x x0 x1 1048576 5 (by decide)
      have HX := hide (hexL_at x 2 (by omega))
      have hD : dgH x 5 < 16 := Nat.mod_lt _ (by decide)
      rw [show (7 : Nat) - 2 = 5 from rfl] at HX
      generalize dgH x 5 = D at hd HX hD
      have hwr : wrap64 (D : Int) = D := by unfold wrap64; omega
      have hch := ch16 D hD
      go_wp2_with (at_builtin; refine wpList_append_own _ rfl _ _ 67 rfl w.heap.size 5 i0 (.int .u8 0) 1 1 Tryz.underlying67 hi hz0 hz1 hz2 rfl (by decide) _ _ _ rfl (HO.out.alloc _) ⟨wr.heap.size, 0, none⟩ 1 1 [b8 (hexC D)] rfl rfl ?c1 ?c2 ?c3 ?c4 ?c5 ?_)
      case c1 => exact cell_new8 _ _ _
      case c2 => intro u hu; simp at hu; subst hu; rfl
      case c3 => unfold maxLen; omega
      case c4 => omega
      case c5 => simp; omega
      intro v' w3 hown' hgrow _
      have hlt := (HO.out.alloc (.cells #[b8 (hexC D)] 5)).lt
      have HB3 := hide (show Below w.heap.size w w3 from (HB.out.alloc hsz _).grown hgrow (by simp; omega) (fun g hg => (hlt g hg).1))
      have HO3 := hide hown'
      clear hown' hgrow hlt
      go_wp2
      go_roundw
      case rel => exact ⟨3, by omega, by go_num, HB3.out, by rw [HX.out, List.map_append]; exact HO3.out⟩
      case measure => simp [intOf]
    · have hd := dgb x x0 x1 65536 4 (by decide)
      have HX := hide (hexL_at x 3 (by omega))
      have hD : dgH x 4 < 16 := Nat.mod_lt _ (by decide)
      rw [show (7 : Nat) - 3 = 4 from rfl] at HX
      generalize dgH x 4 = D at hd HX hD
      have hwr : wrap64 (D : Int) = D := by unfold wrap64; omega
      have hch := ch16 D hD
      go_wp2_with (at_builtin; refine wpList_append_own _ rfl _ _ 67 rfl w.heap.size 5 i0 (.int .u8 0) 1 1 Tryz.underlying67 hi hz0 hz1 hz2 rfl (by decide) _ _ _ rfl (HO.out.alloc _) ⟨wr.heap.size, 0, none⟩ 1 1 [b8 (hexC D)] rfl rfl ?c1 ?c2 ?c3 ?c4 ?c5 ?_)
      case c1 => exact cell_new8 _ _ _
      case c2 => intro u hu; simp at hu; subst hu; rfl
      case c3 => unfold maxLen; omega
      case c4 => omega
      case c5 => simp; omega
      intro v' w3 hown' hgrow _
      have hlt := (HO.out.alloc (.cells #[b8 (hexC D)] 5)).lt
      have HB3 := hide (show Below w.heap.size w w3 from (HB.out.alloc hsz _).grown hgrow (by simp; omega) (fun g hg => (hlt g hg).1))
      have HO3 := hide hown'
      clear hown' hgrow hlt
      go_wp2
      go_roundw
      case rel => exact ⟨4, by omega, by go_num, HB3.out, by rw [HX.out, List.map_append]; exact HO3.out⟩
      case measure => simp [intOf]
    · have hd := dgb x x0 x1 4096 3 (by decide)
      have HX := hide (hexL_at x 4 (by omega))
      have hD : dgH x 3 < 16 := Nat.mod_lt _ (by decide)
      rw [show (7 : Nat) - 4 = 3 from rfl] at HX
      generalize dgH x 3 = D at hd HX hD
      have hwr : wrap64 (D : Int) = D := by unfold wrap64; omega
      have hch := ch16 D hD
      go_wp2_with (at_builtin; refine wpList_append_own _ rfl _ _ 67 rfl w.heap.size 5 i0 (.int .u8 0) 1 1 Tryz.underlying67 hi hz0 hz1 hz2 rfl (by decide) _ _ _ rfl (HO.out.alloc _) ⟨wr.heap.size, 0, none⟩ 1 1 [b8 (hexC D)] rfl rfl ?c1 ?c2 ?c3 ?c4 ?c5 ?_)
      case c1 => exact cell_new8 _ _ _
      case c2 => intro u hu; simp at hu; subst hu; rfl
      case c3 => unfold maxLen; omega
      case c4 => omega
      case c5 => simp; omega
      intro v' w3 hown' hgrow _
      have hlt := (HO.out.alloc (.cells #[b8 (hexC D)] 5)).lt
      have HB3 := hide (show Below w.heap.size w w3 from (HB.out.alloc hsz _).grown hgrow (by simp; omega) (fun g hg => (hlt g hg).1))
      have HO3 := hide hown'
      clear hown' hgrow hlt
      go_wp2
      go_roundw
      case rel => exact ⟨5, by omega, by go_num, HB3.out, by rw [HX.out, List.map_append]; exact HO3.out⟩
      case measure => simp [intOf]
    · have hd := dgb x x0 x1 256 2 (by decide)
      have HX := hide (hexL_at x 5 (by omega))
      have hD : dgH x 2 < 16 := Nat.mod_lt _ (by decide)
      rw [show (7 : Nat) - 5 = 2 from rfl] at HX
      generalize dgH x 2 = D at hd HX hD
      have hwr : wrap64 (D : Int) = D := by unfold wrap64; omega
      have hch := ch16 D hD
      go_wp2_with (at_builtin; refine wpList_append_own _ rfl _ _ 67 rfl w.heap.size 5 i0 (.int .u8 0) 1 1 Tryz.underlying67 hi hz0 hz1 hz2 rfl (by decide) _ _ _ rfl (HO.out.alloc _) ⟨wr.heap.size, 0, none⟩ 1 1 [b8 (hexC D)] rfl rfl ?c1 ?c2 ?c3 ?c4 ?c5 ?_)
      case c1 => exact cell_new8 _ _ _
      case c2 => intro u hu; simp at hu; subst hu; rfl
      case c3 => unfold maxLen; omega
      case c4 => omega
      case c5 => simp; omega
      intro v' w3 hown' hgrow _
      have hlt := (HO.out.alloc (.cells #[b8 (hexC D)] 5)).lt
      have HB3 := hide (show Below w.heap.size w w3 from (HB.out.alloc hsz _).grown hgrow (by simp; omega) (fun g hg => (hlt g hg).1))
      have HO3 := hide hown'
      clear hown' hgrow hlt
      go_wp2
      go_roundw
      case rel => exact ⟨6, by omega, by go_num, HB3.out, by rw [HX.out, List.map_append]; exact HO3.out⟩
      case measure => simp [intOf]
    · have hd := dgb x x0 x1 16 1 (by decide)
      have HX := hide (hexL_at x 6 (by omega))
      have hD : dgH x 1 < 16 := Nat.mod_lt _ (by decide)
      rw [show (7 : Nat) - 6 = 1 from rfl] at HX
      generalize dgH x 1 = D at hd HX hD
      have hwr : wrap64 (D : Int) = D := by unfold wrap64; omega
      have hch := ch16 D hD
      go_wp2_with (at_builtin; refine wpList_append_own _ rfl _ _ 67 rfl w.heap.size 5 i0 (.int .u8 0) 1 1 Tryz.underlying67 hi hz0 hz1 hz2 rfl (by decide) _ _ _ rfl (HO.out.alloc _) ⟨wr.heap.size, 0, none⟩ 1 1 [b8 (hexC D)] rfl rfl ?c1 ?c2 ?c3 ?c4 ?c5 ?_)
      case c1 => exact cell_new8 _ _ _
      case c2 => intro u hu; simp at hu; subst hu; rfl
      case c3 => unfold maxLen; omega
      case c4 => omega
      case c5 => simp; omega
      intro v' w3 hown' hgrow _
      have hlt := (HO.out.alloc (.cells #[b8 (hexC D)] 5)).lt
      have HB3 := hide (show Below w.heap.size w w3 from (HB.out.alloc hsz _).grown hgrow (by simp; omega) (fun g hg => (hlt g hg).1))
      have HO3 := hide hown'
      clear hown' hgrow hlt
      go_wp2
      go_roundw
      case rel => exact ⟨7, by omega, by go_num, HB3.out, by rw [HX.out, List.map_append]; exact HO3.out⟩
      case measure => simp [intOf]
    · have hd := dgb x x0 x1 1 0 (by decide)
      rw [Int.ediv_one] at hd
      have HX := hide (hexL_at x 7 (by omega))
      have hD : dgH x 0 < 16 := Nat.mod_lt _ (by decide)
      rw [show (7 : Nat) - 7 = 0 from rfl] at HX
      generalize dgH x 0 = D at hd HX hD
      have hwr : wrap64 (D : Int) = D := by unfold wrap64; omega
      have hch := ch16 D hD
      go_wp2_with (at_builtin; refine wpList_append_own _ rfl _ _ 67 rfl w.heap.size 5 i0 (.int .u8 0) 1 1 Tryz.underlying67 hi hz0 hz1 hz2 rfl (by decide) _ _ _ rfl (HO.out.alloc _) ⟨wr.heap.size, 0, none⟩ 1 1 [b8 (hexC D)] rfl rfl ?c1 ?c2 ?c3 ?c4 ?c5 ?_)
      case c1 => exact cell_new8 _ _ _
      case c2 => intro u hu; simp at hu; subst hu; rfl
      case c3 => unfold maxLen; omega
      case c4 => omega
      case c5 => simp; omega
      intro v' w3 hown' hgrow _
      have hlt := (HO.out.alloc (.cells #[b8 (hexC D)] 5)).lt
      have HB3 := hide (show Below w.heap.size w w3 from (HB.out.alloc hsz _).grown hgrow (by simp; omega) (fun g hg => (hlt g hg).1))
      have HO3 := hide hown'
      clear hown' hgrow hlt
      go_wp2
      go_roundw
      case rel => exact ⟨8, by omega, by go_num, HB3.out, by rw [HX.out, List.map_append]; exact HO3.out⟩
      case measure => simp [intOf]
end Go.Proofs.YtjeogojgabfbiaaGreatDoor.Asm
namespace Go.Proofs.YtjeogojgabfbiaaGreatDoor.Asm
open Go.RowKit Go.Maps Go.Proofs.YtjeogojgabfbiaaGreatDoor.Bits Go.Proofs.YtjeogojgabfbiaaGreatDoor.Gw Go.Proofs.YtjeogojgabfbiaaGreatDoor.Risc Go.Proofs.YtjeogojgabfbiaaGreatDoor.Tx Go.Proofs.YtjeogojgabfbiaaGreatDoor.Mp
set_option linter.unusedVariables false
set_option linter.unusedSimpArgs false
set_option maxRecDepth 100000

theorem str_b8 (t : List UInt8) : Lib.strCells (bs t) = t.map b8 := rfl
theorem own_lt_below {w W w' : World} {B : Nat} {e : TypeId} {v : Value} {n : Nat} {xs : List Value} (hb : Below B w W) (ho : W.ownsRow B e 1 v n xs) (hg : W.grownBy w' v.ownBlock) (hs : B ≤ W.heap.size) : Below B w w' :=
  hb.grown hg hs (fun g h => (ho.lt g h).1)
set_option maxHeartbeats 4000000 in
theorem rlines_any {ao : Option Addr} {xs : List Int} (cp : Nat) (hn : xs.length ≤ 2000) (w : World) (S : Sr w ao xs) :
    Calls Tryz.prog 15 #[.slice ao xs.length cp] w fun e w' => e = .returned (.string (bs (linesT xs))) ∧ w.grownBy w' none := by
  have HS := hide S
  clear S
  obtain ⟨i0, hi, hz0, hz1, hz2⟩ := info_parts Tryz.info8
  go_enter Tryz.func15, Tryz.ntmps15
  go_wp2
  go_loopw [3, 4] (fun v i W => ∃ k : Nat, k ≤ xs.length ∧ i = .int .i64 k ∧ Below w.heap.size w W ∧ W.ownsRow w.heap.size 5 1 v (linesT (xs.take k)).length ((linesT (xs.take k)).map b8)) (fun _ i _ => xs.length - (intOf i).toNat)
  case atStart => exact ⟨0, by omega, rfl, Below.refl _ _, World.ownsRow_nil _ _ _ _⟩
  case round =>
    obtain ⟨k, hk, rfl, hb, ho⟩ := hrel
    obtain ⟨av, cv, rfl⟩ := own_shape8 ho
    have HB := hide hb
    have HO := hide ho
    clear hb ho
    by_cases hkl : k < xs.length
    · obtain ⟨x, hx⟩ : ∃ x, xs[k]? = some x := ⟨_, List.getElem?_eq_getElem hkl⟩
      have hxr := HS.out.rng x (List.mem_of_getElem? hx)
      obtain ⟨a, rfl, hcell⟩ := (HS.out.g (below_g HB.out)).at_ k x hx
      have htk : linesT (xs.take (k + 1)) = linesT (xs.take k) ++ lnT x ++ [10] := by
        rw [List.take_add_one, hx]
        exact linesT_snoc _ _
      have HTK := hide htk
      have hll := linesT_len (xs.take k)
      have hlk : (xs.take k).length ≤ 2000 := by simp; omega
      have hlx := lnT_len x
      have x0 := hxr.1
      have x1 := hxr.2
      clear hx htk hxr
      have LC := line_any x x0 x1 wr
      have HLN0 := (show lnT x = if decR x = true then lineX x else bareL x from rfl)
      by_cases hd : decR x = true
      · rw [if_pos hd] at LC HLN0
        generalize lineX x = T at LC HLN0
        have HL := hide LC
        have HLN := hide HLN0
        rw [HLN0] at hlx
        clear LC hd HLN0
        go_wp2_with fail
        refine HL.out.mono ?_
        rintro e w1 ⟨rfl, hg1⟩
        have HO1 := hide (HO.out.kept hg1 (by cases av <;> simp [Value.ownBlock]))
        have hTs := bs_size T
        go_wp2_with (at_builtin; refine Lib.wpList_append_own_string _ rfl _ _ 67 9 rfl w.heap.size 5 i0 Tryz.underlying67 Tryz.underlying9 hi hz0 hz1 hz2 _ _ _ rfl HO1.out (bs T) rfl ?d1 ?d2 ?d3 ?_)
        case d1 => unfold maxLen; omega
        case d2 => omega
        case d3 => have := HB.out.size; have := hg1.size; omega
        intro v2 w2 ho2 hgr2 _
        have HB2 := hide (own_lt_below (below_trans HB.out (g_below_at hg1 HB.out.size)) HO1.out hgr2 (Nat.le_trans HB.out.size hg1.size))
        rw [str_b8, ← List.map_append] at ho2
        try rw [bs_size] at ho2
        obtain ⟨ao2, cp2, rfl⟩ := own_shape8 ho2
        have HO2 := hide ho2
        clear ho2 hgr2
        have hs2 := HB2.out.size
        go_wp2_with (at_builtin; refine wpList_append_own _ rfl _ _ 67 rfl w.heap.size 5 i0 (.int .u8 0) 1 1 Tryz.underlying67 hi hz0 hz1 hz2 rfl (by decide) _ _ _ rfl (HO2.out.alloc _) ⟨w2.heap.size, 0, none⟩ 1 1 [b8 10] rfl rfl ?c1 ?c2 ?c3 ?c4 ?c5 ?_)
        case c1 => exact cell_new8 _ _ _
        case c2 => intro u hu; simp at hu; subst hu; rfl
        case c3 => unfold maxLen; omega
        case c4 => omega
        case c5 => simp; omega
        intro v3 w3 ho3 hgr3 _
        have HB3 := hide (own_lt_below (HB2.out.alloc hs2 (.cells #[b8 10] 5)) (HO2.out.alloc _) hgr3 (by simp; omega))
        have HO3 := hide ho3
        clear ho3 hgr3
        go_wp2
        go_roundw
        case rel =>
          refine ⟨k + 1, by omega, by go_num, HB3.out, ?_⟩
          have e : (linesT (xs.take (k + 1))).map b8 = ((linesT (xs.take k)).map b8 ++ (T.map b8 ++ [b8 10])) := by rw [HTK.out, HLN.out]; simp
          have e2 : (linesT (xs.take (k + 1))).length = (linesT (xs.take k)).length + T.length + 1 := by rw [HTK.out, HLN.out]; simp; omega
          rw [e, e2]
          exact HO3.out
        case measure => simp [intOf]; omega
      · rw [if_neg hd] at LC HLN0
        have HL := hide LC
        have HX := hide (fun W => rhex_any x x0 x1 W)
        have had : ∀ W, (Op.stringOp .add ⟨#[35]⟩ (bs (hexL x))).run Tryz.prog W = .ok (.string (bs (bareL x))) W := fun W => add_at [35] (hexL x) (by rw [hexL_len]; decide) W
        have HAD := hide had
        generalize bareL x = T at HAD HLN0
        generalize hexL x = Hx at HX HAD
        have HLN := hide HLN0
        rw [HLN0] at hlx
        clear LC hd HLN0 had
        go_wp2_with fail
        refine HL.out.mono ?_
        rintro e w0 ⟨rfl, hg0⟩
        have hcell0 := cell_g hg0 hcell
        go_wp2_with fail
        refine (HX.out w0).mono ?_
        rintro e w1 ⟨rfl, hg01⟩
        have hg1 := grown_trans hg0 hg01
        have HO1 := hide (HO.out.kept hg1 (by cases av <;> simp [Value.ownBlock]))
        have hTs := bs_size T
        have had := HAD.out
        go_wp2_with (at_builtin; refine Lib.wpList_append_own_string _ rfl _ _ 67 9 rfl w.heap.size 5 i0 Tryz.underlying67 Tryz.underlying9 hi hz0 hz1 hz2 _ _ _ rfl HO1.out (bs T) rfl ?d1 ?d2 ?d3 ?_)
        case d1 => unfold maxLen; omega
        case d2 => omega
        case d3 => have := HB.out.size; have := hg1.size; omega
        intro v2 w2 ho2 hgr2 _
        have HB2 := hide (own_lt_below (below_trans HB.out (g_below_at hg1 HB.out.size)) HO1.out hgr2 (Nat.le_trans HB.out.size hg1.size))
        rw [str_b8, ← List.map_append] at ho2
        try rw [bs_size] at ho2
        obtain ⟨ao2, cp2, rfl⟩ := own_shape8 ho2
        have HO2 := hide ho2
        clear ho2 hgr2
        have hs2 := HB2.out.size
        go_wp2_with (at_builtin; refine wpList_append_own _ rfl _ _ 67 rfl w.heap.size 5 i0 (.int .u8 0) 1 1 Tryz.underlying67 hi hz0 hz1 hz2 rfl (by decide) _ _ _ rfl (HO2.out.alloc _) ⟨w2.heap.size, 0, none⟩ 1 1 [b8 10] rfl rfl ?c1 ?c2 ?c3 ?c4 ?c5 ?_)
        case c1 => exact cell_new8 _ _ _
        case c2 => intro u hu; simp at hu; subst hu; rfl
        case c3 => unfold maxLen; omega
        case c4 => omega
        case c5 => simp; omega
        intro v3 w3 ho3 hgr3 _
        have HB3 := hide (own_lt_below (HB2.out.alloc hs2 (.cells #[b8 10] 5)) (HO2.out.alloc _) hgr3 (by simp; omega))
        have HO3 := hide ho3
        clear ho3 hgr3
        go_wp2
        go_roundw
        case rel =>
          refine ⟨k + 1, by omega, by go_num, HB3.out, ?_⟩
          have e : (linesT (xs.take (k + 1))).map b8 = ((linesT (xs.take k)).map b8 ++ (T.map b8 ++ [b8 10])) := by rw [HTK.out, HLN.out]; simp
          have e2 : (linesT (xs.take (k + 1))).length = (linesT (xs.take k)).length + T.length + 1 := by rw [HTK.out, HLN.out]; simp; omega
          rw [e, e2]
          exact HO3.out
        case measure => simp [intOf]; omega
    · have hk' : k = xs.length := by omega
      subst hk'
      have hcv := conv_own HO.out
      rw [List.take_length] at hcv
      go_wp2_with fail
      go_ret
      exact ⟨rfl, below_g HB.out⟩
end Go.Proofs.YtjeogojgabfbiaaGreatDoor.Asm
namespace Go.Proofs.YtjeogojgabfbiaaGreatDoor.Asm
open Go.RowKit Go.Maps Go.Proofs.YtjeogojgabfbiaaGreatDoor.Bits Go.Proofs.YtjeogojgabfbiaaGreatDoor.Gw Go.Proofs.YtjeogojgabfbiaaGreatDoor.Risc Go.Proofs.YtjeogojgabfbiaaGreatDoor.Tx Go.Proofs.YtjeogojgabfbiaaGreatDoor.Mp
set_option linter.unusedVariables false
set_option linter.unusedSimpArgs false
set_option maxRecDepth 100000

theorem u8_eq {c d : UInt8} (h : c.toNat = d.toNat) : c = d := UInt8.toNat_inj.1 h
theorem hxd_inj {c d : UInt8} (hc : isHx c = true) (hd : isHx d = true) (h : hxd c = hxd d) : c = d := by
  apply u8_eq
  simp [isHx] at hc hd
  unfold hxd at h
  split at h <;> split at h <;> omega
theorem hxVal_inj : ∀ (n : Nat) (l l' : List UInt8), l.length = n → l'.length = n → l.all isHx = true → l'.all isHx = true → hxVal l = hxVal l' → l = l'
  | 0, l, l', h, h', _, _, _ => by rw [List.length_eq_zero_iff.1 h, List.length_eq_zero_iff.1 h']
  | n + 1, l, l', h, h', a, a', e => by
    rcases List.eq_nil_or_concat l with rfl | ⟨m, c, rfl⟩
    · simp at h
    · rcases List.eq_nil_or_concat l' with rfl | ⟨m', c', rfl⟩
      · simp at h'
      · simp only [List.concat_eq_append] at *
        simp at h h' a a'
        rw [hxVal_snoc, hxVal_snoc] at e
        have h1 := hxd_lt a.2
        have h2 := hxd_lt a'.2
        have h3 := hxVal_inj n m m' h h' (by simpa using a.1) (by simpa using a'.1) (by omega)
        have h4 := hxd_inj a.2 a'.2 (by omega)
        rw [h3, h4]
theorem hexL_val {t : List UInt8} (hl : t.length = 8) (h : t.all isHx = true) : U32 (hxVal t : Nat) ∧ hexL (hxVal t : Nat) = t := by
  have hlt := hxVal_lt 8 t hl h
  have hu : U32 ((hxVal t : Nat) : Int) := ⟨by omega, by have : (16 : Nat) ^ 8 = 4294967296 := by decide
                                                         omega⟩
  refine ⟨hu, ?_⟩
  obtain ⟨a, b, c⟩ := hexL_facts hu
  simp only [hexOk, Bool.and_eq_true] at a
  exact hxVal_inj 8 _ _ c hl a.1 h (by omega)
/- What the digit's search finds below k. -/
def fdI (c : UInt8) (k : Nat) : Int := if isHx c = true ∧ hxd c < k then hxd c else -1
theorem hexC_is {c : UInt8} (k : Nat) (h : k < 16) : (hexC k = c) ↔ (isHx c = true ∧ hxd c = k) := by
  have := hexC_facts k h
  constructor
  · rintro rfl; exact this
  · rintro ⟨a, b⟩; exact hxd_inj this.1 a (by rw [this.2, b])
theorem fd_hit {c : UInt8} {k : Nat} (h : k < 16) (e : hexC k = c) : fdI c (k + 1) = k := by
  obtain ⟨a, b⟩ := (hexC_is k h).1 e
  unfold fdI
  rw [if_pos ⟨a, by omega⟩, b]
theorem fd_miss {c : UInt8} {k : Nat} (h : k < 16) (e : hexC k ≠ c) : fdI c (k + 1) = fdI c k := by
  unfold fdI
  by_cases hc : isHx c = true
  · have : hxd c ≠ k := fun h' => e ((hexC_is k h).2 ⟨hc, h'⟩)
    by_cases hk : hxd c < k
    · rw [if_pos ⟨hc, by omega⟩, if_pos ⟨hc, hk⟩]
    · rw [if_neg (by omega), if_neg (by omega)]
  · rw [if_neg (by simp [hc]), if_neg (by simp [hc])]
theorem fd_end (c : UInt8) : fdI c 16 = if isHx c = true then (hxd c : Int) else -1 := by
  unfold fdI
  by_cases hc : isHx c = true
  · have := hxd_lt hc
    rw [if_pos ⟨hc, this⟩, if_pos hc]
  · rw [if_neg (by simp [hc]), if_neg hc]
set_option maxHeartbeats 4000000 in
theorem hash_any (s : List UInt8) (hs : s.length ≤ 200000) (w : World) :
    Calls Tryz.prog 34 #[.string (bs s)] w fun e w' => w.grownBy w' none ∧ ∃ v ok, e = .returned (.tuple #[.int .u32 v, .bool ok]) ∧ (ok = true → U32 v ∧ decR v = false ∧ s = bareL v) ∧ ((∃ x, U32 x ∧ decR x = false ∧ s = bareL x) → ok = true) := by
  have hz := bs_size s
  by_cases h9 : s.length = 9
  · obtain ⟨c0, t, rfl⟩ : ∃ c0 t, s = c0 :: t := by cases s with | nil => simp at h9 | cons c t => exact ⟨c, t, rfl⟩
    have ht : t.length = 8 := by simpa using h9
    have hg0 : ∀ h, (bs (c0 :: t))[0]'h = c0 := fun h => by rw [bs_get]; rfl
    by_cases hc0 : c0 = 35
    · subst hc0
      have hg : ∀ (i : Nat) (c : UInt8), 1 ≤ i → t[i - 1]? = some c → ∀ h, (bs (35 :: t))[i]'h = c := fun i c hi hj h => by
        rw [bs_get]
        obtain ⟨h', e⟩ := List.getElem?_eq_some_iff.1 hj
        match i, hi with
        | i + 1, _ => exact e
      have HG := hide hg
      generalize bs (35 :: t) = S at hz hg0 HG ⊢
      rw [h9] at hz
      clear hg
      go_enter Tryz.func34, Tryz.ntmps34
      go_wp2
      go_loopw [4, 5] (fun wv iv W => ∃ i : Nat, 1 ≤ i ∧ i ≤ 9 ∧ wv = .int .u32 (hxVal (t.take (i - 1)) : Nat) ∧ iv = .int .i64 i ∧ (t.take (i - 1)).all isHx = true ∧ w.grownBy W none) (fun _ iv _ => 9 - (intOf iv).toNat)
      case atStart => exact ⟨1, by omega, by omega, rfl, rfl, rfl, World.grownBy.refl _ _⟩
      case round =>
        obtain ⟨i, hi1, hi9, rfl, rfl, hall, hg⟩ := hrel
        have HW := hide hg
        have hvl := hxVal_lt _ _ rfl hall
        clear hg
        by_cases hlt : i < 9
        · obtain ⟨c, hc⟩ : ∃ c, t[i - 1]? = some c := ⟨_, List.getElem?_eq_getElem (by omega)⟩
          have hgc := HG.out i c hi1 hc
          have htk : t.take i = t.take (i - 1) ++ [c] := by
            have : i = (i - 1) + 1 := by omega
            rw [this, List.take_add_one, Nat.add_sub_cancel, hc]; rfl
          have HTK := hide htk
          have hpow : (16 : Nat) ^ (t.take (i - 1)).length ≤ 16 ^ 7 := Nat.pow_le_pow_right (by decide) (by simp; omega)
          have hp7 : (16 : Nat) ^ 7 = 268435456 := by decide
          have hv7 : hxVal (t.take (i - 1)) < 268435456 := by omega
          have HAL := hide hall
          clear hpow hp7 hvl htk hall
          have HV := hide (hxVal_snoc (t.take (i - 1)) c)
          generalize hxVal (t.take (i - 1)) = V at HV hv7 ⊢
          go_wp2
          go_loopw [6, 7] (fun dv kv W => ∃ k : Nat, k ≤ 16 ∧ dv = .int .i64 (fdI c k) ∧ kv = .int .i64 k ∧ w.grownBy W none) (fun _ kv _ => 16 - (intOf kv).toNat)
          case atStart => exact ⟨0, by omega, by simp [fdI], rfl, HW.out⟩
          case round =>
            obtain ⟨k, hk, rfl, rfl, hgk⟩ := hrel
            have HK := hide hgk
            clear hgk
            by_cases hk16 : k < 16
            · have hch := ch16 k hk16
              by_cases he : hexC k = c
              · have HF := hide (fd_hit hk16 he)
                generalize fdI c k = F at HF ⊢
                have hq : ((hexC k).toNat : Int) = c.toNat := by rw [he]
                clear he
                generalize hexC k = H at hch hq
                go_wp2
                go_quiet (fail)
                go_wp2
                exact ⟨⟨k + 1, by omega, by rw [HF.out], by go_num, grown_trans HK.out (drewN_g _ _)⟩, by simp [intOf]; omega⟩
              · have HF := hide (fd_miss hk16 he)
                generalize fdI c k = F at HF ⊢
                have hq : ¬ (((hexC k).toNat : Int) = c.toNat) := fun h => he (u8_eq (by omega))
                clear he
                generalize hexC k = H at hch hq
                go_wp2
                go_quiet (fail)
                go_wp2
                exact ⟨⟨k + 1, by omega, by rw [HF.out], by go_num, grown_trans HK.out (drewN_g _ _)⟩, by simp [intOf]; omega⟩
            · obtain rfl : k = 16 := by omega
              rw [fd_end]
              by_cases hx : isHx c = true
              · rw [if_pos hx]
                have hh := hxd_lt hx
                have HALL := hide (show (t.take i).all isHx = true by rw [HTK.out, List.all_append, HAL.out]; simp [hx])
                rw [← HTK.out] at HV
                generalize hxd c = h at HV hh ⊢
                go_wp2
                refine ⟨⟨i + 1, by omega, by omega, ?_, by go_num, by rw [Nat.add_sub_cancel]; exact HALL.out, HK.out⟩, by simp [intOf]; omega⟩
                rw [Nat.add_sub_cancel, HV.out]
                congr 1
                omega
              · rw [if_neg hx]
                have HNO := hide (fun (x : Int) (hu : U32 x) (e : (35 : UInt8) :: t = bareL x) => hx (by
                  have e1 : t = hexL x := by simpa [bareL] using e
                  have := (hexL_facts hu).1
                  simp only [hexOk, Bool.and_eq_true] at this
                  rw [← e1] at this
                  exact List.all_eq_true.1 this.1 c (List.mem_of_getElem? hc)))
                go_wp2
                go_ret2
                exact ⟨HK.out, 0, false, rfl, fun h => (by cases h), fun ⟨x, hu, _, e⟩ => absurd e (HNO.out x hu)⟩
        · obtain rfl : i = 9 := by omega
          have e8 : t.take (9 - 1) = t := by rw [List.take_of_length_le (by omega)]
          rw [e8] at hall hvl ⊢
          obtain ⟨hu, hL⟩ := hexL_val ht hall
          have DC := rdecode_any (hxVal t : Nat) wr hu.1 hu.2
          have HL := hide hL
          have HU := hide hu
          have HVX := hide (fun (x : Int) (hx : U32 x) (e : (35 : UInt8) :: t = bareL x) => (show x = (hxVal t : Nat) by
            have e1 : t = hexL x := by simpa [bareL] using e
            rw [e1, (hexL_facts hx).2.1]))
          generalize ((hxVal t : Nat) : Int) = V at DC HL HU HVX ⊢
          clear hu hL hall hvl e8
          cases hd : decR V
          · rw [if_neg (by rw [hd]; simp)] at DC
            have HD := hide DC
            clear DC
            go_wp2_with fail
            refine HD.out.mono ?_
            rintro e w1 ⟨rfl, p, rfl⟩
            go_wp2_with fail
            go_ret2
            exact ⟨grown_trans HW.out (grown_trans (g_grown ⟨p, rfl⟩) (World.grownBy_alloc _ _ none)), V, true, rfl, fun _ => ⟨HU.out, hd, by rw [bareL, HL.out]⟩, fun _ => rfl⟩
          · rw [if_pos hd] at DC
            have HD := hide DC
            clear DC
            go_wp2_with fail
            refine HD.out.mono ?_
            rintro e w1 ⟨rfl, p, rfl⟩
            go_wp2_with fail
            go_ret2
            exact ⟨grown_trans HW.out (grown_trans (g_grown ⟨p, rfl⟩) (World.grownBy_alloc _ _ none)), V, false, rfl, fun h => (by cases h), fun ⟨x, hx, hn, e⟩ => by rw [HVX.out x hx e, hd] at hn; cases hn⟩
    · have hne : ¬ ((c0.toNat : Int) = 35) := fun h => hc0 (u8_eq (by have : (35 : UInt8).toNat = 35 := rfl
                                                                      omega))
      have hsz : (bs (c0 :: t)).size = 9 := by rw [bs_size]; exact h9
      go_enter Tryz.func34, Tryz.ntmps34
      go_wp2
      go_ret2
      refine ⟨World.grownBy.refl _ _, 0, false, rfl, fun h => (by cases h), fun ⟨x, _, _, e⟩ => ?_⟩
      simp [bareL] at e
      exact absurd e.1 hc0
  · go_enter Tryz.func34, Tryz.ntmps34
    go_wp2
    go_ret2
    refine ⟨World.grownBy.refl _ _, 0, false, rfl, fun h => (by cases h), fun ⟨x, hx, _, e⟩ => ?_⟩
    have := hexL_len x
    rw [e] at h9
    simp [bareL, this] at h9
end Go.Proofs.YtjeogojgabfbiaaGreatDoor.Asm
namespace Go.Proofs.YtjeogojgabfbiaaGreatDoor.Asm
open Go.RowKit Go.Maps Go.Proofs.YtjeogojgabfbiaaGreatDoor.Bits Go.Proofs.YtjeogojgabfbiaaGreatDoor.Gw Go.Proofs.YtjeogojgabfbiaaGreatDoor.Risc Go.Proofs.YtjeogojgabfbiaaGreatDoor.Tx Go.Proofs.YtjeogojgabfbiaaGreatDoor.Mp
set_option linter.unusedVariables false
set_option linter.unusedSimpArgs false
set_option maxRecDepth 100000

theorem drop_at {s : List UInt8} {f i : Nat} {c : UInt8} (hf : f ≤ i) (hc : s[i]? = some c) : s.drop f = (s.drop f).take (i - f) ++ c :: s.drop (i + 1) := by
  have h1 : (s.drop f).drop (i - f) = s.drop i := by rw [List.drop_drop]; congr 1; omega
  have h2 : s.drop i = c :: s.drop (i + 1) := by
    obtain ⟨h, e⟩ := List.getElem?_eq_some_iff.1 hc
    rw [← e]; exact List.drop_eq_getElem_cons h
  calc s.drop f = (s.drop f).take (i - f) ++ (s.drop f).drop (i - f) := (List.take_append_drop _ _).symm
    _ = _ := by rw [h1, h2]
theorem take_next {s : List UInt8} {f i : Nat} {c : UInt8} (hf : f ≤ i) (hc : s[i]? = some c) : (s.drop f).take (i + 1 - f) = (s.drop f).take (i - f) ++ [c] := by
  have e : i + 1 - f = (i - f) + 1 := by omega
  rw [e, List.take_add_one, List.getElem?_drop]
  have : f + (i - f) = i := by omega
  rw [this, hc]; rfl
theorem word_cases (p : List UInt8) (hp : p.length ≤ 20000) (w : World) :
    Calls Tryz.prog 11 #[.string (bs p)] w fun e w' => w.grownBy w' none ∧ ((∃ x, U32 x ∧ decR x = true ∧ lineX x = p ∧ e = .returned (.tuple #[.int .u32 x, .int .i64 0])) ∨ ((∀ x, U32 x → decR x = true → lineX x ≠ p) ∧ e = .returned (.tuple #[.int .u32 0, .int .i64 60]))) := by
  refine (word_any p (by omega) w).mono ?_
  rintro e w' ⟨rfl, hg⟩
  refine ⟨hg, ?_⟩
  by_cases h : ∃ x, U32 x ∧ decR x = true ∧ lineX x = p
  · obtain ⟨x, hu, hd, hl⟩ := h
    exact .inl ⟨x, hu, hd, hl, by rw [← hl, wV_line hd]⟩
  · exact .inr ⟨fun x hu hd hl => h ⟨x, hu, hd, hl⟩, by rw [wV_no fun x a b c d => h ⟨x, ⟨a, b⟩, c, d⟩]; rfl⟩
set_option maxHeartbeats 4000000 in
theorem rwords_any (s : List UInt8) (hs : s.length ≤ 20000) (w : World) :
    Calls Tryz.prog 13 #[.string (bs s)] w fun e w' => ∃ ys t, Sp s ys t ∧ w.grownBy w' none ∧ ((t = [] ∧ ∃ v, e = .returned (.tuple #[v, .int .i64 0, .int .i64 0]) ∧ w'.ownsRow w.heap.size 22 1 v ys.length (ys.map wdU)) ∨ (t ≠ [] ∧ e = .returned (.tuple #[.slice none 0 0, .int .i64 (ys.length : Nat), .int .i64 60]))) := by
  have hz := bs_size s
  obtain ⟨i0, hii, hz0, hz1, hz2⟩ := info_parts infoU
  go_enter Tryz.func13, Tryz.ntmps13
  go_wp2
  go_loopw [5, 6] (fun nv iv W => ∃ i m : Nat, m ≤ i ∧ i ≤ s.length ∧ nv = .int .i64 m ∧ iv = .int .i64 i ∧ W = w) (fun _ iv _ => s.length - (intOf iv).toNat)
  case atStart => exact ⟨0, 0, by omega, by omega, rfl, rfl, rfl⟩
  case round =>
    obtain ⟨i, m, hm, hi, rfl, rfl, hw⟩ := hrel
    have hw := hw.symm
    subst hw
    by_cases hlt : i < s.length
    · obtain ⟨c, hc⟩ : ∃ c, s[i]? = some c := ⟨_, List.getElem?_eq_getElem hlt⟩
      have hg : ∀ h, (bs s)[i]'h = c := fun h => by rw [bs_get]; exact (List.getElem?_eq_some_iff.1 hc).2
      clear hc
      by_cases h10 : (c.toNat : Int) = 10
      · go_wp2
        exact ⟨⟨i + 1, m + 1, by omega, by omega, by go_num, by go_num, trivial⟩, by simp [intOf]; omega⟩
      · go_wp2
        exact ⟨⟨i + 1, m, by omega, by omega, by go_num, by go_num, trivial⟩, by simp [intOf]; omega⟩
    · have hm2 : ¬ ((65536 : Int) < m) := by omega
      go_wp2
      clear hm hi
      go_loopw [7, 8, 9] (fun ov fv iv W => ∃ (i f : Nat) (ys : List Int), f ≤ i ∧ i ≤ s.length ∧ fv = .int .i64 f ∧ iv = .int .i64 i ∧ s.take f = linesT ys ∧ (10 : UInt8) ∉ (s.drop f).take (i - f) ∧ (∀ y ∈ ys, U32 y) ∧ ys.length ≤ f ∧ Below w.heap.size w W ∧ W.ownsRow w.heap.size 22 1 ov ys.length (ys.map wdU)) (fun _ _ iv _ => s.length - (intOf iv).toNat)
      case atStart => exact ⟨0, 0, [], by omega, by omega, rfl, rfl, rfl, by simp, by simp, by simp, Below.refl _ _, World.ownsRow_nil _ _ _ _⟩
      case round =>
        obtain ⟨i, f, ys, hfi, hil, rfl, rfl, htk, hno, hr, hyf, hb, ho⟩ := hrel
        obtain ⟨ao, cp, rfl⟩ := own_shape ho
        have HT := hide htk
        have HN := hide hno
        have HR := hide hr
        have HB := hide hb
        have HO := hide ho
        have hsp : s = linesT ys ++ s.drop f := by rw [← htk, List.take_append_drop]
        have HSP := hide hsp
        clear htk hno hr hb ho hsp
        by_cases hlt : i < s.length
        · obtain ⟨c, hc⟩ : ∃ c, s[i]? = some c := ⟨_, List.getElem?_eq_getElem hlt⟩
          have hg : ∀ h, (bs s)[i]'h = c := fun h => by rw [bs_get]; exact (List.getElem?_eq_some_iff.1 hc).2
          have HD := hide (drop_at hfi hc)
          have HTN0 := hide (take_next hfi hc)
          by_cases h10 : (c.toNat : Int) = 10
          · have hc10 : c = 10 := u8_eq (by have : (10 : UInt8).toNat = 10 := rfl
                                            omega)
            subst hc10
            clear h10
            have hpl : ((s.drop f).take (i - f)).length ≤ 20000 := by simp; omega
            have hx : (bs s).extract f i = bs ((s.drop f).take (i - f)) := bs_ext s f i
            have htn : s.take (i + 1) = linesT ys ++ ((s.drop f).take (i - f) ++ [10]) := by
              rw [← HTN0.out, ← HT.out]
              have e : i + 1 = f + (i + 1 - f) := by omega
              rw [e, List.take_add, Nat.add_sub_cancel_left]
            have HP := HN.out
            have HDD := HD.out
            generalize (s.drop f).take (i - f) = p at hpl hx htn HP HDD
            have HTP := hide htn
            have HNP := hide HP
            have HDP := hide HDD
            clear htn HP HDD HTN0 HD HN hc
            have HNEW := hide (fun (v : Int) (hv : lnT v = p) => (show s.take (i + 1) = linesT (ys ++ [v]) by rw [HTP.out, linesT_snoc, hv, List.append_assoc]))
            have HRN0 := hide (fun (v : Int) (hv : U32 v) => (show ∀ y ∈ ys ++ [v], U32 y from fun y hy => (List.mem_append.1 hy).elim (HR.out y) (fun h => by simp at h; rw [h]; exact hv)))
            go_wp2_with fail
            refine (hash_any p (by omega) _).mono ?_
            rintro e w1 ⟨hg1, v, ok, rfl, hok, hno⟩
            have HOK := hide hok
            have HNO := hide hno
            clear hok hno
            cases ok
            · go_wp2_with fail
              refine (word_cases p hpl w1).mono ?_
              rintro e w2 ⟨hg12, ⟨x, hu, hd, hl, rfl⟩ | ⟨hw, rfl⟩⟩
              · have hg2 := grown_trans hg1 hg12
                have HTN := hide (HNEW.out x (by rw [lnT, if_pos hd, hl]))
                have HRN := hide (HRN0.out x hu)
                clear hl hd hu hg12
                have HO2 := hide (HO.out.kept hg2 (by cases ao <;> simp [Value.ownBlock]))
                have hs2 : w.heap.size ≤ w2.heap.size := by have := HB.out.size; have := hg2.size; omega
                go_wp2_with (at_builtin; refine wpList_append_own _ rfl _ _ 35 rfl w.heap.size 22 i0 (.int .u32 0) 1 4 Tryz.underlying35 hii hz0 hz1 hz2 rfl (by decide) _ _ _ rfl (HO2.out.alloc _) ⟨w2.heap.size, 0, none⟩ 1 1 [wdU x] rfl rfl ?c1 ?c2 ?c3 ?c4 ?c5 ?_)
                case c1 => exact cell_one_new' _ _ _
                case c2 => intro u hu; simp at hu; subst hu; rfl
                case c3 => unfold maxLen; omega
                case c4 => omega
                case c5 => simp; omega
                intro v' w3 hown' hgrow _
                have HB3 := hide (own_lt_below ((below_trans HB.out (g_below_at hg2 HB.out.size)).alloc hs2 (.cells #[wdU x] 22)) (HO2.out.alloc _) hgrow (by simp; omega))
                have HO3 := hide hown'
                clear hown' hgrow
                go_wp2
                refine ⟨⟨i + 1, i + 1, ys ++ [x], Nat.le_refl _, by omega, by go_num, by go_num, HTN.out, by simp, HRN.out, by simp; omega, HB3.out, by simpa using HO3.out⟩, by simp [intOf]; omega⟩
              · go_wp2_with fail
                go_ret3
                refine ⟨ys, s.drop f, ⟨HSP.out, HR.out, ?_⟩, grown_trans (below_g HB.out) (grown_trans hg1 hg12), .inr ⟨by simp; omega, rfl⟩⟩
                rintro ⟨x, r, hu, e⟩
                rw [HDP.out] at e
                obtain ⟨e1, _⟩ := line_eq HNP.out (lnT_no10 hu) e
                by_cases hd : decR x = true
                · exact hw x hu hd (by rw [e1, lnT, if_pos hd])
                · have := HNO.out ⟨x, hu, by simpa using hd, by rw [e1, lnT, if_neg hd]⟩
                  cases this
            · obtain ⟨hu, hd, hb⟩ := HOK.out rfl
              have HTN := hide (HNEW.out v (by rw [lnT, if_neg (by rw [hd]; simp), hb]))
              have HRN := hide (HRN0.out v hu)
              clear hu hd hb
              have HO2 := hide (HO.out.kept hg1 (by cases ao <;> simp [Value.ownBlock]))
              have hs2 : w.heap.size ≤ w1.heap.size := by have := HB.out.size; have := hg1.size; omega
              go_wp2_with (at_builtin; refine wpList_append_own _ rfl _ _ 35 rfl w.heap.size 22 i0 (.int .u32 0) 1 4 Tryz.underlying35 hii hz0 hz1 hz2 rfl (by decide) _ _ _ rfl (HO2.out.alloc _) ⟨w1.heap.size, 0, none⟩ 1 1 [wdU v] rfl rfl ?c1 ?c2 ?c3 ?c4 ?c5 ?_)
              case c1 => exact cell_one_new' _ _ _
              case c2 => intro u hu; simp at hu; subst hu; rfl
              case c3 => unfold maxLen; omega
              case c4 => omega
              case c5 => simp; omega
              intro v' w3 hown' hgrow _
              have HB3 := hide (own_lt_below ((below_trans HB.out (g_below_at hg1 HB.out.size)).alloc hs2 (.cells #[wdU v] 22)) (HO2.out.alloc _) hgrow (by simp; omega))
              have HO3 := hide hown'
              clear hown' hgrow
              go_wp2
              refine ⟨⟨i + 1, i + 1, ys ++ [v], Nat.le_refl _, by omega, by go_num, by go_num, HTN.out, by simp, HRN.out, by simp; omega, HB3.out, by simpa using HO3.out⟩, by simp [intOf]; omega⟩
          · have hc10 : c ≠ 10 := fun h => h10 (by rw [h]; rfl)
            clear hc
            go_wp2
            exact ⟨⟨i + 1, f, ys, by omega, by omega, by go_num, by go_num, HT.out, by rw [HTN0.out]; simp [HN.out, Ne.symm hc10], HR.out, hyf, HB.out, HO.out⟩, by simp [intOf]; omega⟩
        · obtain rfl : i = s.length := by omega
          by_cases hfl : f < s.length
          · go_wp2
            go_ret3
            refine ⟨ys, s.drop f, ⟨HSP.out, HR.out, no_end ?_⟩, below_g HB.out, .inr ⟨by simp; omega, rfl⟩⟩
            have := HN.out
            rwa [List.take_of_length_le (by simp)] at this
          · go_wp2
            go_ret3
            have hd : s.drop f = [] := List.drop_eq_nil_iff.2 (by omega)
            have e := HSP.out
            rw [hd] at e
            exact ⟨ys, [], ⟨e, HR.out, stl_nil⟩, below_g HB.out, .inl ⟨rfl, _, rfl, HO.out⟩⟩
end Go.Proofs.YtjeogojgabfbiaaGreatDoor.Asm
namespace Go.Proofs.YtjeogojgabfbiaaGreatDoor.Asm
open Go.RowKit Go.Maps Go.Proofs.YtjeogojgabfbiaaGreatDoor.Bits Go.Proofs.YtjeogojgabfbiaaGreatDoor.Gw Go.Proofs.YtjeogojgabfbiaaGreatDoor.Risc Go.Proofs.YtjeogojgabfbiaaGreatDoor.Tx Go.Proofs.YtjeogojgabfbiaaGreatDoor.Mp
set_option linter.unusedVariables false
set_option linter.unusedSimpArgs false
set_option maxRecDepth 100000

theorem Wl.g' {w w' : World} {ao : Option Addr} {n cp : Nat} {xs : List Int} (h : Wl w ao n cp xs) (hg : w.grownBy w' Option.none) : Wl w' ao n cp xs := ⟨h.src.g hg, h.len, h.none, h.max⟩
theorem empty_new' (w : World) (e : TypeId) : (w.alloc (.cells #[] e)).heap[w.heap.size]? = some (.cells #[] e (0, 0)) := heap_alloc_new _ _
theorem cw_text (s : List UInt8) (hs : s.length ≤ 20000) (w : World) (A : AH w) :
    Calls Tryz.prog 12 #[.string (bs s)] w fun e w' => w.grownBy w' none ∧ ∃ ys t, Sp s ys t ∧ ys.length ≤ 20000 ∧ ((t = [] ∧ ∃ ao cp, e = .returned (.tuple #[.slice ao ys.length cp, .int .i64 0, .int .i64 0]) ∧ Sr w' ao ys) ∨ (t ≠ [] ∧ e = .returned (.tuple #[.slice none 0 0, .int .i64 (ys.length : Nat), .int .i64 60]))) := by
  refine (cwords_any s (by omega) (by have := List.count_le_length (a := (10 : UInt8)) (l := s); omega) w A).mono ?_
  rintro e w' ⟨ys, t, hS, hg, h⟩
  have hl : ys.length ≤ 20000 := by
    have := lines_ge ys
    have e := congrArg List.length hS.eq
    simp at e; omega
  refine ⟨hg, ys, t, hS, hl, ?_⟩
  rcases h with ⟨ht, v, rfl, ho⟩ | ⟨h, rfl⟩
  · obtain ⟨ao, cp, rfl, S⟩ := own_sr ho hS.rng
    exact .inl ⟨ht, ao, cp, rfl, S⟩
  · exact .inr ⟨h, rfl⟩
theorem rw_text (s : List UInt8) (hs : s.length ≤ 20000) (w : World) {ys : List Int} {t : List UInt8} (hS : Sp s ys t) :
    Calls Tryz.prog 13 #[.string (bs s)] w fun e w' => w.grownBy w' none ∧ ((t = [] ∧ ∃ ao cp, e = .returned (.tuple #[.slice ao ys.length cp, .int .i64 0, .int .i64 0]) ∧ Sr w' ao ys) ∨ (t ≠ [] ∧ e = .returned (.tuple #[.slice none 0 0, .int .i64 (ys.length : Nat), .int .i64 60]))) := by
  refine (rwords_any s hs w).mono ?_
  rintro e w' ⟨ys', t', hS', hg, h⟩
  obtain ⟨rfl, rfl⟩ := Sp.uniq hS' hS
  refine ⟨hg, ?_⟩
  rcases h with ⟨ht, v, rfl, ho⟩ | ⟨h, rfl⟩
  · obtain ⟨ao, cp, rfl, S⟩ := own_sr ho hS.rng
    exact .inl ⟨ht, ao, cp, rfl, S⟩
  · exact .inr ⟨h, rfl⟩
set_option maxHeartbeats 8000000 in
theorem lists_walk (w : World) (A : AH w) (o0 : Option Addr) (n0 c0 : Nat) (x0 : List Int) (W0 : Wl w o0 n0 c0 x0) (s : List UInt8) (z1 : s.length ≤ 9223372036854775807) :
    Calls Tryz.prog 5 #[.slice o0 n0 c0, .string (bs s)] w fun e w' => e = .returned (.bool true) ∧ w.grownBy w' none := by
  have HA := hide A
  have hsz := bs_size s
  have hmx := W0.max
  unfold maxLen at hmx
  have HW := hide W0
  clear A W0
  by_cases hn : 2000 < n0
  · go_enter Tryz.func5, Tryz.ntmps5
    go_wp2_with fail
    refine (wakes_any _ HA.out.al).mono ?_
    rintro e w3 ⟨rfl, hg3⟩
    go_wp2_with fail
    go_ret
    exact ⟨rfl, hg3⟩
  · by_cases hl : 20000 < s.length
    · go_enter Tryz.func5, Tryz.ntmps5
      go_wp2_with fail
      refine (wakes_any _ HA.out.al).mono ?_
      rintro e w3 ⟨rfl, hg3⟩
      go_wp2_with fail
      go_ret
      exact ⟨rfl, hg3⟩
    · have HE := hide (HW.out.g' (World.grownBy_alloc w (.cells #[] 22) none))
      go_enter Tryz.func5, Tryz.ntmps5
      go_wp2_with (at_builtin; refine wpList_append_src rfl _ _ rfl w.heap.size rfl (empty_new' _ _) o0 n0 c0 rfl x0 HE.out (by omega) w.heap.size (Nat.le_refl _) ?_)
      intro ao' c' w1 S1 hb1
      have hl0 := HW.out.len
      have HG1 := hide (below_gg (World.grownBy_alloc w (.cells #[] 22) none) hb1)
      subst hl0
      have HS1 := hide S1
      clear S1 hb1
      go_wp2_with fail
      refine (cw_text s (by omega) w1 (HA.out.g HG1.out)).mono ?_
      rintro e w2 ⟨hg2, ys, t, hS, hyl, hr⟩
      have RW := hide (fun W => rw_text s (by omega) W hS)
      clear hS
      rcases hr with ⟨ht, a2, c2, rfl, S2⟩ | ⟨ht, rfl⟩
      · have HS2 := hide S2
        clear S2
        go_wp2_with fail
        refine (RW.out w2).mono ?_
        rintro e w3 ⟨hg3, ⟨_, a3, c3, rfl, S3⟩ | ⟨h, _⟩⟩
        · have HS3 := hide S3
          have HG13 := hide (grown_trans hg2 hg3)
          have HG3 := hide (grown_trans HG1.out HG13.out)
          have HG23 := hide hg3
          clear S3 hg2 hg3 ht
          go_wp2_with fail
          refine (clines_any c' (by omega) w3 (HA.out.g HG3.out) (HS1.out.g HG13.out)).mono ?_
          rintro e w4 ⟨rfl, hg4⟩
          have HG4 := hide (grown_trans HG3.out hg4)
          go_wp2_with fail
          refine (rlines_any c0 (by omega) w4 (HW.out.src.g HG4.out)).mono ?_
          rintro e w5 ⟨rfl, hg5⟩
          have HG35 := hide (grown_trans hg4 hg5)
          have HG5 := hide (grown_trans HG4.out hg5)
          clear hg4 hg5
          go_wp2_with fail
          refine (kwords_any c' c0 (HS1.out.g (grown_trans HG13.out HG35.out)) (HW.out.src.g HG5.out) (by omega)).mono ?_
          rintro e w6 ⟨rfl, hg6⟩
          have HG36 := hide (grown_trans HG35.out hg6)
          have HG6 := hide (grown_trans HG5.out hg6)
          clear hg6
          go_wp2_with fail
          refine (kwords_any c2 c3 (HS2.out.g (grown_trans HG23.out HG36.out)) (HS3.out.g HG36.out) (by omega)).mono ?_
          rintro e w7 ⟨rfl, hg7⟩
          have HG7 := hide (grown_trans HG6.out hg7)
          go_wp2_with fail
          refine (wakes_any _ (HA.out.g HG7.out).al).mono ?_
          rintro e w8 ⟨rfl, hg8⟩
          go_wp2_with fail
          go_ret
          exact ⟨rfl, grown_trans HG7.out hg8⟩
        · exact absurd ht h
      · go_wp2_with fail
        refine (RW.out w2).mono ?_
        rintro e w3 ⟨hg3, ⟨h, _⟩ | ⟨_, rfl⟩⟩
        · exact absurd h ht
        · have HG13 := hide (grown_trans hg2 hg3)
          have HG3 := hide (grown_trans HG1.out HG13.out)
          clear hg2 hg3 ht
          go_wp2_with fail
          refine (clines_any c' (by omega) w3 (HA.out.g HG3.out) (HS1.out.g HG13.out)).mono ?_
          rintro e w4 ⟨rfl, hg4⟩
          have HG4 := hide (grown_trans HG3.out hg4)
          go_wp2_with fail
          refine (rlines_any c0 (by omega) w4 (HW.out.src.g HG4.out)).mono ?_
          rintro e w5 ⟨rfl, hg5⟩
          have HG35 := hide (grown_trans hg4 hg5)
          have HG5 := hide (grown_trans HG4.out hg5)
          clear hg4 hg5
          go_wp2_with fail
          refine (kwords_any c' c0 (HS1.out.g (grown_trans HG13.out HG35.out)) (HW.out.src.g HG5.out) (by omega)).mono ?_
          rintro e w6 ⟨rfl, hg6⟩
          have HG36 := hide (grown_trans HG35.out hg6)
          have HG6 := hide (grown_trans HG5.out hg6)
          clear hg6
          go_wp2_with fail
          refine (kwords_any (ao := none) (ao' := none) (xs := []) 0 0 (Sr.nil _ _) (Sr.nil _ _) (by simp)).mono ?_
          rintro e w7 ⟨rfl, hg7⟩
          have HG7 := hide (grown_trans HG6.out hg7)
          go_wp2_with fail
          refine (wakes_any _ (HA.out.g HG7.out).al).mono ?_
          rintro e w8 ⟨rfl, hg8⟩
          go_wp2_with fail
          go_ret
          exact ⟨rfl, grown_trans HG7.out hg8⟩
end Go.Proofs.YtjeogojgabfbiaaGreatDoor.Asm
