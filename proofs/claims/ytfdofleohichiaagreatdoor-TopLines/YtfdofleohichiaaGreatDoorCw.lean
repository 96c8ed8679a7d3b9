/-
  Package asm: operands, what is written.
  Package asm: what is written.
  Package asm: numbers of texts; the instruction of a kind and numbers.
  Package asm: the numbers of a line's parts.
  Package asm: the line of a word.
  Package asm: the word of a line.
  Package asm: the word of a line, as one.
  Package asm: Line, Word; the statements' own first question.
-/
import Derived.Test.YtfdofleohichiaaGreatDoorCd1
import Derived.Test.YtfdofleohichiaaGreatDoorWd1
import Derived.Test.YtfdofleohichiaaGreatDoorAx
namespace Go.Proofs.YtfdofleohichiaaGreatDoor.Asm
open Go.RowKit Go.Maps Go.Proofs.YtfdofleohichiaaGreatDoor.Bits Go.Proofs.YtfdofleohichiaaGreatDoor.Gw Go.Proofs.YtfdofleohichiaaGreatDoor.Risc Go.Proofs.YtfdofleohichiaaGreatDoor.Tx Go.Proofs.YtfdofleohichiaaGreatDoor.Mp
set_option linter.unusedVariables false
set_option linter.unusedSimpArgs false
set_option maxRecDepth 100000

abbrev ibox (f : Int) (u v : Bool) (a b c op im : Int) : Obj := .cells #[.int .i64 f, .bool u, .bool v, .int .i64 a, .int .i64 b, .int .i64 c, .int .i64 op, .int .i64 im] 72
theorem box_at {w W : World} {f : Int} {u v : Bool} {a b c op im : Int} (h : (w.alloc (ibox f u v a b c op im)).grownBy W none) :
    W.cell? ⟨w.heap.size, 0, none⟩ = some (.int .i64 f) ∧ W.cell? ⟨w.heap.size, 1, none⟩ = some (.bool u) ∧ W.cell? ⟨w.heap.size, 2, none⟩ = some (.bool v) ∧ W.cell? ⟨w.heap.size, 3, none⟩ = some (.int .i64 a) ∧
    W.cell? ⟨w.heap.size, 4, none⟩ = some (.int .i64 b) ∧ W.cell? ⟨w.heap.size, 5, none⟩ = some (.int .i64 c) ∧ W.cell? ⟨w.heap.size, 6, none⟩ = some (.int .i64 op) ∧ W.cell? ⟨w.heap.size, 7, none⟩ = some (.int .i64 im) := by
  have k : ∀ i, W.cell? ⟨w.heap.size, i, none⟩ = (#[.int .i64 f, .bool u, .bool v, .int .i64 a, .int .i64 b, .int .i64 c, .int .i64 op, .int .i64 im] : Array Value)[i]? := fun i => by
    rw [gcell h _ _ (by simp), cell_of_row _ _ _ _ _ _ (heap_alloc_new _ _)]
  exact ⟨k 0, k 1, k 2, k 3, k 4, k 5, k 6, k 7⟩
def lastI (f : Int) (u : Bool) (c im : Int) : List UInt8 := if rgK4 f u = true then regI c else decI im
def opnL (f : Int) (u : Bool) (a b c im : Int) : List (List UInt8) := if f = 3 then [lastI f u c im] else [regI a, regI b, lastI f u c im]
structure Sml (a b c im : Int) : Prop where
  a : -100000000000 < a ∧ a < 100000000000
  b : -100000000000 < b ∧ b < 100000000000
  c : -100000000000 < c ∧ c < 100000000000
  im : -100000000000 < im ∧ im < 100000000000
/- A new row of texts. -/
def TxRow (w : World) (bk : Nat) (xs : List (List UInt8)) : Prop := bk < w.heap.size ∧ ∀ (j : Nat) x, (xs.map bs)[j]? = some x → w.cell? ⟨bk, 0 + j, none⟩ = some (.string x)
theorem row1 (W : World) (x : List UInt8) : TxRow (W.alloc (.cells #[.string (bs x)] 9)) W.heap.size [x] := ⟨by simp, fun j y h => by
  match j, h with
  | 0, h => simp at h; subst h; simp⟩
theorem row3 (W : World) (x y z : List UInt8) : TxRow (W.alloc (.cells #[.string (bs x), .string (bs y), .string (bs z)] 9)) W.heap.size [x, y, z] := ⟨by simp, fun j q h => by
  have k : ∀ i, (W.alloc (.cells #[.string (bs x), .string (bs y), .string (bs z)] 9)).cell? ⟨W.heap.size, i, none⟩ = (#[.string (bs x), .string (bs y), .string (bs z)] : Array Value)[i]? := fun i => cell_of_row _ _ _ _ _ _ (heap_alloc_new _ _)
  match j, h with
  | 0, h => simp at h; subst h; rw [k]; rfl
  | 1, h => simp at h; subst h; rw [k]; rfl
  | 2, h => simp at h; subst h; rw [k]; rfl⟩
theorem TxRow.g {w w' : World} {bk : Nat} {xs : List (List UInt8)} (h : TxRow w bk xs) (hg : w.grownBy w' none) : TxRow w' bk xs :=
  ⟨Nat.lt_of_lt_of_le h.1 hg.size, fun j x hx => (gcell hg _ _ h.1).trans (h.2 j x hx)⟩
theorem grown_refl (w : World) : w.grownBy w none := ⟨rfl, rfl, rfl, Nat.le_refl _, fun _ _ _ => rfl⟩
theorem rel {wb : World} {f : FuncId} {args : Array Value} {v : Value} (h : ∀ W, wb.grownBy W none → Calls Tryz.prog f args W fun e w' => e = .returned v ∧ W.grownBy w' none) :
    ∀ W, wb.grownBy W none → Calls Tryz.prog f args W fun e w' => e = .returned v ∧ wb.grownBy w' none :=
  fun W hW => (h W hW).mono fun _ _ ⟨he, hg⟩ => ⟨he, grown_trans hW hg⟩
theorem ends_g (f op : Int) (u v : Bool) (w : World) : Calls Tryz.prog 57 #[kd f op u v] w fun e w' => e = .returned (.bool (rgK4 f u)) ∧ w.grownBy w' none :=
  (ends_any f op u v w).mono fun _ _ ⟨he, hw⟩ => ⟨he, hw ▸ World.grownBy_alloc _ _ _⟩
set_option maxHeartbeats 2000000 in
theorem operands_any (f : Int) (u v : Bool) (a b c op im : Int) (S : Sml a b c im) (w : World) (A : AL w) :
    Calls Tryz.prog 69 #[ins f u v a b c op im] w fun e w' => ∃ bk cp, e = .returned (.slice (some ⟨bk, 0, none⟩) (opnL f u a b c im).length cp) ∧ w.grownBy w' none ∧ TxRow w' bk (opnL f u a b c im) ∧ (opnL f u a b c im).length ≤ cp := by
  obtain ⟨wb, hwb⟩ : ∃ wb, w.alloc (ibox f u v a b c op im) = wb := ⟨_, rfl⟩
  have hgb : w.grownBy wb none := hwb ▸ World.grownBy_alloc _ _ _
  have HGB := hide hgb
  have BX := hide (fun W (h : wb.grownBy W none) => box_at (w := w) (f := f) (u := u) (v := v) (a := a) (b := b) (c := c) (op := op) (im := im) (hwb ▸ h))
  have AB : Hid (∀ W, wb.grownBy W none → AL W) := hide (fun W h => A.g (grown_trans hgb h))
  have IT := hide (rel fun W h => itoa_any im S.im.1 S.im.2 W (AB.out W h))
  have RC := hide (rel fun W h => cregister_any c S.c.1 S.c.2 W (AB.out W h))
  have RA := hide (rel fun W h => cregister_any a S.a.1 S.a.2 W (AB.out W h))
  have RB := hide (rel fun W h => cregister_any b S.b.1 S.b.2 W (AB.out W h))
  have KO := hide (rel (wb := wb) fun W _ => kindof_any f u v a b c op im W)
  obtain ⟨ko, hko⟩ : ∃ ko, (if f = 3 then a else op) = ko := ⟨_, rfl⟩
  rw [hko] at KO
  have EN := hide (rel (wb := wb) fun W _ => ends_g f ko u v W)
  have hgW := grown_refl wb
  obtain ⟨k0, k1, k2, k3, k4, k5, k6, k7⟩ := BX.out wb hgW
  have HL := hide (show opnL f u a b c im = if f = 3 then [lastI f u c im] else [regI a, regI b, lastI f u c im] from rfl)
  have HI := hide (show lastI f u c im = if rgK4 f u = true then regI c else decI im from rfl)
  clear A S hgb hko
  cases h3 : (f == 3) <;> cases hr : rgK4 f u
  all_goals
    go_enter Tryz.func69, Tryz.ntmps69
    go_wp2_with fail
    refine (IT.out _ (by first | assumption | exact grown_trans (by assumption) (drew_g _))).mono ?_
    rintro e w1 ⟨rfl, hgW⟩
    obtain ⟨k0, k1, k2, k3, k4, k5, k6, k7⟩ := BX.out _ hgW
    go_wp2_with fail
    refine (KO.out _ (by first | assumption | exact grown_trans (by assumption) (drew_g _))).mono ?_
    rintro e w2 ⟨rfl, hgW⟩
    obtain ⟨k0, k1, k2, k3, k4, k5, k6, k7⟩ := BX.out _ hgW
    go_wp2_with fail
    refine (EN.out _ (by first | assumption | exact grown_trans (by assumption) (drew_g _))).mono ?_
    rintro e w3 ⟨rfl, hgW⟩
    obtain ⟨k0, k1, k2, k3, k4, k5, k6, k7⟩ := BX.out _ hgW
  · have HL2 : Hid (opnL f u a b c im = [regI a, regI b, decI im]) := hide (by rw [HL.out, if_neg (by simpa using h3), HI.out, hr]; simp)
    go_wp2_with fail
    go_region_with (first | (go_at_call_of 110 (Value.int IntKind.i64 a); refine (RA.out _ (by first | assumption | exact grown_trans (by assumption) (drew_g _))).mono ?_; rintro e w7 ⟨rfl, hgW⟩; obtain ⟨k0, k1, k2, k3, k4, k5, k6, k7⟩ := BX.out _ hgW) | (go_at_call_of 110 (Value.int IntKind.i64 b); refine (RB.out _ (by first | assumption | exact grown_trans (by assumption) (drew_g _))).mono ?_; rintro e w8 ⟨rfl, hgW⟩; obtain ⟨k0, k1, k2, k3, k4, k5, k6, k7⟩ := BX.out _ hgW))
    all_goals go_wp2_with fail
    all_goals go_ret
    all_goals rw [HL2.out]
    all_goals exact ⟨_, _, rfl, grown_trans (grown_trans HGB.out hgW) (World.grownBy_alloc _ _ _), row3 _ _ _ _, Nat.le_refl _⟩
  · have HL2 : Hid (opnL f u a b c im = [regI a, regI b, regI c]) := hide (by rw [HL.out, if_neg (by simpa using h3), HI.out, hr]; simp)
    go_wp2_with fail
    refine (RC.out _ (by first | assumption | exact grown_trans (by assumption) (drew_g _))).mono ?_
    rintro e w4 ⟨rfl, hgW⟩
    obtain ⟨k0, k1, k2, k3, k4, k5, k6, k7⟩ := BX.out _ hgW
    go_wp2_with fail
    go_region_with (first | (go_at_call_of 110 (Value.int IntKind.i64 a); refine (RA.out _ (by first | assumption | exact grown_trans (by assumption) (drew_g _))).mono ?_; rintro e w7 ⟨rfl, hgW⟩; obtain ⟨k0, k1, k2, k3, k4, k5, k6, k7⟩ := BX.out _ hgW) | (go_at_call_of 110 (Value.int IntKind.i64 b); refine (RB.out _ (by first | assumption | exact grown_trans (by assumption) (drew_g _))).mono ?_; rintro e w8 ⟨rfl, hgW⟩; obtain ⟨k0, k1, k2, k3, k4, k5, k6, k7⟩ := BX.out _ hgW))
    all_goals go_wp2_with fail
    all_goals go_ret
    all_goals rw [HL2.out]
    all_goals exact ⟨_, _, rfl, grown_trans (grown_trans HGB.out hgW) (World.grownBy_alloc _ _ _), row3 _ _ _ _, Nat.le_refl _⟩
  · have HL2 : Hid (opnL f u a b c im = [decI im]) := hide (by rw [HL.out, if_pos (by simpa using h3), HI.out, hr]; simp)
    go_wp2_with fail
    go_ret
    rw [HL2.out]
    exact ⟨_, _, rfl, grown_trans (grown_trans HGB.out hgW) (World.grownBy_alloc _ _ _), row1 _ _, Nat.le_refl _⟩
  · have HL2 : Hid (opnL f u a b c im = [regI c]) := hide (by rw [HL.out, if_pos (by simpa using h3), HI.out, hr]; simp)
    go_wp2_with fail
    refine (RC.out _ (by first | assumption | exact grown_trans (by assumption) (drew_g _))).mono ?_
    rintro e w4 ⟨rfl, hgW⟩
    obtain ⟨k0, k1, k2, k3, k4, k5, k6, k7⟩ := BX.out _ hgW
    go_wp2_with fail
    go_ret
    rw [HL2.out]
    exact ⟨_, _, rfl, grown_trans (grown_trans HGB.out hgW) (World.grownBy_alloc _ _ _), row1 _ _, Nat.le_refl _⟩
end Go.Proofs.YtfdofleohichiaaGreatDoor.Asm
namespace Go.Proofs.YtfdofleohichiaaGreatDoor.Asm
open Go.RowKit Go.Maps Go.Proofs.YtfdofleohichiaaGreatDoor.Bits Go.Proofs.YtfdofleohichiaaGreatDoor.Gw Go.Proofs.YtfdofleohichiaaGreatDoor.Risc Go.Proofs.YtfdofleohichiaaGreatDoor.Tx Go.Proofs.YtfdofleohichiaaGreatDoor.Mp
set_option linter.unusedVariables false
set_option linter.unusedSimpArgs false
set_option maxRecDepth 100000

/- What is written of a kind's name and an instruction. -/
def joinI (xs : List (List UInt8)) : List UInt8 := Lib.join xs [44, 32]
theorem join_opn (f : Int) (u : Bool) (a b c im : Int) (hf : f = 0 ∨ f = 1 ∨ f = 2 ∨ f = 3) : joinI (opnL f u a b c im) = opnI f u a b c im := by
  rcases hf with rfl | rfl | rfl | rfl
  · simp [joinI, opnL, opnI, lastI, rgK4, Lib.join_cons, Lib.joinTail, List.append_assoc]
  · simp [joinI, opnL, opnI, lastI, rgK4, Lib.join_cons, Lib.joinTail, List.append_assoc]
  · simp [joinI, opnL, opnI, lastI, rgK4, Lib.join_cons, Lib.joinTail, List.append_assoc]
  · cases u <;> simp [joinI, opnL, opnI, lastI, rgK4, Lib.join_one]
theorem opn_len (f : Int) (u : Bool) (a b c im : Int) : (opnI f u a b c im).length ≤ 60 := by
  have h1 := decI_le a
  have h2 := decI_le b
  have h3 := decI_le c
  have h4 := decI_le im
  unfold opnI regI
  split
  · split <;> simp <;> omega
  · split <;> simp <;> omega
theorem join_any {w : World} {bk cp : Nat} {xs : List (List UInt8)} (T : TxRow w bk xs) (hc : xs.length ≤ cp) (hn : xs.length ≤ 100) (hl : (joinI xs).length ≤ 1000) :
    Calls Tryz.prog 68 #[.slice (some ⟨bk, 0, none⟩) xs.length cp, .string ⟨#[44, 32]⟩] w fun e w' => e = .returned (.string (bs (joinI xs))) ∧ w.grownBy w' none := by
  have hm : (xs.map bs).map (fun x => x.data.toList) = xs := by
    rw [List.map_map]
    have : (fun x : ByteArray => x.data.toList) ∘ bs = id := by funext l; simp [bs]
    rw [this, List.map_id]
  have := Tryz.strings_Join bk 0 cp (xs.map bs) ⟨#[44, 32]⟩ w T.2 T.1 (by rw [List.length_map]; omega) (by rw [List.length_map]; exact hc) (by rw [hm]; show (joinI xs).length ≤ _; omega)
  rw [List.length_map, hm] at this
  exact this.mono fun _ _ ⟨he, hb⟩ => ⟨he, below_g hb⟩
set_option maxHeartbeats 1000000 in
theorem written_any (n : List UInt8) (hn : n.length ≤ 200000) (f : Int) (u v : Bool) (a b c op im : Int) (hf : f = 0 ∨ f = 1 ∨ f = 2 ∨ f = 3) (S : Sml a b c im) (w : World) (A : AL w) :
    Calls Tryz.prog 38 #[.string (bs n), ins f u v a b c op im] w fun e w' => e = .returned (.string (bs (n ++ [32] ++ opnI f u a b c im))) ∧ w.grownBy w' none := by
  obtain ⟨wb, hwb⟩ : ∃ wb, w.alloc (ibox f u v a b c op im) = wb := ⟨_, rfl⟩
  have hgb : w.grownBy wb none := hwb ▸ World.grownBy_alloc _ _ _
  have HGB := hide hgb
  obtain ⟨k0, k1, k2, k3, k4, k5, k6, k7⟩ := box_at (w := w) (W := wb) (f := f) (u := u) (v := v) (a := a) (b := b) (c := c) (op := op) (im := im) (by rw [hwb]; exact grown_refl wb)
  have OP := hide (operands_any f u v a b c op im S wb (A.g hgb))
  have hol := opn_len f u a b c im
  have HJ := hide (join_opn f u a b c im hf)
  have ha1 := add_bs n [32] (by simp; omega)
  have ha2 := add_bs (n ++ [32]) (opnI f u a b c im) (by simp; omega)
  have hb : (⟨#[32]⟩ : ByteArray) = bs [32] := rfl
  have hxl : Hid ((opnL f u a b c im).length ≤ 100) := hide (by unfold opnL; split <;> simp)
  have hb2 : (⟨#[44, 32]⟩ : ByteArray) = bs [44, 32] := rfl
  clear A S hgb hf
  go_enter Tryz.func38, Tryz.ntmps38
  go_wp2_with fail
  refine OP.out.mono ?_
  rintro e w1 ⟨bk, cp, rfl, hg1, T, hcp⟩
  have HG1 := hide hg1
  have HT := hide T
  clear hg1 T
  go_wp2_with fail
  refine (join_any HT.out hcp hxl.out (by rw [HJ.out]; omega)).mono ?_
  rintro e w2 ⟨rfl, hg2⟩
  rw [HJ.out]
  have HG2 := hide hg2
  clear hg2
  go_wp2
  go_ret
  exact ⟨by simp, grown_trans HGB.out (grown_trans HG1.out HG2.out)⟩
end Go.Proofs.YtfdofleohichiaaGreatDoor.Asm
namespace Go.Proofs.YtfdofleohichiaaGreatDoor.Asm
open Go.RowKit Go.Maps Go.Proofs.YtfdofleohichiaaGreatDoor.Bits Go.Proofs.YtfdofleohichiaaGreatDoor.Gw Go.Proofs.YtfdofleohichiaaGreatDoor.Risc Go.Proofs.YtfdofleohichiaaGreatDoor.Tx Go.Proofs.YtfdofleohichiaaGreatDoor.Mp
set_option linter.unusedVariables false
set_option linter.unusedSimpArgs false
set_option maxRecDepth 100000

theorem bytesW_g (w : World) (e : TypeId) (t : ByteArray) : w.grownBy (Lib.bytesWorld w e t) none := by
  refine ⟨rfl, rfl, rfl, ?_, fun k hk _ => ?_⟩
  · simp [Lib.bytesWorld, World.freeze]
  · have hne : ¬ w.heap.size = k := by omega
    simp [Lib.bytesWorld, World.freeze, Array.getElem?_modify, hne]
    have := Below.heap_alloc w.drew (.cells (Lib.bytesCells w e t) e) k hk
    exact this
theorem num_end (x : Lib.NumEnd Int) : (∃ v, x = .ok v) ∨ x = Lib.atoiAll [] ∨ x = .range := by
  rcases x with v | _ | _
  · exact Or.inl ⟨v, rfl⟩
  · exact Or.inr (Or.inl rfl)
  · exact Or.inr (Or.inr rfl)
theorem atoi_any (t : List UInt8) (ht : t.length ≤ 1000000) (w : World) (A : AL w) :
    Calls Tryz.prog 96 #[.string (bs t)] w fun e w' => ∃ v ev, e = .returned (.tuple #[.int .i64 v, ev]) ∧ w.grownBy w' none ∧ ((ev = .nilIface ∧ Lib.atoiAll t = .ok v) ∨ (∃ tt p, ev = .iface tt p ∧ ∀ q, Lib.atoiAll t ≠ .ok q)) := by
  have hd : (bs t).data.toList = t := by simp [bs]
  rcases num_end (Lib.atoiAll t) with ⟨v, h⟩ | h | h
  · refine (Tryz.strconv_Atoi_ok (bs t) (by rw [bs_size]; omega) v (by rw [hd]; exact h) w).mono ?_
    rintro e w' ⟨rfl, hw⟩
    refine ⟨v, .nilIface, rfl, ?_, Or.inl ⟨rfl, h⟩⟩
    rcases hw with rfl | ⟨q, rfl⟩
    · exact grown_refl _
    · exact bytesW_g _ _ _
  · obtain ⟨ev, h1, h2⟩ := A.errS
    refine (Tryz.strconv_Atoi_syntax (bs t) (by rw [bs_size]; omega) (by rw [hd]; exact h) ev w h1 h2).mono ?_
    rintro e w' ⟨N, rfl, _, _, hb⟩
    exact ⟨_, _, rfl, below_g hb, Or.inr ⟨_, _, rfl, fun q hq => by rw [h] at hq; cases hq⟩⟩
  · obtain ⟨ev, h1, h2⟩ := A.errR
    refine (Tryz.strconv_Atoi_range (bs t) (by rw [bs_size]; omega) (by rw [hd]; exact h) ev w h1 h2).mono ?_
    rintro e w' ⟨N, rfl, _, _, hb⟩
    exact ⟨_, _, rfl, below_g hb, Or.inr ⟨_, _, rfl, fun q hq => by rw [h] at hq; cases hq⟩⟩
theorem trim_any (t : List UInt8) (w : World) : Calls Tryz.prog 97 #[.string (bs t), .string ⟨#[82]⟩] w fun e w' => e = .returned (.string (bs (Lib.trimPrefix t [82]))) ∧ w' = w := by
  have hd : (bs t).data.toList = t := by simp [bs]
  have := Tryz.strings_TrimPrefix (bs t) ⟨#[82]⟩ w
  rw [hd] at this
  exact this
theorem trim_len (t : List UInt8) : (Lib.trimPrefix t [82]).length ≤ t.length := by unfold Lib.trimPrefix; split <;> simp
abbrev arr3 (a b c : Int) : Value := .agg #[.int .i64 a, .int .i64 b, .int .i64 c]
set_option maxHeartbeats 2000000 in
theorem with_any (k : K4) (n0 n1 n2 : Int) (w : World) : Calls Tryz.prog 60 #[kv k, arr3 n0 n1 n2] w fun e w' => e = .returned (ins k.1 k.2.2.1 k.2.2.2 (xA k n0) (xB k n1) (xC k n0 n2) (xO k) (xI k n0 n2)) ∧ w.grownBy w' none := by
  obtain ⟨f, op, u, v⟩ := k
  have hr : rgT (f, op, u, v) = rgK4 f u := rfl
  show Calls Tryz.prog 60 #[kd f op u v, arr3 n0 n1 n2] w _
  unfold xA xB xC xO xI xL
  rw [hr]
  clear hr
  simp only
  cases h3 : (f == 3) <;> cases hg : rgK4 f u
  · have e3 : ¬ f = 3 := by simpa using h3
    simp only [if_neg e3, if_true, if_false, Bool.false_eq_true]
    clear e3
    go_enter Tryz.func60, Tryz.ntmps60
    go_wp2_with fail
    go_region
    go_wp2_with (go_at_call 57; refine (ends_any _ _ _ _ _).mono ?_; rintro e w1 ⟨rfl, rfl⟩)
    refine bodyPost_ret (v := ins f u v n0 n1 0 op n2) (by simp [results, Tryz.results60, go_sem]) rfl ⟨rfl, ?_⟩
    repeat' (first | exact grown_refl _ | refine grown_trans ?_ (World.grownBy_alloc _ _ _) | refine grown_trans ?_ (drew_g _))
  · have e3 : ¬ f = 3 := by simpa using h3
    simp only [if_neg e3, if_true, if_false, Bool.false_eq_true]
    clear e3
    go_enter Tryz.func60, Tryz.ntmps60
    go_wp2_with fail
    go_region
    go_wp2_with (go_at_call 57; refine (ends_any _ _ _ _ _).mono ?_; rintro e w1 ⟨rfl, rfl⟩)
    refine bodyPost_ret (v := ins f u v n0 n1 n2 op 0) (by simp [results, Tryz.results60, go_sem]) rfl ⟨rfl, ?_⟩
    repeat' (first | exact grown_refl _ | refine grown_trans ?_ (World.grownBy_alloc _ _ _) | refine grown_trans ?_ (drew_g _))
  · have e3 : f = 3 := by simpa using h3
    simp only [if_pos e3, if_true, if_false, Bool.false_eq_true]
    clear e3
    go_enter Tryz.func60, Tryz.ntmps60
    go_wp2_with fail
    go_region
    go_wp2_with (go_at_call 57; refine (ends_any _ _ _ _ _).mono ?_; rintro e w1 ⟨rfl, rfl⟩)
    refine bodyPost_ret (v := ins f u v op 0 0 0 n0) (by simp [results, Tryz.results60, go_sem]) rfl ⟨rfl, ?_⟩
    repeat' (first | exact grown_refl _ | refine grown_trans ?_ (World.grownBy_alloc _ _ _) | refine grown_trans ?_ (drew_g _))
  · have e3 : f = 3 := by simpa using h3
    simp only [if_pos e3, if_true, if_false, Bool.false_eq_true]
    clear e3
    go_enter Tryz.func60, Tryz.ntmps60
    go_wp2_with fail
    go_region
    go_wp2_with (go_at_call 57; refine (ends_any _ _ _ _ _).mono ?_; rintro e w1 ⟨rfl, rfl⟩)
    refine bodyPost_ret (v := ins f u v op 0 n0 0 0) (by simp [results, Tryz.results60, go_sem]) rfl ⟨rfl, ?_⟩
    repeat' (first | exact grown_refl _ | refine grown_trans ?_ (World.grownBy_alloc _ _ _) | refine grown_trans ?_ (drew_g _))
end Go.Proofs.YtfdofleohichiaaGreatDoor.Asm
namespace Go.Proofs.YtfdofleohichiaaGreatDoor.Asm
open Go.RowKit Go.Maps Go.Proofs.YtfdofleohichiaaGreatDoor.Bits Go.Proofs.YtfdofleohichiaaGreatDoor.Gw Go.Proofs.YtfdofleohichiaaGreatDoor.Risc Go.Proofs.YtfdofleohichiaaGreatDoor.Tx Go.Proofs.YtfdofleohichiaaGreatDoor.Mp
set_option linter.unusedVariables false
set_option linter.unusedSimpArgs false
set_option maxRecDepth 100000

def nU (xs : List (List UInt8)) (k i : Nat) : Int := if i < k then numT (xs.getD i []) else 0
def numsA (xs : List (List UInt8)) (k : Nat) : Array Value := #[.int .i64 (nU xs k 0), .int .i64 (nU xs k 1), .int .i64 (nU xs k 2)]
def Row3 (W : World) (b : Nat) (cs : Array Value) : Prop := W.heap[b]? = some (.cells cs 114 (0, 0))
theorem Row3.cell {W : World} {b : Nat} {cs : Array Value} (h : Row3 W b cs) (i : Nat) : W.cell? ⟨b, i, none⟩ = cs[i]? := cell_of_row _ _ _ _ _ _ h
theorem Row3.frozen {W : World} {b : Nat} {cs : Array Value} (h : Row3 W b cs) (i : Nat) : W.frozen? ⟨b, i, none⟩ = false := frozen_of_row _ _ _ _ _ h
theorem Row3.lt {W : World} {b : Nat} {cs : Array Value} (h : Row3 W b cs) : b < W.heap.size := (Array.getElem?_eq_some_iff.1 h).1
theorem Row3.g {W W' : World} {b : Nat} {cs : Array Value} (h : Row3 W b cs) (hg : W.grownBy W' none) : Row3 W' b cs := (hg.block _ h.lt (by simp)).trans h
theorem nums_step (xs : List (List UInt8)) (k : Nat) (hk : k < 3) : (numsA xs k).setIfInBounds k (.int .i64 (numT (xs.getD k []))) = numsA xs (k + 1) := by
  have : k = 0 ∨ k = 1 ∨ k = 2 := by omega
  rcases this with rfl | rfl | rfl <;> simp [numsA, nU]
theorem nums_skip (xs : List (List UInt8)) (k : Nat) (hk : k < 3) (h : numT (xs.getD k []) = 0) : numsA xs k = numsA xs (k + 1) := by
  have : k = 0 ∨ k = 1 ∨ k = 2 := by omega
  rcases this with rfl | rfl | rfl <;> simp [numsA, nU] <;> simpa using h.symm
theorem numT_ok {t : List UInt8} {v : Int} (h : Lib.atoiAll (Lib.trimPrefix t [82]) = .ok v) : numT t = v := by rw [numT, h]
theorem numT_no {t : List UInt8} (h : ∀ q, Lib.atoiAll (Lib.trimPrefix t [82]) ≠ .ok q) : numT t = 0 := by
  rw [numT]
  split
  · rename_i v hv; exact absurd hv (h v)
  · rfl
theorem set_g {w W : World} (h : w.grownBy W none) {a : Addr} (ha : w.heap.size ≤ a.block) (v : Value) : w.grownBy (W.setCell a v) none :=
  ⟨h.os, h.tape, h.output, by simpa [World.setCell] using h.size, fun k hk _ => (Below.heap_setCell _ _ _ _ (by omega)).trans (h.block k hk (by simp))⟩
set_option maxHeartbeats 2000000 in
theorem numbers_any (xs : List (List UInt8)) (hx0 : 1 ≤ xs.length) (hx3 : xs.length ≤ 3) (hxl : ∀ p ∈ xs, p.length ≤ 1000000) {bk cp : Nat} (hcp : xs.length ≤ cp) (w : World) (A : AL w) (T : TxRow w bk xs) :
    Calls Tryz.prog 61 #[.slice (some ⟨bk, 0, none⟩) xs.length cp] w fun e w' => e = .returned (arr3 (nU xs xs.length 0) (nU xs xs.length 1) (nU xs xs.length 2)) ∧ w.grownBy w' none := by
  have HA := hide A
  have HT := hide T
  have HX := hide hxl
  clear A T hxl
  go_enter Tryz.func61, Tryz.ntmps61
  go_wp2
  go_loopw [10] (fun i W => ∃ k : Nat, k ≤ xs.length ∧ i = .int .i64 k ∧ w.grownBy W none ∧ Row3 W (w.heap.size + 1) (numsA xs k) ∧ Row3 W w.heap.size (numsA xs 0)) (fun i _ => xs.length - (intOf i).toNat)
  case atStart =>
    refine ⟨0, by omega, rfl, grown_trans (World.grownBy_alloc _ _ _) (World.grownBy_alloc _ _ _), heap_alloc2_new _ _ _, heap_alloc2_old _ _ _⟩
  case round =>
    obtain ⟨k, hk, rfl, hg, hR, hR0⟩ := hrel
    have HG := hide hg
    have HR := hide hR
    have HR0 := hide hR0
    clear hg hR hR0
    by_cases hkl : k < xs.length
    · obtain ⟨x, hx⟩ : ∃ x, xs.getD k [] = x := ⟨_, rfl⟩
      have hxk : xs[k]? = some x := by rw [← hx, List.getD_eq_getElem?_getD, List.getElem?_eq_getElem hkl]; rfl
      have hcell := (HT.out.g HG.out).2 k (bs x) (by rw [List.getElem?_map, hxk]; rfl)
      rw [Nat.zero_add] at hcell
      have hxm : x.length ≤ 1000000 := HX.out x (List.mem_of_getElem? hxk)
      have HXE := hide hx
      clear hx hxk
      go_wp2_with fail
      refine (trim_any x _).mono ?_
      rintro e w1 ⟨rfl, rfl⟩
      go_wp2_with fail
      refine (atoi_any (Lib.trimPrefix x [82]) (by have := trim_len x; omega) _ (HA.out.g HG.out)).mono ?_
      rintro e w2 ⟨n, ev, rfl, hg2, hev⟩
      have HG2 := hide (grown_trans HG.out hg2)
      have HR2 := hide (HR.out.g hg2)
      have HR02 := hide (HR0.out.g hg2)
      have hfz := HR2.out.frozen k
      have hcl := HR2.out.cell k
      have hk3 : k < 3 := by omega
      obtain ⟨z, hz⟩ : ∃ z, (numsA xs k)[k]? = some z := ⟨_, Array.getElem?_eq_getElem (by simp [numsA]; omega)⟩
      rw [hz] at hcl
      clear hg2 hz
      rcases hev with ⟨rfl, hok⟩ | ⟨tt, q, rfl, hno⟩
      · have HN := hide (numT_ok hok)
        clear hok
        go_wp2
        go_roundw
        case rel =>
          refine ⟨k + 1, by omega, by go_num, set_g HG2.out (by simp) _, ?_, ?_⟩
          · have := heap_setCell_same _ _ k _ _ (.int .i64 n) HR2.out
            rw [← HN.out, ← HXE.out, nums_step xs k hk3] at this
            rw [← HN.out, ← HXE.out]
            exact this
          · exact (heap_setCell_other _ _ _ _ (by simp)).trans HR02.out
        case measure => simp [intOf]; omega
      · have HN := hide (numT_no hno)
        clear hno
        go_wp2
        go_roundw
        case rel =>
          refine ⟨k + 1, by omega, by go_num, HG2.out, ?_, HR02.out⟩
          rw [← nums_skip xs k hk3 (by rw [HXE.out]; exact HN.out)]
          exact HR2.out
        case measure => simp [intOf]; omega
    · obtain rfl : k = xs.length := by omega
      have c0 := HR.out.cell 0
      have c1 := HR.out.cell 1
      have c2 := HR.out.cell 2
      have d0 := HR0.out.cell 0
      have d1 := HR0.out.cell 1
      have d2 := HR0.out.cell 2
      have f0 := HR0.out.frozen 0
      have f1 := HR0.out.frozen 1
      have f2 := HR0.out.frozen 2
      have hlt := HR0.out.lt
      obtain ⟨n0, hn0⟩ : ∃ z, nU xs xs.length 0 = z := ⟨_, rfl⟩
      have HN0 := hide hn0
      obtain ⟨n1, hn1⟩ : ∃ z, nU xs xs.length 1 = z := ⟨_, rfl⟩
      have HN1 := hide hn1
      obtain ⟨n2, hn2⟩ : ∃ z, nU xs xs.length 2 = z := ⟨_, rfl⟩
      have HN2 := hide hn2
      have hna : numsA xs xs.length = #[.int .i64 n0, .int .i64 n1, .int .i64 n2] := by rw [numsA, hn0, hn1, hn2]
      rw [hna] at c0 c1 c2
      have hz : numsA xs 0 = #[.int .i64 0, .int .i64 0, .int .i64 0] := rfl
      rw [hz] at d0 d1 d2
      simp only [List.getElem?_toArray, List.getElem?_cons_zero, List.getElem?_cons_succ] at c0 c1 c2 d0 d1 d2
      clear hn0 hn1 hn2 hna hz
      go_wp2
      refine bodyPost_ret (v := arr3 n0 n1 n2) ?_ rfl ⟨by rw [HN0.out, HN1.out, HN2.out], ?_⟩
      · have h1 := heap_setCell_same _ _ 0 _ _ (.int .i64 n0) HR0.out
        have h2 := heap_setCell_same _ _ 1 _ _ (.int .i64 n1) h1
        have h3 := heap_setCell_same _ _ 2 _ _ (.int .i64 n2) h2
        have e : (((numsA xs 0).setIfInBounds 0 (.int .i64 n0)).setIfInBounds 1 (.int .i64 n1)).setIfInBounds 2 (.int .i64 n2) = #[.int .i64 n0, .int .i64 n1, .int .i64 n2] := rfl
        rw [e] at h3
        exact results_cell_row Tryz.results61 _ _ _ _ _ _ _ rfl h3 Tryz.underlying114 rfl (by kernel_rfl)
      · exact set_g (set_g (set_g HG.out (by simp) _) (by simp) _) (by simp) _
end Go.Proofs.YtfdofleohichiaaGreatDoor.Asm
namespace Go.Proofs.YtfdofleohichiaaGreatDoor.Asm
open Go.RowKit Go.Maps Go.Proofs.YtfdofleohichiaaGreatDoor.Bits Go.Proofs.YtfdofleohichiaaGreatDoor.Gw Go.Proofs.YtfdofleohichiaaGreatDoor.Risc Go.Proofs.YtfdofleohichiaaGreatDoor.Tx Go.Proofs.YtfdofleohichiaaGreatDoor.Mp
set_option linter.unusedVariables false
set_option linter.unusedSimpArgs false
set_option maxRecDepth 100000

theorem zeroS (w : World) : (zeroValue 82).run Tryz.prog w = .ok (spv ⟨#[]⟩ false) w := by kernel_rfl
theorem field0 (s : ByteArray) (r : Bool) (w : World) : (Instr.field 82 (spv s r) 0).run Tryz.prog w = .ok (.string s) w := by kernel_rfl
theorem rng_sml {f : Int} {u v : Bool} {a b c op im : Int} (h : goodR f u v a b c op im = true) : Sml a b c im := by
  have R := good_rng h
  have hf := good_form h
  have q := h
  simp only [goodR, Bool.and_eq_true] at q
  have him : -100000000 ≤ im ∧ im ≤ 100000000 := by
    rcases hf with rfl | rfl | rfl | rfl
    · simp at q; omega
    · have := R.f1 rfl; omega
    · have := R.f2 rfl; omega
    · exact R.f3 rfl
  exact ⟨⟨by have := R.a; omega, by have := R.a; omega⟩, ⟨by have := R.b; omega, by have := R.b; omega⟩, ⟨by have := R.c; omega, by have := R.c; omega⟩, ⟨by omega, by omega⟩⟩
theorem good_mem {f : Int} {u v : Bool} {a b c op im : Int} (h : goodR f u v a b c op im = true) : kdI f u v a op ∈ tab 4 := by
  have R := good_rng h
  have hf := good_form h
  have q := h
  simp only [goodR, Bool.and_eq_true] at q
  unfold kdI
  refine tab_mem u v ?_
  have ha := R.a
  have ho := R.op
  rcases hf with rfl | rfl | rfl | rfl
  · right; left; simp; omega
  · right; left; simp; omega
  · left; simp at q; simp; omega
  · right; right; simp; omega
/- What the map tells of a kind of the table. -/
theorem names_at {w : World} {b : Nat} (M : MapL Tryz.prog 80 w b ((tab 4).map enN)) {k : K4} (h : k ∈ tab 4) :
    (Instr.lookup 47 (.map (some b)) (kv k) false).run Tryz.prog w = .ok (spv (bs (nmK k)) (rgT k)) w := by
  refine M.look LK Tryz.underlying47 (zeroS w) ?_ (List.mem_map.2 ⟨k, h, rfl⟩) ?_
  · exact M.keys (enN k) (List.mem_map.2 ⟨k, h, rfl⟩)
  · intro p hp e
    obtain ⟨k', hk', rfl⟩ := List.mem_map.1 hp
    have : k' = k := by
      obtain ⟨a1, a2, a3, a4⟩ := k
      obtain ⟨b1, b2, b3, b4⟩ := k'
      simp at e
      obtain ⟨rfl, rfl, rfl, rfl⟩ := e
      rfl
    rw [this]
set_option maxHeartbeats 2000000 in
theorem line_code (x : Int) (x0 : 0 ≤ x) (x1 : x < 4294967296) (w : World) (A : AL w) {b : Nat} (M : MapL Tryz.prog 80 w b ((tab 4).map enN)) :
    Calls Tryz.prog 17 #[.map (some b), .int .u32 x] w fun e w' => e = .returned (if decR x = true then .tuple #[.string (bs (lineX x)), .int .i64 0] else .tuple #[.string (bs []), .int .i64 20]) ∧ w.grownBy w' none := by
  have DC := decode_any x w A.risc x0 x1
  rw [dec_eq] at DC
  by_cases h : decR x = true
  · rw [if_pos h] at DC ⊢
    have hg : goodR (uF x) (uU x) (uV x) (uA x) (uB x) (uC x) (uOp x) (uIm x) = true := by
      simp only [decR, Bool.and_eq_true] at h; exact h.1
    have hs := line_split (u := uU x) (v := uV x) (a := uA x) (b := uB x) (c := uC x) (op := uOp x) (im := uIm x) (good_form hg)
    have hl : lineX x = lineI (uF x) (uU x) (uV x) (uA x) (uB x) (uC x) (uOp x) (uIm x) := rfl
    have hi : uIns x = ins (uF x) (uU x) (uV x) (uA x) (uB x) (uC x) (uOp x) (uIm x) := rfl
    rw [hl, hs]
    rw [hi] at DC
    clear hi hl hs h
    generalize uF x = f at *
    generalize uU x = u at *
    generalize uV x = v at *
    generalize uA x = a at *
    generalize uB x = p at *
    generalize uC x = c at *
    generalize uOp x = op at *
    generalize uIm x = im at *
    have hmem := good_mem hg
    have WR := hide (fun W (h : w.grownBy W none) => written_any (nmK (kdI f u v a op)) (by have := nmK_len (kdI f u v a op); omega) f u v a p c op im (good_form hg) (rng_sml hg) W (A.g h))
    have NA := hide (fun W (h : w.grownBy W none) => names_at (M.kept h (by simp)) hmem)
    have KO := hide (fun W => kindof_any f u v a p c op im W)
    have hkv : kv (kdI f u v a op) = kd f (if f = 3 then a else op) u v := rfl
    rw [hkv] at NA
    have HM := hide hmem
    obtain ⟨ko, hko⟩ : ∃ ko, (if f = 3 then a else op) = ko := ⟨_, rfl⟩
    rw [hko] at NA KO
    have HD := hide DC
    obtain ⟨L, hL⟩ : ∃ L, nmK (kdI f u v a op) ++ [32] ++ opnI f u a p c im = L := ⟨_, rfl⟩
    rw [hL] at WR ⊢
    clear hL
    generalize nmK (kdI f u v a op) = n at *
    generalize rgT (kdI f u v a op) = r at *
    clear A M DC hg hmem hkv hko
    have hfl := field0 (bs n) r
    go_enter Tryz.func17, Tryz.ntmps17
    go_wp2_with fail
    refine HD.out.mono ?_
    rintro e w1 ⟨rfl, q, rfl⟩
    obtain ⟨wb, hwb⟩ : ∃ wb, (gr w q).alloc (ibox f u v a p c op im) = wb := ⟨_, rfl⟩
    have hgb : w.grownBy wb none := hwb ▸ grown_trans (gr_g w q) (World.grownBy_alloc _ _ _)
    have BX := hide (fun W (h : wb.grownBy W none) => box_at (w := gr w q) (W := W) (f := f) (u := u) (v := v) (a := a) (b := p) (c := c) (op := op) (im := im) (by rw [hwb]; exact h))
    obtain ⟨k0, k1, k2, k3, k4, k5, k6, k7⟩ := BX.out wb (grown_refl wb)
    go_wp2_with fail
    go_region_with (first
      | (go_at_call 39; refine (KO.out _).mono ?_; rintro e w2 ⟨rfl, hg2⟩; have hgb2 := grown_trans (drew_g wb) hg2; obtain ⟨k0, k1, k2, k3, k4, k5, k6, k7⟩ := BX.out _ hgb2; have hlk := NA.out _ (grown_trans hgb hgb2))
      | (go_at_call 38; refine (WR.out _ (by first | exact grown_trans hgb hgb2)).mono ?_; rintro e w3 ⟨rfl, hg3⟩; have HG3 := hide (grown_trans (grown_trans hgb hgb2) hg3)))
    all_goals go_wp2_with fail
    all_goals go_ret2
    all_goals exact ⟨rfl, HG3.out⟩
  · rw [if_neg h] at DC ⊢
    have HD := hide DC
    clear DC A M
    go_enter Tryz.func17, Tryz.ntmps17
    go_wp2_with fail
    refine HD.out.mono ?_
    rintro e w1 ⟨rfl, q, rfl⟩
    have hgW := hide (gr_g w q)
    go_wp2
    go_ret2
    exact ⟨rfl, grown_trans hgW.out (World.grownBy_alloc _ _ _)⟩
end Go.Proofs.YtfdofleohichiaaGreatDoor.Asm
namespace Go.Proofs.YtfdofleohichiaaGreatDoor.Asm
open Go.RowKit Go.Maps Go.Proofs.YtfdofleohichiaaGreatDoor.Bits Go.Proofs.YtfdofleohichiaaGreatDoor.Gw Go.Proofs.YtfdofleohichiaaGreatDoor.Risc Go.Proofs.YtfdofleohichiaaGreatDoor.Tx Go.Proofs.YtfdofleohichiaaGreatDoor.Mp
set_option linter.unusedVariables false
set_option linter.unusedSimpArgs false
set_option maxRecDepth 100000

theorem zeroK (w : World) : (zeroValue 80).run Tryz.prog w = .ok (kd 0 0 false false) w := by kernel_rfl
theorem kinds_at {w : World} {b : Nat} (M : MapL Tryz.prog 82 w b ((tab 4).map enK)) {k : K4} (h : k ∈ tab 4) :
    (Instr.lookup 40 (.map (some b)) (spv (bs (nmK k)) (rgT k)) true).run Tryz.prog w = .ok (.tuple #[kv k, .bool true]) w := by
  refine M.look_ok LS Tryz.underlying40 (zeroK w) ?_ (List.mem_map.2 ⟨k, h, rfl⟩) ?_
  · exact M.keys (enK k) (List.mem_map.2 ⟨k, h, rfl⟩)
  · intro p hp e
    obtain ⟨k', hk', rfl⟩ := List.mem_map.1 hp
    simp at e
    rw [tab_inj hk' h (bs_inj e.1) e.2]
theorem kinds_no {w : World} {b : Nat} (M : MapL Tryz.prog 82 w b ((tab 4).map enK)) {n : List UInt8} {r : Bool} (hn : n.length ≤ 1000000) (h : ∀ k ∈ tab 4, ¬ (nmK k = n ∧ rgT k = r)) :
    (Instr.lookup 40 (.map (some b)) (spv (bs n) r) true).run Tryz.prog w = .ok (.tuple #[kd 0 0 false false, .bool false]) w := by
  refine M.look_no LS Tryz.underlying40 (zeroK w) (isK_sp r (by rw [bs_size]; unfold maxLen; omega)) ?_
  intro p hp e
  obtain ⟨k', hk', rfl⟩ := List.mem_map.1 hp
  simp at e
  exact h k' hk' ⟨bs_inj e.1, e.2⟩
theorem ccut_any (s : List UInt8) (hs : s.length ≤ 1000000) (w : World) (A : AL w) : Calls Tryz.prog 14 #[.string (bs s), .string ⟨#[32]⟩] w fun e w' => ∃ fd, e = .returned (.tuple #[.string (bs (nmT s)), .string (bs (rsT s)), .bool fd]) ∧ w.grownBy w' none := by
  obtain ⟨m, hm⟩ := A.maxl
  have hd : (bs s).data.toList = s := by simp [bs]
  refine (Tryz.strings_Cut (bs s) ⟨#[32]⟩ m w (by rw [bs_size]; omega) hm).mono ?_
  rintro e w' ⟨rfl, n, rfl⟩
  rw [hd]
  exact ⟨_, rfl, drewN_g _ _⟩
theorem splitB_bs (d : ByteArray) (k : Nat) (s : List UInt8) : Lib.splitB d 0 k (bs s) = (Lib.splitK d.data.toList 0 k s).map bs := by
  have h := Lib.splitB_data d 0 k (bs s)
  have hd : (bs s).data.toList = s := by simp [bs]
  rw [hd] at h
  rw [← h, List.map_map]
  have : (bs ∘ fun x : ByteArray => x.data.toList) = id := by funext z; simp [bs]
  rw [this, List.map_id]
theorem split_any (r : List UInt8) (hr : r.length ≤ 1000000) (w : World) (A : AL w) :
    Calls Tryz.prog 59 #[.string (bs r), .string ⟨#[44, 32]⟩, .int .i64 3] w fun e w' => ∃ bk cp, e = .returned (.slice (some ⟨bk, 0, none⟩) (ptT r).length cp) ∧ w.grownBy w' none ∧ TxRow w' bk (ptT r) ∧ (ptT r).length ≤ cp := by
  obtain ⟨m, hm⟩ := A.maxl
  refine (Tryz.strings_SplitN (bs r) ⟨#[44, 32]⟩ 3 m w (by rw [bs_size]; omega) hm (by decide) (by decide) (by decide)).mono ?_
  rintro e w' ⟨rfl, rfl⟩
  have hp : Lib.splitB ⟨#[44, 32]⟩ 0 (min 3 ((bs r).size + 1) - 1) (bs r) = (ptT r).map bs := splitB_bs _ _ _
  rw [hp]
  have hle : (ptT r).length ≤ min 3 ((bs r).size + 1) := by
    have := (splitK_pos [44, 32] (min 3 (r.length + 1) - 1) r).2
    rw [bs_size]
    unfold ptT
    omega
  refine ⟨w.heap.size, _, by rw [List.length_map], World.grownBy_alloc _ _ _, ⟨by simp, fun j x hx => ?_⟩, hle⟩
  rw [cell_of_row _ _ _ _ _ _ (heap_alloc_new _ _)]
  simp only [Lib.cellsOf, List.getElem?_toArray, Nat.zero_add]
  have hj : j < ((ptT r).map bs).length := (List.getElem?_eq_some_iff.1 hx).1
  rw [List.getElem?_append_left (by simpa using hj), List.getElem?_map, hx]
  rfl
theorem has_any (t : List UInt8) (w : World) : Calls Tryz.prog 33 #[.string (bs t), .string ⟨#[82]⟩] w fun e w' => e = .returned (.bool (Lib.hasPrefix t [82])) ∧ w' = w := by
  have hd : (bs t).data.toList = t := by simp [bs]
  have := Tryz.strings_HasPrefix (bs t) ⟨#[82]⟩ w
  rw [hd] at this
  exact this
end Go.Proofs.YtfdofleohichiaaGreatDoor.Asm
namespace Go.Proofs.YtfdofleohichiaaGreatDoor.Asm
open Go.RowKit Go.Maps Go.Proofs.YtfdofleohichiaaGreatDoor.Bits Go.Proofs.YtfdofleohichiaaGreatDoor.Gw Go.Proofs.YtfdofleohichiaaGreatDoor.Risc Go.Proofs.YtfdofleohichiaaGreatDoor.Tx Go.Proofs.YtfdofleohichiaaGreatDoor.Mp
set_option linter.unusedVariables false
set_option linter.unusedSimpArgs false
set_option maxRecDepth 100000

theorem lcut_len (s : List UInt8) : (nmT s).length ≤ s.length ∧ (rsT s).length ≤ s.length := by
  unfold nmT rsT Lib.cut
  split
  · simp; omega
  · simp
theorem rd_x {s : List UInt8} {x : Int} (hd : decR x = true) (hs : lineX x = s) : ∃ k, k ∈ tab 4 ∧ nmT s = nmK k ∧ Lib.hasPrefix (laT (rsT s)) [82] = rgT k ∧ ins k.1 k.2.2.1 k.2.2.2 (xA k (nT (rsT s) 0)) (xB k (nT (rsT s) 1)) (xC k (nT (rsT s) 0) (nT (rsT s) 2)) (xO k) (xI k (nT (rsT s) 0) (nT (rsT s) 2)) = uIns x := by
  have hg : goodR (uF x) (uU x) (uV x) (uA x) (uB x) (uC x) (uOp x) (uIm x) = true := by
    simp only [decR, Bool.and_eq_true] at hd; exact hd.1
  obtain ⟨R, hm⟩ := rd_line hg
  have hl : lineI (uF x) (uU x) (uV x) (uA x) (uB x) (uC x) (uOp x) (uIm x) = s := hs
  rw [hl] at R
  refine ⟨_, hm, R.nm, R.rg, ?_⟩
  rw [R.a, R.b, R.c, R.op, R.im]
  rfl
theorem gfroz {w w' : World} (h : w.grownBy w' none) : ∀ b o, b < w.heap.size → w'.frozen? ⟨b, o, none⟩ = w.frozen? ⟨b, o, none⟩ := fun b o hb => by
  have := h.block b hb (by simp)
  simp [World.frozen?, this]
theorem own_gb {w w' : World} {b : Nat} {cs : Array Value} (h : Own w b cs) (hg : w.grownBy w' none) : Own w' b cs := (hg.block _ (Array.getElem?_eq_some_iff.1 h).1 (by simp)).trans h
theorem kbox_at {w W : World} {f op : Int} {u v : Bool} (h : (w.alloc (kbox f op u v)).grownBy W none) :
    W.cell? ⟨w.heap.size, 0, none⟩ = some (.int .i64 f) ∧ W.cell? ⟨w.heap.size, 1, none⟩ = some (.int .i64 op) ∧ W.cell? ⟨w.heap.size, 2, none⟩ = some (.bool u) ∧ W.cell? ⟨w.heap.size, 3, none⟩ = some (.bool v) := by
  have k : ∀ i, W.cell? ⟨w.heap.size, i, none⟩ = (#[.int .i64 f, .int .i64 op, .bool u, .bool v] : Array Value)[i]? := fun i => by
    rw [gcell h _ _ (by simp), cell_of_row _ _ _ _ _ _ (heap_alloc_new _ _)]
  exact ⟨k 0, k 1, k 2, k 3⟩
theorem set8_g {w W : World} (h : w.grownBy W none) {p : Nat} (hp : w.heap.size ≤ p) (x0 x1 x2 x3 x4 x5 x6 x7 : Value) :
    w.grownBy ((((((((W.setCell ⟨p, 0, none⟩ x0).setCell ⟨p, 1, none⟩ x1).setCell ⟨p, 2, none⟩ x2).setCell ⟨p, 3, none⟩ x3).setCell ⟨p, 4, none⟩ x4).setCell ⟨p, 5, none⟩ x5).setCell ⟨p, 6, none⟩ x6).setCell ⟨p, 7, none⟩ x7) none :=
  set_g (set_g (set_g (set_g (set_g (set_g (set_g (set_g h hp _) hp _) hp _) hp _) hp _) hp _) hp _) hp _
theorem fin_new {w W : World} (h : w.grownBy W none) (cs : Array Value) : ∃ p, Value.pointer (some ⟨W.heap.size, 0, none⟩) = Value.pointer (some ⟨p, 0, none⟩) ∧ w.grownBy (W.alloc (.cells cs 72)) none ∧ Own (W.alloc (.cells cs 72)) p cs :=
  ⟨_, rfl, grown_trans h (World.grownBy_alloc _ _ _), Own.new _ _⟩
theorem fin_set8 {w W : World} {p : Nat} {c0 c1 c2 c3 c4 c5 c6 c7 : Value} (h : w.grownBy W none) (hp : w.heap.size ≤ p) (hO : Own W p #[c0, c1, c2, c3, c4, c5, c6, c7]) (x0 x1 x2 x3 x4 x5 x6 x7 : Value) :
    ∃ q, Value.pointer (some ⟨p, 0, none⟩) = Value.pointer (some ⟨q, 0, none⟩) ∧ w.grownBy ((((((((W.setCell ⟨p, 0, none⟩ x0).setCell ⟨p, 1, none⟩ x1).setCell ⟨p, 2, none⟩ x2).setCell ⟨p, 3, none⟩ x3).setCell ⟨p, 4, none⟩ x4).setCell ⟨p, 5, none⟩ x5).setCell ⟨p, 6, none⟩ x6).setCell ⟨p, 7, none⟩ x7) none ∧
      Own ((((((((W.setCell ⟨p, 0, none⟩ x0).setCell ⟨p, 1, none⟩ x1).setCell ⟨p, 2, none⟩ x2).setCell ⟨p, 3, none⟩ x3).setCell ⟨p, 4, none⟩ x4).setCell ⟨p, 5, none⟩ x5).setCell ⟨p, 6, none⟩ x6).setCell ⟨p, 7, none⟩ x7) q #[x0, x1, x2, x3, x4, x5, x6, x7] :=
  ⟨p, rfl, set8_g h hp _ _ _ _ _ _ _ _, Own.set8 hO _ _ _ _ _ _ _ _⟩
/- What word tells, and when. -/
def WdR (s : List UInt8) (v : Int) (ok : Bool) : Prop := U32 v ∧ (ok = true → decR v = true ∧ lineX v = s) ∧ ((∃ x, decR x = true ∧ lineX x = s) → ok = true)
theorem lineX_of {x f : Int} {u v : Bool} {a b c op im : Int} (h : uIns x = ins f u v a b c op im) : lineX x = lineI f u v a b c op im ∧ uF x = f ∧ uU x = u ∧ uV x = v ∧ uA x = a ∧ uB x = b ∧ uC x = c ∧ uOp x = op ∧ uIm x = im := by
  have e : ins (uF x) (uU x) (uV x) (uA x) (uB x) (uC x) (uOp x) (uIm x) = ins f u v a b c op im := h
  simp at e
  obtain ⟨rfl, rfl, rfl, rfl, rfl, rfl, rfl, rfl⟩ := e
  exact ⟨rfl, rfl, rfl, rfl, rfl, rfl, rfl, rfl, rfl⟩
theorem wd_yes {s : List UInt8} {f op : Int} {u v : Bool} {a b c o im : Int} (hg : goodR f u v a b c o im = true) (hk : kdI f u v a o = (f, op, u, v)) (hx : ∀ x, decR x = true → lineX x = s → uIns x = ins f u v a b c o im) :
    WdR s (packI f u v a b c o im) (decide (nmK (f, op, u, v) ++ [32] ++ opnI f u a b c im = s)) := by
  have hb : goodB f u v a b c o im = true := by rw [good_eq]; exact hg
  obtain ⟨r1, r2⟩ := read_written hb
  rw [dec_eq] at r1
  have hl := (lineX_of r2).1
  have hs := line_split (u := u) (v := v) (a := a) (b := b) (c := c) (op := o) (im := im) (good_form hg)
  rw [hk] at hs
  refine ⟨pack_range f u v a b c o im, fun h => ⟨r1, ?_⟩, fun ⟨x, h1, h2⟩ => ?_⟩
  · rw [hl, hs]; exact of_decide_eq_true h
  · refine decide_eq_true ?_
    rw [← hs, ← (lineX_of (hx x h1 h2)).1]
    exact h2
theorem wd_no {s : List UInt8} {f : Int} {u v : Bool} {a b c o im : Int} (hg : ¬ goodR f u v a b c o im = true) (hx : ∀ x, decR x = true → lineX x = s → uIns x = ins f u v a b c o im) : WdR s 0 false := by
  refine ⟨U32.zero, (fun h => by cases h), fun ⟨x, h1, h2⟩ => ?_⟩
  obtain ⟨_, e1, e2, e3, e4, e5, e6, e7, e8⟩ := lineX_of (hx x h1 h2)
  simp only [decR, Bool.and_eq_true] at h1
  rw [e1, e2, e3, e4, e5, e6, e7, e8] at h1
  exact absurd h1.1 hg
set_option maxHeartbeats 4000000 in
theorem word_code (s : List UInt8) (hs : s.length ≤ 200000) (w : World) (A : AL w) {b : Nat} (M : MapL Tryz.prog 82 w b ((tab 4).map enK)) :
    Calls Tryz.prog 34 #[.map (some b), .string (bs s)] w fun e w' => ∃ v ok, e = .returned (.tuple #[.int .u32 v, .bool ok]) ∧ w.grownBy w' none ∧ WdR s v ok := by
  have HA := hide A
  have HM := hide M
  have hcl := lcut_len s
  have hRX := hide (fun x h1 h2 => rd_x (s := s) (x := x) h1 h2)
  have CU := hide (ccut_any s (by omega) w A)
  clear A M
  obtain ⟨n, hn⟩ : ∃ n, nmT s = n := ⟨_, rfl⟩
  obtain ⟨r, hr⟩ : ∃ r, rsT s = r := ⟨_, rfl⟩
  rw [hn, hr] at hcl CU hRX
  clear hn hr
  obtain ⟨N, hN⟩ : ∃ N, (ptT r).length = N + 1 := ⟨(ptT r).length - 1, by have := (splitK_pos [44, 32] (min 3 (r.length + 1) - 1) r).1; unfold ptT; omega⟩
  have hN3 : N + 1 ≤ 3 := by have := (splitK_pos [44, 32] (min 3 (r.length + 1) - 1) r).2; unfold ptT at hN; omega
  have HLA : Hid (∀ W bk, TxRow W bk (ptT r) → W.cell? ⟨bk, N, none⟩ = some (.string (bs (laT r)))) := hide (fun W bk T => by
    have := T.2 N (bs (laT r)) (by
      rw [List.getElem?_map, List.getElem?_eq_getElem (by omega)]
      simp [laT, hN, List.getD_eq_getElem?_getD])
    rwa [Nat.zero_add] at this)
  have SP := hide (fun W (h : w.grownBy W none) => split_any r (by omega) W (HA.out.g h))
  rw [hN] at SP
  go_enter Tryz.func34, Tryz.ntmps34
  go_wp2_with fail
  refine CU.out.mono ?_
  rintro e w1 ⟨fd, rfl, hg1⟩
  go_wp2_with fail
  refine (SP.out _ hg1).mono ?_
  rintro e w2 ⟨bk, cp, rfl, hg2, T, hcp⟩
  have hla := HLA.out w2 bk T
  have HT := hide T
  clear T
  go_wp2_with fail
  refine (has_any _ _).mono ?_
  rintro e w3 ⟨rfl, rfl⟩
  have hg3 := grown_trans hg1 hg2
  have HM3 := hide (HM.out.kept hg3 (by simp))
  obtain ⟨hp, hhp⟩ : ∃ hp, Lib.hasPrefix (laT r) [82] = hp := ⟨_, rfl⟩
  rw [hhp] at hRX ⊢
  clear hhp
  by_cases hk : ∃ k, k ∈ tab 4 ∧ n = nmK k ∧ hp = rgT k
  · obtain ⟨k, hkm, rfl, rfl⟩ := hk
    have hlk := kinds_at HM3.out hkm
    obtain ⟨f, op, u, v⟩ := k
    have HPT := hide (show (ptT r).length = N + 1 from hN)
    have NU := hide (fun W (h : w3.grownBy W none) => numbers_any (ptT r) (by omega) (by omega) (fun p hp => by have := splitK_len [44, 32] _ r p hp; omega) (by rw [hN]; exact hcp) W (HA.out.g (grown_trans hg3 h)) (HT.out.g h))
    rw [hN] at NU
    have WI := hide (fun W => with_any (f, op, u, v) (nU (ptT r) (N + 1) 0) (nU (ptT r) (N + 1) 1) (nU (ptT r) (N + 1) 2) W)
    obtain ⟨wk, hwk⟩ : ∃ wk, w3.alloc (kbox f op u v) = wk := ⟨_, rfl⟩
    have hgk : w3.grownBy wk none := hwk ▸ World.grownBy_alloc _ _ _
    have BK := hide (fun W (h : wk.grownBy W none) => kbox_at (w := w3) (W := W) (f := f) (op := op) (u := u) (v := v) (by rw [hwk]; exact h))
    obtain ⟨m0, m1, m2, m3⟩ := BK.out wk (grown_refl wk)
    have ma0 := fun o => (BK.out (wk.alloc o) (World.grownBy_alloc _ _ _)).1
    have ma1 := fun o => (BK.out (wk.alloc o) (World.grownBy_alloc _ _ _)).2.1
    have ma2 := fun o => (BK.out (wk.alloc o) (World.grownBy_alloc _ _ _)).2.2.1
    have ma3 := fun o => (BK.out (wk.alloc o) (World.grownBy_alloc _ _ _)).2.2.2
    replace NU := hide (fun W (h : wk.grownBy W none) => NU.out W (grown_trans hgk h))
    go_upto_region 7 with fail
    go_cut [13] from 14 (fun s13 wc => ∃ p, s13 = .pointer (some ⟨p, 0, none⟩) ∧ w3.grownBy wc none ∧ Own wc p #[.int .i64 f, .bool u, .bool v, .int .i64 (xA (f, op, u, v) (nU (ptT r) (N + 1) 0)), .int .i64 (xB (f, op, u, v) (nU (ptT r) (N + 1) 1)), .int .i64 (xC (f, op, u, v) (nU (ptT r) (N + 1) 0) (nU (ptT r) (N + 1) 2)), .int .i64 (xO (f, op, u, v)), .int .i64 (xI (f, op, u, v) (nU (ptT r) (N + 1) 0) (nU (ptT r) (N + 1) 2))])
    case first =>
      go_region_with (first
        | (go_at_call 61; refine (NU.out _ (by repeat' (first | exact grown_refl _ | refine grown_trans ?_ (World.grownBy_alloc _ _ _) | refine grown_trans ?_ (drew_g _)))).mono ?_; rintro e w4 ⟨rfl, hg4⟩; have hgc4 := gcell hg4; have hgs4 := hg4.size; have hgk4 : wk.grownBy w4 none := grown_trans (by repeat' (first | exact grown_refl _ | refine grown_trans ?_ (World.grownBy_alloc _ _ _) | refine grown_trans ?_ (drew_g _))) hg4; obtain ⟨m0, m1, m2, m3⟩ := BK.out w4 hgk4; have mb0 := fun o => (BK.out (w4.alloc o) (grown_trans hgk4 (World.grownBy_alloc _ _ _))).1; have mb1 := fun o => (BK.out (w4.alloc o) (grown_trans hgk4 (World.grownBy_alloc _ _ _))).2.1; have mb2 := fun o => (BK.out (w4.alloc o) (grown_trans hgk4 (World.grownBy_alloc _ _ _))).2.2.1; have mb3 := fun o => (BK.out (w4.alloc o) (grown_trans hgk4 (World.grownBy_alloc _ _ _))).2.2.2; have HG4 := hide hgk4; (first | (have OZ4 : Own w4 wk.heap.size #[.int .i64 0, .bool false, .bool false, .int .i64 0, .int .i64 0, .int .i64 0, .int .i64 0, .int .i64 0] := own_gb (Own.new wk _) (grown_trans (drew_g _) hg4); have hfz4 := OZ4.frozen) | skip); clear hg4)
        | (go_at_call 60; refine (WI.out _).mono ?_; rintro e w5 ⟨rfl, hg5⟩; have hgc5 := gcell hg5; have hgs5 := hg5.size; have HG5 := hide (show wk.grownBy w5 none from grown_trans hgk4 (grown_trans (by repeat' (first | exact grown_refl _ | refine grown_trans ?_ (World.grownBy_alloc _ _ _) | refine grown_trans ?_ (drew_g _))) hg5)); (first | (have OZ5 : Own w5 w4.heap.size #[.int .i64 0, .bool false, .bool false, .int .i64 0, .int .i64 0, .int .i64 0, .int .i64 0, .int .i64 0] := own_gb (Own.new w4 _) hg5; have hfz5 := OZ5.frozen; have q0 := OZ5.cell0 0 rfl; have q1 := OZ5.cell0 1 rfl; have q2 := OZ5.cell0 2 rfl; have q3 := OZ5.cell0 3 rfl; have q4 := OZ5.cell0 4 rfl; have q5 := OZ5.cell0 5 rfl; have q6 := OZ5.cell0 6 rfl; have q7 := OZ5.cell0 7 rfl) | (have OZ5 : Own w5 wk.heap.size #[.int .i64 0, .bool false, .bool false, .int .i64 0, .int .i64 0, .int .i64 0, .int .i64 0, .int .i64 0] := own_gb OZ4 hg5; have hfz5 := OZ5.frozen; have q0 := OZ5.cell0 0 rfl; have q1 := OZ5.cell0 1 rfl; have q2 := OZ5.cell0 2 rfl; have q3 := OZ5.cell0 3 rfl; have q4 := OZ5.cell0 4 rfl; have q5 := OZ5.cell0 5 rfl; have q6 := OZ5.cell0 6 rfl; have q7 := OZ5.cell0 7 rfl) | skip); clear hg5))
      all_goals (go_wp2_with fail; go_meet)
      all_goals first
        | exact fin_new (W := w5) (grown_trans hgk HG5.out) _
        | exact fin_set8 (W := w5) (p := w4.heap.size) (grown_trans hgk HG5.out) (Nat.le_trans hgk.size HG4.out.size) OZ5 _ _ _ _ _ _ _ _
        | exact fin_set8 (W := w5) (p := wk.heap.size) (grown_trans hgk HG5.out) hgk.size OZ5 _ _ _ _ _ _ _ _
    case rest =>
      obtain ⟨p, rfl, hgC, hO⟩ := hcut
      clear ma0 ma1 ma2 ma3 m0 m1 m2 m3
      have hnT : ∀ i, nU (ptT r) (N + 1) i = nT r i := fun i => by rw [nT, nU, hN]
      rw [hnT, hnT, hnT] at hO
      have HKI := hide (show kdI f u v (xA (f, op, u, v) (nT r 0)) (xO (f, op, u, v)) = (f, op, u, v) from by unfold kdI xA xO; by_cases h3 : f = 3 <;> simp [h3])
      have HRX : Hid (∀ x, decR x = true → lineX x = s → uIns x = ins f u v (xA (f, op, u, v) (nT r 0)) (xB (f, op, u, v) (nT r 1)) (xC (f, op, u, v) (nT r 0) (nT r 2)) (xO (f, op, u, v)) (xI (f, op, u, v) (nT r 0) (nT r 2))) := hide (fun x h1 h2 => by
        obtain ⟨k', a1, a2, a3, a4⟩ := hRX.out x h1 h2
        obtain rfl := tab_inj hkm a1 a2 a3
        exact a4.symm)
      generalize xA (f, op, u, v) (nT r 0) = xa at *
      generalize xB (f, op, u, v) (nT r 1) = xb at *
      generalize xC (f, op, u, v) (nT r 0) (nT r 2) = xc at *
      generalize xO (f, op, u, v) = xo at *
      generalize xI (f, op, u, v) (nT r 0) (nT r 2) = xi at *
      have k0 := hO.cell0 0 rfl
      have k1 := hO.cell0 1 rfl
      have k2 := hO.cell0 2 rfl
      have k3 := hO.cell0 3 rfl
      have k4 := hO.cell0 4 rfl
      have k5 := hO.cell0 5 rfl
      have k6 := hO.cell0 6 rfl
      have k7 := hO.cell0 7 rfl
      have EN := encode_any f u v xa xb xc xo xi wc (HA.out.g (grown_trans hg3 hgC)).risc
      rw [good_eq] at EN
      by_cases hgood : goodR f u v xa xb xc xo xi = true
      · rw [if_pos hgood] at EN
        have HE := hide EN
        have WR := hide (fun W (h : wc.grownBy W none) => written_any (nmK (f, op, u, v)) (by have := nmK_len (f, op, u, v); omega) f u v xa xb xc xo xi (good_form hgood) (rng_sml hgood) W (HA.out.g (grown_trans (grown_trans hg3 hgC) h)))
        clear EN
        have HW := hide (wd_yes hgood HKI.out HRX.out)
        obtain ⟨L, hL⟩ : ∃ L, nmK (f, op, u, v) ++ [32] ++ opnI f u xa xb xc xi = L := ⟨_, rfl⟩
        rw [hL] at WR HW
        have HUp := hide (pack_range f u v xa xb xc xo xi)
        generalize packI f u v xa xb xc xo xi = pk at *
        clear hL
        by_cases hLs : L = s
        · subst hLs
          go_wp2_with fail
          refine HE.out.mono ?_
          rintro e w6 ⟨rfl, q, rfl⟩
          obtain ⟨w6, hw6⟩ : ∃ w6, gr wc q = w6 := ⟨_, rfl⟩
          have hg6 : wc.grownBy w6 none := hw6 ▸ gr_g wc q
          rw [hw6]
          have hO6 := own_gb hO hg6
          have k0 := hO6.cell0 0 rfl
          have k1 := hO6.cell0 1 rfl
          have k2 := hO6.cell0 2 rfl
          have k3 := hO6.cell0 3 rfl
          have k4 := hO6.cell0 4 rfl
          have k5 := hO6.cell0 5 rfl
          have k6 := hO6.cell0 6 rfl
          have k7 := hO6.cell0 7 rfl
          clear hw6
          go_wp2_with fail
          refine (WR.out _ hg6).mono ?_
          rintro e w7 ⟨rfl, hg7⟩
          go_wp2_with fail
          go_ret2
          exact ⟨pk, true, rfl, grown_trans (grown_trans (grown_trans hg3 hgC) hg6) hg7, by simpa using HW.out⟩
        · have hne : ((bs L).toList == (bs s).toList) = false := by rw [test_bs]; simpa using hLs
          go_wp2_with fail
          refine HE.out.mono ?_
          rintro e w6 ⟨rfl, q, rfl⟩
          obtain ⟨w6, hw6⟩ : ∃ w6, gr wc q = w6 := ⟨_, rfl⟩
          have hg6 : wc.grownBy w6 none := hw6 ▸ gr_g wc q
          rw [hw6]
          have hO6 := own_gb hO hg6
          have k0 := hO6.cell0 0 rfl
          have k1 := hO6.cell0 1 rfl
          have k2 := hO6.cell0 2 rfl
          have k3 := hO6.cell0 3 rfl
          have k4 := hO6.cell0 4 rfl
          have k5 := hO6.cell0 5 rfl
          have k6 := hO6.cell0 6 rfl
          have k7 := hO6.cell0 7 rfl
          clear hw6
          go_wp2_with fail
          refine (WR.out _ hg6).mono ?_
          rintro e w7 ⟨rfl, hg7⟩
          go_wp2_with fail
          go_ret2
          exact ⟨pk, false, rfl, grown_trans (grown_trans (grown_trans hg3 hgC) hg6) hg7, by simpa [hLs] using HW.out⟩
      · rw [if_neg hgood] at EN
        have HE := hide EN
        clear EN
        go_wp2_with fail
        refine HE.out.mono ?_
        rintro e w6 ⟨rfl, q, rfl⟩
        go_wp2_with fail
        go_ret2
        exact ⟨0, false, rfl, grown_trans (grown_trans hg3 hgC) (gr_g _ _), wd_no hgood HRX.out⟩
  · have hlk := kinds_no HM3.out (n := n) (r := hp) (by omega) (fun k hk' h => hk ⟨k, hk', h.1.symm, h.2.symm⟩)
    go_wp2_with fail
    go_ret2
    refine ⟨0, false, rfl, grown_trans hg3 (World.grownBy_alloc _ _ _), U32.zero, (fun h => by cases h), fun ⟨x, h1, h2⟩ => ?_⟩
    obtain ⟨k, a1, a2, a3, _⟩ := hRX.out x h1 h2
    exact absurd ⟨k, a1, a2, a3⟩ hk
end Go.Proofs.YtfdofleohichiaaGreatDoor.Asm
namespace Go.Proofs.YtfdofleohichiaaGreatDoor.Asm
open Go.RowKit Go.Maps Go.Proofs.YtfdofleohichiaaGreatDoor.Bits Go.Proofs.YtfdofleohichiaaGreatDoor.Gw Go.Proofs.YtfdofleohichiaaGreatDoor.Risc Go.Proofs.YtfdofleohichiaaGreatDoor.Tx Go.Proofs.YtfdofleohichiaaGreatDoor.Mp
set_option linter.unusedVariables false
set_option linter.unusedSimpArgs false
set_option maxRecDepth 100000

def lnV (x : Int) : Value := if decR x = true then .tuple #[.string (bs (lineX x)), .int .i64 0] else .tuple #[.string (bs []), .int .i64 20]
theorem lnV_form (x : Int) : ∃ t ec, lnV x = .tuple #[.string (bs t), .int .i64 ec] := by
  unfold lnV
  split
  · exact ⟨_, _, rfl⟩
  · exact ⟨_, _, rfl⟩
theorem wd_wV {s : List UInt8} {v : Int} {ok : Bool} (h : WdR s v ok) : wV s = if ok = true then .tuple #[.int .u32 v, .int .i64 0] else .tuple #[.int .u32 0, .int .i64 60] := by
  cases ok
  · rw [if_neg (by simp)]
    exact wV_no fun x h0 h1 hd hl => by cases h.2.2 ⟨x, hd, hl⟩
  · rw [if_pos rfl]
    obtain ⟨hd, hl⟩ := h.2.1 rfl
    rw [← hl, wV_line hd]
theorem wk_line : lnV 19398659 = .tuple #[.string (bs [65, 68, 68, 32, 82, 49, 44, 32, 82, 50, 44, 32, 82, 51]), .int .i64 0] := by
  have h1 : decR 19398659 = true := by kernel_rfl
  have h2 : lineX 19398659 = [65, 68, 68, 32, 82, 49, 44, 32, 82, 50, 44, 32, 82, 51] := by kernel_rfl
  rw [lnV, if_pos h1, h2]
theorem wk_word : wV [66, 76, 46, 84, 32, 45, 49] = .tuple #[.int .u32 4160749567, .int .i64 0] := by
  have h1 : decR 4160749567 = true := by kernel_rfl
  have h2 : lineX 4160749567 = [66, 76, 46, 84, 32, 45, 49] := by kernel_rfl
  rw [← h2, wV_line h1]
end Go.Proofs.YtfdofleohichiaaGreatDoor.Asm
