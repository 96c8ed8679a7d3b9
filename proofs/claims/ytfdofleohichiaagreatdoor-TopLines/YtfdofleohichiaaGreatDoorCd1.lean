/-
  Package asm: what the tables must hold; registers and operands as texts.
-/
import Derived.Test.YtfdofleohichiaaGreatDoorNmx
import Derived.Test.YtfdofleohichiaaGreatDoorShelf
import Derived.Test.YtfdofleohichiaaGreatDoorRmath2
namespace Go.Proofs.YtfdofleohichiaaGreatDoor.Asm
open Go.RowKit Go.Maps Go.Proofs.YtfdofleohichiaaGreatDoor.Bits Go.Proofs.YtfdofleohichiaaGreatDoor.Gw Go.Proofs.YtfdofleohichiaaGreatDoor.Risc Go.Proofs.YtfdofleohichiaaGreatDoor.Tx Go.Proofs.YtfdofleohichiaaGreatDoor.Mp
set_option linter.unusedVariables false
set_option linter.unusedSimpArgs false
set_option maxRecDepth 100000

def IfaceV (v : Value) : Prop := v = .nilIface ∨ ∃ te pe, v = .iface te pe
structure AL (w : World) : Prop where
  risc : Laid w
  nms : Nms w
  maxl : ∃ m, w.cell? ⟨0, 0, none⟩ = some (.int .i64 m)
  pow : Lib.TabIs Tryz.prog w Tryz.name2 .u64 Lib.pow10Tab
  errS : ∃ ev, w.cell? ⟨14, 0, none⟩ = some ev ∧ IfaceV ev
  errR : ∃ ev, w.cell? ⟨15, 0, none⟩ = some ev ∧ IfaceV ev
theorem FieldAt.gb {w w' : World} (h : w.grownBy w' none) {g : Nat} {lo n : Int} {s : Bool} (f : FieldAt w g lo n s) (hg : g < w.heap.size) : FieldAt w' g lo n s :=
  ⟨(gcell h _ _ hg).trans f.1, (gcell h _ _ hg).trans f.2.1, (gcell h _ _ hg).trans f.2.2⟩
theorem MarkAt.gb {w w' : World} (h : w.grownBy w' none) {i : Nat} {op : Int} {u v : Bool} (f : MarkAt w i op u v) (hg : 13 < w.heap.size) : MarkAt w' i op u v :=
  ⟨(gcell h _ _ hg).trans f.1, (gcell h _ _ hg).trans f.2.1, (gcell h _ _ hg).trans f.2.2⟩
theorem laid_gb {w w' : World} (L : Laid w) (h : w.grownBy w' none) : Laid w' := by
  have s := L.size
  have s' := h.size
  exact ⟨by omega, FieldAt.gb h L.form (by omega), FieldAt.gb h L.u (by omega), FieldAt.gb h L.v (by omega), FieldAt.gb h L.a (by omega), FieldAt.gb h L.b (by omega), FieldAt.gb h L.op (by omega), FieldAt.gb h L.c (by omega), FieldAt.gb h L.im (by omega),
    FieldAt.gb h L.mem (by omega), FieldAt.gb h L.jump (by omega), MarkAt.gb h L.m0 (by omega), MarkAt.gb h L.m1 (by omega), MarkAt.gb h L.m2 (by omega), MarkAt.gb h L.m3 (by omega), MarkAt.gb h L.m4 (by omega)⟩
theorem powG : Tryz.prog.globalNamed Tryz.name2 = some 16 := by kernel_rfl
theorem tab_gb {w w' : World} (h : w.grownBy w' none) (hs : 21 ≤ w.heap.size) (t : Lib.TabIs Tryz.prog w Tryz.name2 .u64 Lib.pow10Tab) : Lib.TabIs Tryz.prog w' Tryz.name2 .u64 Lib.pow10Tab := by
  unfold Lib.TabIs World.var? at t ⊢
  rw [powG] at t ⊢
  simp only [Option.bind_some] at t ⊢
  rw [h.block _ (by omega) (by simp)]
  exact t
theorem AL.g {w w' : World} (A : AL w) (h : w.grownBy w' none) : AL w' := by
  have s := A.nms.size
  obtain ⟨m, hm⟩ := A.maxl
  obtain ⟨e1, h1, i1⟩ := A.errS
  obtain ⟨e2, h2, i2⟩ := A.errR
  exact ⟨laid_gb A.risc h, A.nms.g h, ⟨m, (gcell h _ _ (by omega)).trans hm⟩, tab_gb h s A.pow, ⟨e1, (gcell h _ _ (by omega)).trans h1, i1⟩, ⟨e2, (gcell h _ _ (by omega)).trans h2, i2⟩⟩
theorem grow_g (w : World) (k : Nat) (os : Array Obj) : w.grownBy (Go.Sort.grow (w.drewN k) os) none :=
  ⟨rfl, rfl, rfl, by simp [Go.Sort.grow, World.drewN], fun j hj _ => by simp [Go.Sort.grow, World.drewN, Array.getElem?_append, hj]⟩
theorem below_g {w w' : World} (h : Below w.heap.size w w') : w.grownBy w' none := ⟨h.os, h.tape, h.output, h.size, fun k hk _ => h.block k hk⟩
theorem drewN_gg (w : World) (n : Nat) : w.grownBy (w.drewN n) none := ⟨rfl, rfl, rfl, Nat.le_refl _, fun _ _ _ => rfl⟩
theorem gr_g (w : World) (p : By) : w.grownBy (gr w p) none := ⟨rfl, rfl, rfl, by rw [gr_size]; omega, fun k hk _ => gr_old w p hk⟩
theorem dig_dec : ∀ (k n : Nat), n < 10 ^ (k + 1) → k < 12 → Lib.decDigits n = decN n := by
  intro k
  induction k with
  | zero =>
    intro n h _
    have h1 : n < 10 := by simpa using h
    rw [Lib.decDigits, dif_pos h1, decN_lo h1]; rfl
  | succ k ih =>
    intro n h hk
    by_cases h1 : n < 10
    · rw [Lib.decDigits, dif_pos h1, decN_lo h1]; rfl
    · have h12 : n < 1000000000000 := Nat.lt_of_lt_of_le h (Nat.le_trans (Nat.pow_le_pow_right (by decide) (show k + 1 + 1 ≤ 12 by omega)) (by decide))
      rw [Lib.decDigits, dif_neg h1, decN_hi h1 h12, ih (n / 10) (by rw [Nat.pow_succ] at h; omega) (by omega)]; rfl
theorem itoa_dec {n : Int} (h0 : -100000000000 < n) (h1 : n < 100000000000) : Lib.itoa n = decI n := by
  unfold Lib.itoa decI
  by_cases h : n < 0
  · rw [if_pos h, if_pos h, dig_dec 10 n.natAbs (by show n.natAbs < 100000000000; omega) (by decide), show n.natAbs = (-n).toNat by omega]
  · rw [if_neg h, if_neg h, dig_dec 10 n.toNat (by show n.toNat < 100000000000; omega) (by decide)]
theorem itoa_any (n : Int) (h0 : -100000000000 < n) (h1 : n < 100000000000) (w : World) (A : AL w) : Calls Tryz.prog 109 #[.int .i64 n] w fun e w' => e = .returned (.string (bs (decI n))) ∧ w.grownBy w' none := by
  refine (Tryz.strconv_Itoa n (by omega) (by omega) w A.pow).mono ?_
  rintro e w' ⟨rfl, k, os, rfl⟩
  exact ⟨by rw [itoa_dec h0 h1]; rfl, grow_g _ _ _⟩
/- However large the number: some text. -/
theorem itoa_all (n : Int) (h0 : -9223372036854775808 ≤ n) (h1 : n ≤ 9223372036854775807) (w : World) (A : AL w) : Calls Tryz.prog 109 #[.int .i64 n] w fun e w' => e = .returned (.string (bs (Lib.itoa n))) ∧ w.grownBy w' none := by
  refine (Tryz.strconv_Itoa n h0 h1 w A.pow).mono ?_
  rintro e w' ⟨rfl, k, os, rfl⟩
  exact ⟨rfl, grow_g _ _ _⟩
set_option maxHeartbeats 1000000 in
theorem cregister_any (n : Int) (h0 : -100000000000 < n) (h1 : n < 100000000000) (w : World) (A : AL w) : Calls Tryz.prog 110 #[.int .i64 n] w fun e w' => e = .returned (.string (bs (regI n))) ∧ w.grownBy w' none := by
  have IT := hide (itoa_any n h0 h1 w A)
  have hadd : ∀ W : World, (Op.stringOp .add (bs [82]) (bs (decI n))).run Tryz.prog W = .ok (.string (bs (regI n))) W := fun W => by
    have hl := decI_le n
    rw [run_string_add_sum W _ _ (by rw [bs_size, bs_size]; simp; omega), bs_append]
    rfl
  have hb : (⟨#[82]⟩ : ByteArray) = bs [82] := rfl
  clear h0 h1 A
  go_enter Tryz.func110, Tryz.ntmps110
  go_wp2_with (go_at_call 109; refine IT.out.mono ?_; rintro e w1 ⟨rfl, hg⟩; have HG := hide hg; clear hg)
  go_ret
  exact ⟨rfl, HG.out⟩
end Go.Proofs.YtfdofleohichiaaGreatDoor.Asm
