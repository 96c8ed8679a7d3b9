/-
  Package asm: the maps' keys; the functions that put one name.
-/
import Derived.Test.YtjeogojgabfbiaaGreatDoorNm1
namespace Go.Proofs.YtjeogojgabfbiaaGreatDoor.Asm
open Go.RowKit Go.Maps Go.Proofs.YtjeogojgabfbiaaGreatDoor.Bits Go.Proofs.YtjeogojgabfbiaaGreatDoor.Gw Go.Proofs.YtjeogojgabfbiaaGreatDoor.Risc Go.Proofs.YtjeogojgabfbiaaGreatDoor.Tx Go.Proofs.YtjeogojgabfbiaaGreatDoor.Mp
set_option linter.unusedVariables false
set_option linter.unusedSimpArgs false
set_option maxRecDepth 100000

theorem laidOut : laidOutB Tryz.prog = true := by kernel_rfl
theorem LK : Keyed Tryz.prog 83 := Keyed.of_law (deep_law_laid laidOut (m := 2) (by omega) (of_decide_eq_true (by kernel_rfl)) (by kernel_rfl) (by rw [Tryz.underlying83]))
theorem LS : Keyed Tryz.prog 81 := Keyed.of_law (deep_law_laid laidOut (m := 2) (by omega) (of_decide_eq_true (by kernel_rfl)) (by kernel_rfl) (by rw [Tryz.underlying81]))
theorem cellsK : Tryz.prog.cellsOf 83 = 4 := by kernel_rfl
theorem cellsS : Tryz.prog.cellsOf 81 = 2 := by kernel_rfl
theorem cells_i : Tryz.prog.cellsOf 3 = 1 := by kernel_rfl
theorem cells_b : Tryz.prog.cellsOf 4 = 1 := by kernel_rfl
theorem cells_s : Tryz.prog.cellsOf 9 = 1 := by kernel_rfl
theorem keyT_K : Tryz.prog.keyType 83 = true := by kernel_rfl
theorem keyT_S : Tryz.prog.keyType 81 = true := by kernel_rfl
theorem types_size : ∃ n, Tryz.prog.types.size + 1 = n + 2 := by
  have h : Tryz.prog.types.size = 197 := by kernel_rfl
  exact ⟨Tryz.prog.types.size - 1, by omega⟩
theorem lits_kd (n : Nat) {f op : Int} (u v : Bool) (h1 : (Lit.int .i64 f).wf = true) (h2 : (Lit.int .i64 op).wf = true) : Tryz.prog.keyLits (n + 2) 83 [.int .i64 f, .int .i64 op, .bool u, .bool v] = some [.int .i64 f, .int .i64 op, .bool u, .bool v] := by
  simp [Program.keyLits, Tryz.underlying83, cellsK, cells_i, cells_b, Tryz.underlying3, Tryz.underlying4, h1, h2]
theorem lits_sp (n : Nat) {s : ByteArray} (r : Bool) (h : s.size ≤ maxLen) : Tryz.prog.keyLits (n + 2) 81 [.string s, .bool r] = some [.string s.data.toList, .bool r] := by
  simp [Program.keyLits, Tryz.underlying81, cellsS, cells_s, cells_b, Tryz.underlying9, Tryz.underlying4, h]
theorem isK_kd {f op : Int} (u v : Bool) (h1 : (Lit.int .i64 f).wf = true) (h2 : (Lit.int .i64 op).wf = true) : IsK Tryz.prog 83 (kd f op u v) := by
  obtain ⟨n, hn⟩ := types_size
  have hf : (kd f op u v).formed Tryz.prog 83 = true := by simp [Value.formed, Tryz.underlying83, cellsK]
  refine ⟨.string (keyBytes [.int .i64 f, .int .i64 op, .bool u, .bool v]), ?_⟩
  unfold keyOf
  rw [Tryz.underlying83]
  show (if Tryz.prog.keyType 83 && (kd f op u v).formed Tryz.prog 83 then (Tryz.prog.keyLits (Tryz.prog.types.size + 1) 83 [.int .i64 f, .int .i64 op, .bool u, .bool v]).map (fun ls => Lit.string (keyBytes ls)) else none) = _
  rw [keyT_K, hf, hn, lits_kd n u v h1 h2]
  rfl
theorem isK_sp {s : ByteArray} (r : Bool) (h : s.size ≤ maxLen) : IsK Tryz.prog 81 (spv s r) := by
  obtain ⟨n, hn⟩ := types_size
  have hf : (spv s r).formed Tryz.prog 81 = true := by simp [Value.formed, Tryz.underlying81, cellsS]
  refine ⟨.string (keyBytes [.string s.data.toList, .bool r]), ?_⟩
  unfold keyOf
  rw [Tryz.underlying81]
  show (if Tryz.prog.keyType 81 && (spv s r).formed Tryz.prog 81 then (Tryz.prog.keyLits (Tryz.prog.types.size + 1) 81 [.string s, .bool r]).map (fun ls => Lit.string (keyBytes ls)) else none) = _
  rw [keyT_S, hf, hn, lits_sp n r h]
  rfl
/- What a store makes of the world, as a function. -/
theorem upd_fn {K T E : TypeId} (HK : Keyed Tryz.prog K) (ht : Tryz.prog.underlying T = some (.map K E)) {b : Nat} {l : List (Value × Value)} (hn : l.length < 1000000) {key val : Value} (hk : IsK Tryz.prog K key) :
    ∃ up : World → World, ∀ W, MapL Tryz.prog K W b l → (Instr.mapUpdate T (.map (some b)) key val).run Tryz.prog W = .ok () (up W) ∧ MapL Tryz.prog K (up W) b (l ++ [(key, val)]) ∧ W.grownBy (up W) (some b) := by
  classical
  refine ⟨fun W => if h : MapL Tryz.prog K W b l then Classical.choose (h.update HK ht hn hk (val := val)) else W, fun W h => ?_⟩
  simp only [dif_pos h]
  exact Classical.choose_spec (h.update HK ht hn hk (val := val))
theorem grown_row {a b : World} {r : Option Nat} (h : a.grownBy b none) : a.grownBy b r := ⟨h.os, h.tape, h.output, h.size, fun k hk _ => h.block k hk (by simp)⟩
set_option maxHeartbeats 1000000 in
theorem names1 (f op : Int) (u v : Bool) (s : ByteArray) (h1 : (Lit.int .i64 f).wf = true) (h2 : (Lit.int .i64 op).wf = true) {b c : Nat} {l : List (Value × Value)} (w : World) (hl : l.length < 1000000)
    (hc : w.cell? ⟨c, 0, none⟩ = some (.map (some b))) (hlt : c < w.heap.size) (hm : MapL Tryz.prog 83 w b l) :
    Calls Tryz.prog 44 #[kd f op u v, .string s, .pointer (some ⟨c, 0, none⟩)] w fun e w' => e = .returned (.tuple #[]) ∧ w.grownBy w' (some b) ∧ MapL Tryz.prog 83 w' b (l ++ [(kd f op u v, spv s (rgK4 f u))]) := by
  obtain ⟨up, hup⟩ := upd_fn LK Tryz.underlying44 hl (isK_kd u v h1 h2) (b := b) (val := spv s (rgK4 f u))
  have ha : ∀ W o, MapL Tryz.prog 83 W b l → MapL Tryz.prog 83 (W.alloc o) b l := fun W o h => h.kept (World.grownBy_alloc W o none) (by simp)
  have hd : ∀ W, MapL Tryz.prog 83 W b l → MapL Tryz.prog 83 W.drew b l := fun W h => h.kept (drew_g W) (by simp)
  have hall : ∀ o1 o2 o3 o4 : Obj, MapL Tryz.prog 83 ((((w.alloc o1).alloc o2).alloc o3).alloc o4).drew b l := fun o1 o2 o3 o4 => hd _ (ha _ _ (ha _ _ (ha _ _ (ha _ _ hm))))
  have hrun := fun o1 o2 o3 o4 => (hup _ (hall o1 o2 o3 o4)).1
  have hc1 : ∀ o1 : Obj, (w.alloc o1).cell? ⟨c, 0, none⟩ = some (.map (some b)) := fun o1 => (gcell (World.grownBy_alloc w o1 none) c 0 hlt).trans hc
  have hc4 : ∀ o1 o2 o3 o4 : Obj, ((((w.alloc o1).alloc o2).alloc o3).alloc o4).cell? ⟨c, 0, none⟩ = some (.map (some b)) := fun o1 o2 o3 o4 => (gcell (grown_trans (grown_trans (World.grownBy_alloc (w.alloc o1) o2 none) (World.grownBy_alloc _ o3 none)) (World.grownBy_alloc _ o4 none)) c 0 (by simp; omega)).trans (hc1 o1)
  have HU := hide (fun o1 o2 o3 o4 => (hup _ (hall o1 o2 o3 o4)).2)
  clear hup h1 h2 hl ha hd hall
  go_enter Tryz.func44, Tryz.ntmps44
  go_wp2
  go_region_with ((go_at_call 45; refine (spelt_any _ _ _ _ _ _).mono ?_; rintro e w1 ⟨rfl, rfl⟩))
  all_goals
    go_end0
    refine ⟨rfl, ?_, (HU.out _ _ _ _).1⟩
    exact grown_trans (grown_row (grown_trans (grown_trans (grown_trans (grown_trans (World.grownBy_alloc w _ none) (World.grownBy_alloc _ _ none)) (World.grownBy_alloc _ _ none)) (World.grownBy_alloc _ _ none)) (drew_g _))) (HU.out _ _ _ _).2
set_option maxHeartbeats 1000000 in
theorem kinds1 (f op : Int) (u v : Bool) (s : ByteArray) (hs : s.size ≤ maxLen) {b c : Nat} {l : List (Value × Value)} (w : World) (hl : l.length < 1000000)
    (hc : w.cell? ⟨c, 0, none⟩ = some (.map (some b))) (hlt : c < w.heap.size) (hm : MapL Tryz.prog 81 w b l) :
    Calls Tryz.prog 54 #[kd f op u v, .string s, .pointer (some ⟨c, 0, none⟩)] w fun e w' => e = .returned (.tuple #[]) ∧ w.grownBy w' (some b) ∧ MapL Tryz.prog 81 w' b (l ++ [(spv s (rgK4 f u), kd f op u v)]) := by
  obtain ⟨up, hup⟩ := upd_fn LS Tryz.underlying55 hl (isK_sp (rgK4 f u) hs) (b := b) (val := kd f op u v)
  have ha : ∀ W o, MapL Tryz.prog 81 W b l → MapL Tryz.prog 81 (W.alloc o) b l := fun W o h => h.kept (World.grownBy_alloc W o none) (by simp)
  have hd : ∀ W, MapL Tryz.prog 81 W b l → MapL Tryz.prog 81 W.drew b l := fun W h => h.kept (drew_g W) (by simp)
  have hall : ∀ o1 o2 o3 o4 : Obj, MapL Tryz.prog 81 ((((w.alloc o1).alloc o2).alloc o3).alloc o4).drew b l := fun o1 o2 o3 o4 => hd _ (ha _ _ (ha _ _ (ha _ _ (ha _ _ hm))))
  have hrun := fun o1 o2 o3 o4 => (hup _ (hall o1 o2 o3 o4)).1
  have hc1 : ∀ o1 : Obj, (w.alloc o1).cell? ⟨c, 0, none⟩ = some (.map (some b)) := fun o1 => (gcell (World.grownBy_alloc w o1 none) c 0 hlt).trans hc
  have hc4 : ∀ o1 o2 o3 o4 : Obj, ((((w.alloc o1).alloc o2).alloc o3).alloc o4).cell? ⟨c, 0, none⟩ = some (.map (some b)) := fun o1 o2 o3 o4 => (gcell (grown_trans (grown_trans (World.grownBy_alloc (w.alloc o1) o2 none) (World.grownBy_alloc _ o3 none)) (World.grownBy_alloc _ o4 none)) c 0 (by simp; omega)).trans (hc1 o1)
  have HU := hide (fun o1 o2 o3 o4 => (hup _ (hall o1 o2 o3 o4)).2)
  clear hup hs hl ha hd hall
  go_enter Tryz.func54, Tryz.ntmps54
  go_wp2
  go_region_with ((go_at_call 45; refine (spelt_any _ _ _ _ _ _).mono ?_; rintro e w1 ⟨rfl, rfl⟩))
  all_goals
    go_end0
    refine ⟨rfl, ?_, (HU.out _ _ _ _).1⟩
    exact grown_trans (grown_row (grown_trans (grown_trans (grown_trans (grown_trans (World.grownBy_alloc w _ none) (World.grownBy_alloc _ _ none)) (World.grownBy_alloc _ _ none)) (World.grownBy_alloc _ _ none)) (drew_g _))) (HU.out _ _ _ _).2
end Go.Proofs.YtjeogojgabfbiaaGreatDoor.Asm
