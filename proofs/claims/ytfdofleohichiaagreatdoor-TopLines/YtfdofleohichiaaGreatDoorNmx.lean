/-
  Package asm: kinds of instructions and their names.
  Package asm: the maps' keys; the functions that put one name.
  Package asm: all names are told.
  Package asm: all names are told.
  Package asm: the two maps of names.
-/
import Derived.Test.YtfdofleohichiaaGreatDoorTab
import Derived.Test.YtfdofleohichiaaGreatDoorMp1
import Derived.Test.YtfdofleohichiaaGreatDoorAsm1
namespace Go.Proofs.YtfdofleohichiaaGreatDoor.Asm
open Go.RowKit Go.Maps Go.Proofs.YtfdofleohichiaaGreatDoor.Bits Go.Proofs.YtfdofleohichiaaGreatDoor.Gw Go.Proofs.YtfdofleohichiaaGreatDoor.Risc Go.Proofs.YtfdofleohichiaaGreatDoor.Tx Go.Proofs.YtfdofleohichiaaGreatDoor.Mp
set_option linter.unusedVariables false
set_option linter.unusedSimpArgs false
set_option maxRecDepth 100000

abbrev kd (f op : Int) (u v : Bool) : Value := .agg #[.int .i64 f, .int .i64 op, .bool u, .bool v]
abbrev spv (s : ByteArray) (r : Bool) : Value := .agg #[.string s, .bool r]
def rgK4 (f : Int) (u : Bool) : Bool := (f == 0) || ((f == 3) && !u)
abbrev kbox (f op : Int) (u v : Bool) : Obj := .cells #[.int .i64 f, .int .i64 op, .bool u, .bool v] 80
abbrev sbox (s : ByteArray) (r : Bool) : Obj := .cells #[.string s, .bool r] 82
theorem ends_any (f op : Int) (u v : Bool) (w : World) : Calls Tryz.prog 57 #[kd f op u v] w fun e w' => e = .returned (.bool (rgK4 f u)) ∧ w' = w.alloc (kbox f op u v) := by
  cases h0 : (f == 0) <;> cases h3 : (f == 3) <;> cases u
  all_goals
    go_enter Tryz.func57, Tryz.ntmps57
    go_wp2
    go_ret
    exact ⟨by simp [rgK4, h0, h3], rfl⟩
theorem spelt_any (f op : Int) (u v : Bool) (s : ByteArray) (w : World) : Calls Tryz.prog 31 #[kd f op u v, .string s] w fun e w' => e = .returned (spv s (rgK4 f u)) ∧ w' = ((w.alloc (kbox f op u v)).alloc (sbox s (rgK4 f u))).alloc (kbox f op u v) := by
  go_enter Tryz.func31, Tryz.ntmps31
  go_wp2_with (go_at_call 57; refine (ends_any _ _ _ _ _).mono ?_; rintro e w1 ⟨rfl, rfl⟩)
  exact bodyPost_ret (v := spv s (rgK4 f u)) (by simp [results, Tryz.results31, go_sem]) rfl ⟨rfl, rfl⟩
theorem lit_bs (l : List UInt8) : (⟨l.toArray⟩ : ByteArray) = bs l := rfl
theorem memn_any (u v : Bool) (w : World) : Calls Tryz.prog 54 #[.bool u, .bool v] w fun e w' => e = .returned (.string (bs (memN u v))) ∧ w' = w := by
  cases u <;> cases v
  all_goals
    go_enter Tryz.func54, Tryz.ntmps54
    go_wp2
    go_ret
    exact ⟨rfl, rfl⟩
theorem mark_any (u v : Bool) (w : World) : Calls Tryz.prog 55 #[.bool u, .bool v] w fun e w' => e = .returned (.string (bs (mkU u ++ mkV v))) ∧ w' = w := by
  cases u <;> cases v
  all_goals
    go_enter Tryz.func55, Tryz.ntmps55
    go_wp2
    go_ret
    exact ⟨rfl, rfl⟩
def jmpN (v : Bool) : List UInt8 := if v = true then [66, 76, 46] else [66, 46]
theorem jump_any (v : Bool) (w : World) : Calls Tryz.prog 56 #[.bool v] w fun e w' => e = .returned (.string (bs (jmpN v))) ∧ w' = w := by
  cases v
  all_goals
    go_enter Tryz.func56, Tryz.ntmps56
    go_wp2
    go_ret
    exact ⟨rfl, rfl⟩
theorem kindof_any (f : Int) (u v : Bool) (a b c op im : Int) (w : World) : Calls Tryz.prog 39 #[ins f u v a b c op im] w fun e w' => e = .returned (kd f (if f = 3 then a else op) u v) ∧ w.grownBy w' none := by
  cases h3 : (f == 3)
  · have h : ¬ f = 3 := by simpa using h3
    rw [if_neg h]
    go_enter Tryz.func39, Tryz.ntmps39
    go_wp2
    exact bodyPost_ret (v := kd f op u v) (by simp [results, Tryz.results39, go_sem]) rfl ⟨rfl, grown_trans (grown_trans (World.grownBy_alloc _ _ _) (World.grownBy_alloc _ _ _)) (World.grownBy_alloc _ _ _)⟩
  · have h : f = 3 := by simpa using h3
    rw [if_pos h]
    clear h
    go_enter Tryz.func39, Tryz.ntmps39
    go_wp2
    exact bodyPost_ret (v := kd f a u v) (by simp [results, Tryz.results39, go_sem]) rfl ⟨rfl, grown_trans (grown_trans (World.grownBy_alloc _ _ _) (World.grownBy_alloc _ _ _)) (World.grownBy_alloc _ _ _)⟩
end Go.Proofs.YtfdofleohichiaaGreatDoor.Asm
namespace Go.Proofs.YtfdofleohichiaaGreatDoor.Asm
open Go.RowKit Go.Maps Go.Proofs.YtfdofleohichiaaGreatDoor.Bits Go.Proofs.YtfdofleohichiaaGreatDoor.Gw Go.Proofs.YtfdofleohichiaaGreatDoor.Risc Go.Proofs.YtfdofleohichiaaGreatDoor.Tx Go.Proofs.YtfdofleohichiaaGreatDoor.Mp
set_option linter.unusedVariables false
set_option linter.unusedSimpArgs false
set_option maxRecDepth 100000

theorem laidOut : laidOutB Tryz.prog = true := by kernel_rfl
theorem LK : Keyed Tryz.prog 80 := Keyed.of_law (deep_law_laid laidOut (m := 2) (by omega) (of_decide_eq_true (by kernel_rfl)) (by kernel_rfl) (by rw [Tryz.underlying80]))
theorem LS : Keyed Tryz.prog 82 := Keyed.of_law (deep_law_laid laidOut (m := 2) (by omega) (of_decide_eq_true (by kernel_rfl)) (by kernel_rfl) (by rw [Tryz.underlying82]))
theorem cellsK : Tryz.prog.cellsOf 80 = 4 := by kernel_rfl
theorem cellsS : Tryz.prog.cellsOf 82 = 2 := by kernel_rfl
theorem cells_i : Tryz.prog.cellsOf 3 = 1 := by kernel_rfl
theorem cells_b : Tryz.prog.cellsOf 4 = 1 := by kernel_rfl
theorem cells_s : Tryz.prog.cellsOf 9 = 1 := by kernel_rfl
theorem keyT_K : Tryz.prog.keyType 80 = true := by kernel_rfl
theorem keyT_S : Tryz.prog.keyType 82 = true := by kernel_rfl
theorem types_size : ∃ n, Tryz.prog.types.size + 1 = n + 2 := by
  have h : Tryz.prog.types.size = 226 := by kernel_rfl
  exact ⟨Tryz.prog.types.size - 1, by omega⟩
theorem lits_kd (n : Nat) {f op : Int} (u v : Bool) (h1 : (Lit.int .i64 f).wf = true) (h2 : (Lit.int .i64 op).wf = true) : Tryz.prog.keyLits (n + 2) 80 [.int .i64 f, .int .i64 op, .bool u, .bool v] = some [.int .i64 f, .int .i64 op, .bool u, .bool v] := by
  simp [Program.keyLits, Tryz.underlying80, cellsK, cells_i, cells_b, Tryz.underlying3, Tryz.underlying4, h1, h2]
theorem lits_sp (n : Nat) {s : ByteArray} (r : Bool) (h : s.size ≤ maxLen) : Tryz.prog.keyLits (n + 2) 82 [.string s, .bool r] = some [.string s.data.toList, .bool r] := by
  simp [Program.keyLits, Tryz.underlying82, cellsS, cells_s, cells_b, Tryz.underlying9, Tryz.underlying4, h]
theorem isK_kd {f op : Int} (u v : Bool) (h1 : (Lit.int .i64 f).wf = true) (h2 : (Lit.int .i64 op).wf = true) : IsK Tryz.prog 80 (kd f op u v) := by
  obtain ⟨n, hn⟩ := types_size
  have hf : (kd f op u v).formed Tryz.prog 80 = true := by simp [Value.formed, Tryz.underlying80, cellsK]
  refine ⟨.string (keyBytes [.int .i64 f, .int .i64 op, .bool u, .bool v]), ?_⟩
  unfold keyOf
  rw [Tryz.underlying80]
  show (if Tryz.prog.keyType 80 && (kd f op u v).formed Tryz.prog 80 then (Tryz.prog.keyLits (Tryz.prog.types.size + 1) 80 [.int .i64 f, .int .i64 op, .bool u, .bool v]).map (fun ls => Lit.string (keyBytes ls)) else none) = _
  rw [keyT_K, hf, hn, lits_kd n u v h1 h2]
  rfl
theorem isK_sp {s : ByteArray} (r : Bool) (h : s.size ≤ maxLen) : IsK Tryz.prog 82 (spv s r) := by
  obtain ⟨n, hn⟩ := types_size
  have hf : (spv s r).formed Tryz.prog 82 = true := by simp [Value.formed, Tryz.underlying82, cellsS]
  refine ⟨.string (keyBytes [.string s.data.toList, .bool r]), ?_⟩
  unfold keyOf
  rw [Tryz.underlying82]
  show (if Tryz.prog.keyType 82 && (spv s r).formed Tryz.prog 82 then (Tryz.prog.keyLits (Tryz.prog.types.size + 1) 82 [.string s, .bool r]).map (fun ls => Lit.string (keyBytes ls)) else none) = _
  rw [keyT_S, hf, hn, lits_sp n r h]
  rfl
/- What a store makes of the world, as a function. -/
theorem upd_fn {K T E : TypeId} (HK : Keyed Tryz.prog K) (ht : Tryz.prog.underlying T = some (.map K E)) {b : Nat} {l : List (Value × Value)} (hn : l.length < 1000000) {key val : Value} (hk : IsK Tryz.prog K key) :
    ∃ up : World → World, ∀ W, MapL Tryz.prog K W b l → (Instr.mapUpdate T (.map (some b)) key val).run Tryz.prog W = .ok () (up W) ∧ MapL Tryz.prog K (up W) b (l ++ [(key, val)]) ∧ W.grownBy (up W) (some b) := by
  classical
  refine ⟨fun W => if h : MapL Tryz.prog K W b l then Classical.choose (h.update HK ht hn hk (val := val)) else W, fun W h => ?_⟩
  simp only [dif_pos h]
  exact Classical.choose_spec (h.update HK ht hn hk (val := val))
theorem grown_row {a b : World} {r : Option Nat} (h : a.grownBy b none) : a.grownBy b r := ⟨h.os, h.tape, h.output, h.size, fun k hk _ => h.block k hk (by simp)⟩
set_option maxHeartbeats 1000000 in
theorem names1 (f op : Int) (u v : Bool) (s : ByteArray) (h1 : (Lit.int .i64 f).wf = true) (h2 : (Lit.int .i64 op).wf = true) {b c : Nat} {l : List (Value × Value)} (w : World) (hl : l.length < 1000000)
    (hc : w.cell? ⟨c, 0, none⟩ = some (.map (some b))) (hlt : c < w.heap.size) (hm : MapL Tryz.prog 80 w b l) :
    Calls Tryz.prog 37 #[kd f op u v, .string s, .pointer (some ⟨c, 0, none⟩)] w fun e w' => e = .returned (.tuple #[]) ∧ w.grownBy w' (some b) ∧ MapL Tryz.prog 80 w' b (l ++ [(kd f op u v, spv s (rgK4 f u))]) := by
  obtain ⟨up, hup⟩ := upd_fn LK Tryz.underlying47 hl (isK_kd u v h1 h2) (b := b) (val := spv s (rgK4 f u))
  have ha : ∀ W o, MapL Tryz.prog 80 W b l → MapL Tryz.prog 80 (W.alloc o) b l := fun W o h => h.kept (World.grownBy_alloc W o none) (by simp)
  have hd : ∀ W, MapL Tryz.prog 80 W b l → MapL Tryz.prog 80 W.drew b l := fun W h => h.kept (drew_g W) (by simp)
  have hall : ∀ o1 o2 o3 o4 : Obj, MapL Tryz.prog 80 ((((w.alloc o1).alloc o2).alloc o3).alloc o4).drew b l := fun o1 o2 o3 o4 => hd _ (ha _ _ (ha _ _ (ha _ _ (ha _ _ hm))))
  have hrun := fun o1 o2 o3 o4 => (hup _ (hall o1 o2 o3 o4)).1
  have hc1 : ∀ o1 : Obj, (w.alloc o1).cell? ⟨c, 0, none⟩ = some (.map (some b)) := fun o1 => (gcell (World.grownBy_alloc w o1 none) c 0 hlt).trans hc
  have hc4 : ∀ o1 o2 o3 o4 : Obj, ((((w.alloc o1).alloc o2).alloc o3).alloc o4).cell? ⟨c, 0, none⟩ = some (.map (some b)) := fun o1 o2 o3 o4 => (gcell (grown_trans (grown_trans (World.grownBy_alloc (w.alloc o1) o2 none) (World.grownBy_alloc _ o3 none)) (World.grownBy_alloc _ o4 none)) c 0 (by simp; omega)).trans (hc1 o1)
  have HU := hide (fun o1 o2 o3 o4 => (hup _ (hall o1 o2 o3 o4)).2)
  clear hup h1 h2 hl ha hd hall
  go_enter Tryz.func37, Tryz.ntmps37
  go_wp2
  go_region_with ((go_at_call 31; refine (spelt_any _ _ _ _ _ _).mono ?_; rintro e w1 ⟨rfl, rfl⟩))
  all_goals
    go_end0
    refine ⟨rfl, ?_, (HU.out _ _ _ _).1⟩
    exact grown_trans (grown_row (grown_trans (grown_trans (grown_trans (grown_trans (World.grownBy_alloc w _ none) (World.grownBy_alloc _ _ none)) (World.grownBy_alloc _ _ none)) (World.grownBy_alloc _ _ none)) (drew_g _))) (HU.out _ _ _ _).2
set_option maxHeartbeats 1000000 in
theorem kinds1 (f op : Int) (u v : Bool) (s : ByteArray) (hs : s.size ≤ maxLen) {b c : Nat} {l : List (Value × Value)} (w : World) (hl : l.length < 1000000)
    (hc : w.cell? ⟨c, 0, none⟩ = some (.map (some b))) (hlt : c < w.heap.size) (hm : MapL Tryz.prog 82 w b l) :
    Calls Tryz.prog 30 #[kd f op u v, .string s, .pointer (some ⟨c, 0, none⟩)] w fun e w' => e = .returned (.tuple #[]) ∧ w.grownBy w' (some b) ∧ MapL Tryz.prog 82 w' b (l ++ [(spv s (rgK4 f u), kd f op u v)]) := by
  obtain ⟨up, hup⟩ := upd_fn LS Tryz.underlying40 hl (isK_sp (rgK4 f u) hs) (b := b) (val := kd f op u v)
  have ha : ∀ W o, MapL Tryz.prog 82 W b l → MapL Tryz.prog 82 (W.alloc o) b l := fun W o h => h.kept (World.grownBy_alloc W o none) (by simp)
  have hd : ∀ W, MapL Tryz.prog 82 W b l → MapL Tryz.prog 82 W.drew b l := fun W h => h.kept (drew_g W) (by simp)
  have hall : ∀ o1 o2 o3 o4 : Obj, MapL Tryz.prog 82 ((((w.alloc o1).alloc o2).alloc o3).alloc o4).drew b l := fun o1 o2 o3 o4 => hd _ (ha _ _ (ha _ _ (ha _ _ (ha _ _ hm))))
  have hrun := fun o1 o2 o3 o4 => (hup _ (hall o1 o2 o3 o4)).1
  have hc1 : ∀ o1 : Obj, (w.alloc o1).cell? ⟨c, 0, none⟩ = some (.map (some b)) := fun o1 => (gcell (World.grownBy_alloc w o1 none) c 0 hlt).trans hc
  have hc4 : ∀ o1 o2 o3 o4 : Obj, ((((w.alloc o1).alloc o2).alloc o3).alloc o4).cell? ⟨c, 0, none⟩ = some (.map (some b)) := fun o1 o2 o3 o4 => (gcell (grown_trans (grown_trans (World.grownBy_alloc (w.alloc o1) o2 none) (World.grownBy_alloc _ o3 none)) (World.grownBy_alloc _ o4 none)) c 0 (by simp; omega)).trans (hc1 o1)
  have HU := hide (fun o1 o2 o3 o4 => (hup _ (hall o1 o2 o3 o4)).2)
  clear hup hs hl ha hd hall
  go_enter Tryz.func30, Tryz.ntmps30
  go_wp2
  go_region_with ((go_at_call 31; refine (spelt_any _ _ _ _ _ _).mono ?_; rintro e w1 ⟨rfl, rfl⟩))
  all_goals
    go_end0
    refine ⟨rfl, ?_, (HU.out _ _ _ _).1⟩
    exact grown_trans (grown_row (grown_trans (grown_trans (grown_trans (grown_trans (World.grownBy_alloc w _ none) (World.grownBy_alloc _ _ none)) (World.grownBy_alloc _ _ none)) (World.grownBy_alloc _ _ none)) (drew_g _))) (HU.out _ _ _ _).2
end Go.Proofs.YtfdofleohichiaaGreatDoor.Asm
namespace Go.Proofs.YtfdofleohichiaaGreatDoor.Asm
open Go.RowKit Go.Maps Go.Proofs.YtfdofleohichiaaGreatDoor.Bits Go.Proofs.YtfdofleohichiaaGreatDoor.Gw Go.Proofs.YtfdofleohichiaaGreatDoor.Risc Go.Proofs.YtfdofleohichiaaGreatDoor.Tx Go.Proofs.YtfdofleohichiaaGreatDoor.Mp
set_option linter.unusedVariables false
set_option linter.unusedSimpArgs false
set_option maxRecDepth 100000

abbrev kv (k : K4) : Value := kd k.1 k.2.1 k.2.2.1 k.2.2.2
abbrev enN (k : K4) : Value × Value := (kv k, spv (bs (nmK k)) (rgT k))
abbrev enK (k : K4) : Value × Value := (spv (bs (nmK k)) (rgT k), kv k)
def opsC : Array Value := (opNs.map fun l => Value.string (bs l)).toArray
def cdsC : Array Value := (cdNs.map fun l => Value.string (bs l)).toArray
structure Nms (w : World) : Prop where
  size : 21 ≤ w.heap.size
  ops : ∃ t fr, w.heap[1]? = some (.cells opsC t fr)
  conds : ∃ t fr, w.heap[2]? = some (.cells cdsC t fr)
theorem idx_ops (k : Nat) (h : k < 12) (w : World) : (Instr.index 107 (.agg opsC) (.int .i64 k)).run Tryz.prog w = .ok (.string (bs (nm opNs k))) w := by
  have : k = 0 ∨ k = 1 ∨ k = 2 ∨ k = 3 ∨ k = 4 ∨ k = 5 ∨ k = 6 ∨ k = 7 ∨ k = 8 ∨ k = 9 ∨ k = 10 ∨ k = 11 := by omega
  rcases this with h | h | h | h | h | h | h | h | h | h | h | h <;> subst h <;> rfl
theorem idx_cds (k : Nat) (h : k < 16) (w : World) : (Instr.index 108 (.agg cdsC) (.int .i64 k)).run Tryz.prog w = .ok (.string (bs (nm cdNs k))) w := by
  have : k = 0 ∨ k = 1 ∨ k = 2 ∨ k = 3 ∨ k = 4 ∨ k = 5 ∨ k = 6 ∨ k = 7 ∨ k = 8 ∨ k = 9 ∨ k = 10 ∨ k = 11 ∨ k = 12 ∨ k = 13 ∨ k = 14 ∨ k = 15 := by omega
  rcases this with h | h | h | h | h | h | h | h | h | h | h | h | h | h | h | h <;> subst h <;> rfl
structure Inv (K : TypeId) (w : World) (b : Nat) (W : World) (l : List (Value × Value)) : Prop where
  g : w.grownBy W (some b)
  m : MapL Tryz.prog K W b l
theorem gcellb {w w' : World} {b : Nat} (h : w.grownBy w' (some b)) {k : Nat} (hk : k ≠ b) (hlt : k < w.heap.size) (o : Nat) : w'.cell? ⟨k, o, none⟩ = w.cell? ⟨k, o, none⟩ := by
  have := h.block k hlt (by simp [hk])
  simp [World.cell?, this]
theorem wf0 : (Lit.int .i64 0).wf = true := by decide
theorem wf_small {n : Int} (h0 : 0 ≤ n) (h1 : n ≤ 1000) : (Lit.int .i64 n).wf = true := WalkArith.wf_i64 (by omega)
theorem nmK_0 (j : Nat) (u v : Bool) : nmK (0, (j : Int), u, v) = nm opNs j ++ (mkU u ++ mkV v) := by simp [nmK]
theorem nmK_1 (j : Nat) (u v : Bool) : nmK (1, (j : Int), u, v) = nm opNs j ++ (mkU u ++ mkV v) := by simp [nmK]
theorem nmK_2 (u v : Bool) : nmK (2, 0, u, v) = memN u v := by simp [nmK]
theorem nmK_3 (j : Nat) (u v : Bool) : nmK (3, (j : Int), u, v) = jmpN v ++ nm cdNs j := by simp [nmK, jmpN]
theorem add_bs (a b : List UInt8) (h : a.length + b.length ≤ 1000000) (W : World) : (Op.stringOp .add (bs a) (bs b)).run Tryz.prog W = .ok (.string (bs (a ++ b))) W := by
  rw [run_string_add_sum W _ _ (by rw [bs_size, bs_size]; omega), bs_append]
theorem mk_len (u v : Bool) : (mkU u ++ mkV v).length ≤ 2 := by unfold mkU mkV; split <;> split <;> simp
theorem jmp_len (v : Bool) : (jmpN v).length ≤ 3 := by unfold jmpN; split <;> simp
theorem tellN {w W : World} {b c : Nat} {l : List (Value × Value)} (f op : Int) (u v : Bool) (s : ByteArray) (f0 : 0 ≤ f ∧ f ≤ 3) (o0 : 0 ≤ op ∧ op ≤ 15) (hl : l.length < 1000000) (hlt : c < w.heap.size) (hcb : c ≠ b)
    (hc : w.cell? ⟨c, 0, none⟩ = some (.map (some b))) (I : Inv 80 w b W l) :
    Calls Tryz.prog 37 #[kd f op u v, .string s, .pointer (some ⟨c, 0, none⟩)] W fun e w' => e = .returned (.tuple #[]) ∧ Inv 80 w b w' (l ++ [(kd f op u v, spv s (rgK4 f u))]) :=
  (names1 f op u v s (wf_small f0.1 (by omega)) (wf_small o0.1 (by omega)) W hl ((gcellb I.g hcb hlt 0).trans hc) (Nat.lt_of_lt_of_le hlt I.g.size) I.m).mono fun e w' ⟨h1, h2, h3⟩ => ⟨h1, grown_trans I.g h2, h3⟩
theorem tellK {w W : World} {b c : Nat} {l : List (Value × Value)} (f op : Int) (u v : Bool) (s : ByteArray) (hs : s.size ≤ maxLen) (hl : l.length < 1000000) (hlt : c < w.heap.size) (hcb : c ≠ b)
    (hc : w.cell? ⟨c, 0, none⟩ = some (.map (some b))) (I : Inv 82 w b W l) :
    Calls Tryz.prog 30 #[kd f op u v, .string s, .pointer (some ⟨c, 0, none⟩)] W fun e w' => e = .returned (.tuple #[]) ∧ Inv 82 w b w' (l ++ [(spv s (rgK4 f u), kd f op u v)]) :=
  (kinds1 f op u v s hs W hl ((gcellb I.g hcb hlt 0).trans hc) (Nat.lt_of_lt_of_le hlt I.g.size) I.m).mono fun e w' ⟨h1, h2, h3⟩ => ⟨h1, grown_trans I.g h2, h3⟩
set_option maxHeartbeats 4000000 in
theorem each_names {b c : Nat} (w : World) (hN : Nms w) (hb : 21 ≤ b) (hlt : c < w.heap.size) (hcb : c ≠ b)
    (hc : w.cell? ⟨c, 0, none⟩ = some (.map (some b))) (hm : MapL Tryz.prog 80 w b []) :
    Calls Tryz.prog 29 #[.func (.func 37) #[] #[.pointer (some ⟨c, 0, none⟩)]] w fun e w' => e = .returned (.tuple #[]) ∧ w.grownBy w' (some b) ∧ MapL Tryz.prog 80 w' b ((tab 4).map enN) := by
  have HC := hide hc
  have HM := hide hm
  have HCB := hide hcb
  have HLT := hide hlt
  have HN := hide hN
  clear hc hm hcb hlt hN
  go_enter Tryz.func29, Tryz.ntmps29
  go_wp2
  go_loopw [9] (fun i W => ∃ n : Nat, n ≤ 4 ∧ i = .int .i64 n ∧ Inv 80 w b W ((tab n).map enN)) (fun i _ => 4 - (intOf i).toNat)
  case atStart => exact ⟨0, by decide, rfl, ⟨rfl, rfl, rfl, Nat.le_refl _, fun _ _ _ => rfl⟩, HM.out⟩
  case round =>
    obtain ⟨n, hn, rfl, I0⟩ := hrel
    by_cases hn4 : n < 4
    · have h4 : n = 0 ∨ n = 1 ∨ n = 2 ∨ n = 3 := by omega
      have hlen : ((tab n).map enN).length < 1000 := by rw [List.length_map, tab_len]; omega
      obtain ⟨l0, hl0⟩ : ∃ l0, (tab n).map enN = l0 := ⟨_, rfl⟩
      have HL0 := hide hl0
      rw [hl0] at I0 hlen
      clear hl0
      have hu : (bits BinOp.and IntKind.i64 (n : Int) 1 != 0) = uM n := by rcases h4 with rfl | rfl | rfl | rfl <;> decide
      have hv : (bits BinOp.and IntKind.i64 (n : Int) 2 != 0) = vM n := by rcases h4 with rfl | rfl | rfl | rfl <;> decide
      clear h4
      obtain ⟨u, hu'⟩ : ∃ u, uM n = u := ⟨_, rfl⟩
      obtain ⟨v, hv'⟩ : ∃ v, vM n = v := ⟨_, rfl⟩
      have HU := hide hu'
      have HV := hide hv'
      rw [hu'] at hu
      rw [hv'] at hv
      clear hu' hv'
      go_wp2_with fail
      refine (memn_any _ _ _).mono ?_
      rintro e w1 ⟨rfl, rfl⟩
      go_wp2_with fail
      refine (tellN 2 0 u v (bs (memN u v)) (by decide) (by decide) (by omega) HLT.out HCB.out HC.out I0).mono ?_
      rintro e w2 ⟨rfl, I1⟩
      rw [← nmK_2 u v] at I1
      obtain ⟨to, fo, ho⟩ := HN.out.ops
      have ho1 : w2.heap[1]? = some (.cells opsC to fo) := (I1.g.block _ (by have := HN.out.size; omega) (by simp; omega)).trans ho
      have HO := hide ho1
      clear ho ho1
      obtain ⟨l1, hl1⟩ : ∃ l1, l0 ++ [(kd 2 0 u v, spv (bs (nmK (2, 0, u, v))) (rgK4 2 u))] = l1 := ⟨_, rfl⟩
      have hlen1 : l1.length < 1002 := by rw [← hl1]; simp; omega
      have HL1 := hide hl1
      rw [hl1] at I1
      clear hl1
      go_wp2_with (refine wpList_load_row rfl 107 (.global 1) rfl 1 rfl _ _ _ _ HO.out Tryz.underlying107 rfl (by kernel_rfl) ?_)
      go_loopw [27] (fun i W => ∃ j : Nat, j ≤ 12 ∧ i = .int .i64 j ∧ Inv 80 w b W (l1 ++ (tabO u v j).map enN)) (fun i _ => 12 - (intOf i).toNat)
      case atStart => exact ⟨0, by decide, rfl, by simpa [tabO] using I1⟩
      case round =>
        obtain ⟨j, hj, rfl, J0⟩ := hrel
        by_cases hj12 : j < 12
        · have hidx := idx_ops j hj12
          obtain ⟨nj, hnj⟩ : ∃ nj, nm opNs j = nj := ⟨_, rfl⟩
          have hnl : nj.length ≤ 3 := by rw [← hnj]; exact opNs_len j
          have hadd := add_bs nj (mkU u ++ mkV v) (by have := mk_len u v; omega)
          have HNJ := hide hnj
          rw [hnj] at hidx
          clear hnj
          have hjl : (l1 ++ (tabO u v j).map enN).length < 2000 := by rw [List.length_append, List.length_map, tabO_len]; omega
          go_wp2_with fail
          refine (mark_any _ _ _).mono ?_
          rintro e w3 ⟨rfl, rfl⟩
          go_wp2_with fail
          refine (tellN 0 j u v (bs (nj ++ (mkU u ++ mkV v))) (by decide) (by omega) (by omega) HLT.out HCB.out HC.out J0).mono ?_
          rintro e w4 ⟨rfl, J1⟩
          go_wp2_with fail
          refine (tellN 1 j u v (bs (nj ++ (mkU u ++ mkV v))) (by decide) (by omega) (by simp at hjl ⊢; omega) HLT.out HCB.out HC.out J1).mono ?_
          rintro e w5 ⟨rfl, J2⟩
          go_wp2
          go_roundw
          case rel =>
            refine ⟨j + 1, by omega, by go_num, ?_⟩
            rw [← HNJ.out] at J2
            rw [tabO_succ, List.map_append, List.map_append, ← List.append_assoc, ← List.append_assoc]
            have E0 : ([((0 : Int), (j : Int), u, v)] : List K4).map enN = [(kd 0 j u v, spv (bs (nm opNs j ++ (mkU u ++ mkV v))) (rgK4 0 u))] := by simp [enN, nmK_0, rgT, rgK4]
            have E1 : ([((1 : Int), (j : Int), u, v)] : List K4).map enN = [(kd 1 j u v, spv (bs (nm opNs j ++ (mkU u ++ mkV v))) (rgK4 1 u))] := by simp [enN, nmK_1, rgT, rgK4]
            rw [E0, E1]
            exact J2
          case measure => simp [intOf]; omega
        · obtain rfl : j = 12 := by omega
          obtain ⟨tc, fc, hcn⟩ := HN.out.conds
          have HO2 := hide ((J0.g.block _ (by have := HN.out.size; omega) (by simp; omega)).trans hcn)
          clear hcn
          go_wp2_with (refine wpList_load_row rfl 108 (.global 2) rfl 2 rfl _ _ _ _ HO2.out Tryz.underlying108 rfl (by kernel_rfl) ?_)
          obtain ⟨l2, hl2⟩ : ∃ l2, l1 ++ (tabO u v 12).map enN = l2 := ⟨_, rfl⟩
          have hlen2 : l2.length < 2000 := by rw [← hl2, List.length_append, List.length_map, tabO_len]; omega
          have HL2 := hide hl2
          rw [hl2] at J0
          clear hl2
          go_loopw [52] (fun i W => ∃ j : Nat, j ≤ 16 ∧ i = .int .i64 j ∧ Inv 80 w b W (l2 ++ (tabC u v j).map enN)) (fun i _ => 16 - (intOf i).toNat)
          case atStart => exact ⟨0, by decide, rfl, by simpa [tabC] using J0⟩
          case round =>
            obtain ⟨j, hj, rfl, C0⟩ := hrel
            by_cases hj16 : j < 16
            · have hidx := idx_cds j hj16
              obtain ⟨nj, hnj⟩ : ∃ nj, nm cdNs j = nj := ⟨_, rfl⟩
              have hnl : nj.length ≤ 2 := by rw [← hnj]; exact cdNs_len j
              have hadd := add_bs (jmpN v) nj (by have := jmp_len v; omega)
              have HNJ := hide hnj
              rw [hnj] at hidx
              clear hnj
              have hjl : (l2 ++ (tabC u v j).map enN).length < 3000 := by rw [List.length_append, List.length_map, tabC_len]; omega
              go_wp2_with fail
              refine (jump_any _ _).mono ?_
              rintro e w3 ⟨rfl, rfl⟩
              go_wp2_with fail
              refine (tellN 3 j u v (bs (jmpN v ++ nj)) (by decide) (by omega) (by omega) HLT.out HCB.out HC.out C0).mono ?_
              rintro e w4 ⟨rfl, C1⟩
              go_wp2
              go_roundw
              case rel =>
                refine ⟨j + 1, by omega, by go_num, ?_⟩
                rw [← HNJ.out] at C1
                rw [tabC_succ, List.map_append, ← List.append_assoc]
                have E0 : ([((3 : Int), (j : Int), u, v)] : List K4).map enN = [(kd 3 j u v, spv (bs (jmpN v ++ nm cdNs j)) (rgK4 3 u))] := by simp [enN, nmK_3, rgT, rgK4]
                rw [E0]
                exact C1
              case measure => simp [intOf]; omega
            · obtain rfl : j = 16 := by omega
              go_wp2
              go_roundw
              case rel =>
                refine ⟨n + 1, by omega, by go_num, ?_⟩
                have E : (tab (n + 1)).map enN = l2 ++ (tabC u v 16).map enN := by
                  rw [tab_succ, List.map_append, HL0.out, tabM, List.map_cons, List.map_append, HU.out, HV.out, ← HL2.out, ← HL1.out]
                  simp [enN, rgT, rgK4]
                rw [E]
                exact C0
              case measure => simp [intOf]; omega
    · obtain rfl : n = 4 := by omega
      go_wp2
      go_end0
      exact ⟨rfl, I0.g, I0.m⟩
end Go.Proofs.YtfdofleohichiaaGreatDoor.Asm
namespace Go.Proofs.YtfdofleohichiaaGreatDoor.Asm
open Go.RowKit Go.Maps Go.Proofs.YtfdofleohichiaaGreatDoor.Bits Go.Proofs.YtfdofleohichiaaGreatDoor.Gw Go.Proofs.YtfdofleohichiaaGreatDoor.Risc Go.Proofs.YtfdofleohichiaaGreatDoor.Tx Go.Proofs.YtfdofleohichiaaGreatDoor.Mp
set_option linter.unusedVariables false
set_option linter.unusedSimpArgs false
set_option maxRecDepth 100000

set_option maxHeartbeats 4000000 in
theorem each_kinds {b c : Nat} (w : World) (hN : Nms w) (hb : 21 ≤ b) (hlt : c < w.heap.size) (hcb : c ≠ b)
    (hc : w.cell? ⟨c, 0, none⟩ = some (.map (some b))) (hm : MapL Tryz.prog 82 w b []) :
    Calls Tryz.prog 29 #[.func (.func 30) #[] #[.pointer (some ⟨c, 0, none⟩)]] w fun e w' => e = .returned (.tuple #[]) ∧ w.grownBy w' (some b) ∧ MapL Tryz.prog 82 w' b ((tab 4).map enK) := by
  have HC := hide hc
  have HM := hide hm
  have HCB := hide hcb
  have HLT := hide hlt
  have HN := hide hN
  clear hc hm hcb hlt hN
  go_enter Tryz.func29, Tryz.ntmps29
  go_wp2
  go_loopw [9] (fun i W => ∃ n : Nat, n ≤ 4 ∧ i = .int .i64 n ∧ Inv 82 w b W ((tab n).map enK)) (fun i _ => 4 - (intOf i).toNat)
  case atStart => exact ⟨0, by decide, rfl, ⟨rfl, rfl, rfl, Nat.le_refl _, fun _ _ _ => rfl⟩, HM.out⟩
  case round =>
    obtain ⟨n, hn, rfl, I0⟩ := hrel
    by_cases hn4 : n < 4
    · have h4 : n = 0 ∨ n = 1 ∨ n = 2 ∨ n = 3 := by omega
      have hlen : ((tab n).map enK).length < 1000 := by rw [List.length_map, tab_len]; omega
      obtain ⟨l0, hl0⟩ : ∃ l0, (tab n).map enK = l0 := ⟨_, rfl⟩
      have HL0 := hide hl0
      rw [hl0] at I0 hlen
      clear hl0
      have hu : (bits BinOp.and IntKind.i64 (n : Int) 1 != 0) = uM n := by rcases h4 with rfl | rfl | rfl | rfl <;> decide
      have hv : (bits BinOp.and IntKind.i64 (n : Int) 2 != 0) = vM n := by rcases h4 with rfl | rfl | rfl | rfl <;> decide
      clear h4
      obtain ⟨u, hu'⟩ : ∃ u, uM n = u := ⟨_, rfl⟩
      obtain ⟨v, hv'⟩ : ∃ v, vM n = v := ⟨_, rfl⟩
      have HU := hide hu'
      have HV := hide hv'
      rw [hu'] at hu
      rw [hv'] at hv
      clear hu' hv'
      go_wp2_with fail
      refine (memn_any _ _ _).mono ?_
      rintro e w1 ⟨rfl, rfl⟩
      go_wp2_with fail
      refine (tellK 2 0 u v (bs (memN u v)) (by rw [bs_size]; have := nmK_len (2, 0, u, v); rw [nmK_2] at this; unfold maxLen; omega) (by omega) HLT.out HCB.out HC.out I0).mono ?_
      rintro e w2 ⟨rfl, I1⟩
      rw [← nmK_2 u v] at I1
      obtain ⟨to, fo, ho⟩ := HN.out.ops
      have ho1 : w2.heap[1]? = some (.cells opsC to fo) := (I1.g.block _ (by have := HN.out.size; omega) (by simp; omega)).trans ho
      have HO := hide ho1
      clear ho ho1
      obtain ⟨l1, hl1⟩ : ∃ l1, l0 ++ [(spv (bs (nmK (2, 0, u, v))) (rgK4 2 u), kd 2 0 u v)] = l1 := ⟨_, rfl⟩
      have hlen1 : l1.length < 1002 := by rw [← hl1]; simp; omega
      have HL1 := hide hl1
      rw [hl1] at I1
      clear hl1
      go_wp2_with (refine wpList_load_row rfl 107 (.global 1) rfl 1 rfl _ _ _ _ HO.out Tryz.underlying107 rfl (by kernel_rfl) ?_)
      go_loopw [27] (fun i W => ∃ j : Nat, j ≤ 12 ∧ i = .int .i64 j ∧ Inv 82 w b W (l1 ++ (tabO u v j).map enK)) (fun i _ => 12 - (intOf i).toNat)
      case atStart => exact ⟨0, by decide, rfl, by simpa [tabO] using I1⟩
      case round =>
        obtain ⟨j, hj, rfl, J0⟩ := hrel
        by_cases hj12 : j < 12
        · have hidx := idx_ops j hj12
          obtain ⟨nj, hnj⟩ : ∃ nj, nm opNs j = nj := ⟨_, rfl⟩
          have hnl : nj.length ≤ 3 := by rw [← hnj]; exact opNs_len j
          have hadd := add_bs nj (mkU u ++ mkV v) (by have := mk_len u v; omega)
          have HNJ := hide hnj
          rw [hnj] at hidx
          clear hnj
          have hjl : (l1 ++ (tabO u v j).map enK).length < 2000 := by rw [List.length_append, List.length_map, tabO_len]; omega
          go_wp2_with fail
          refine (mark_any _ _ _).mono ?_
          rintro e w3 ⟨rfl, rfl⟩
          go_wp2_with fail
          refine (tellK 0 j u v (bs (nj ++ (mkU u ++ mkV v))) (by rw [bs_size]; have := mk_len u v; unfold maxLen; simp at this ⊢; omega) (by omega) HLT.out HCB.out HC.out J0).mono ?_
          rintro e w4 ⟨rfl, J1⟩
          go_wp2_with fail
          refine (tellK 1 j u v (bs (nj ++ (mkU u ++ mkV v))) (by rw [bs_size]; have := mk_len u v; unfold maxLen; simp at this ⊢; omega) (by simp at hjl ⊢; omega) HLT.out HCB.out HC.out J1).mono ?_
          rintro e w5 ⟨rfl, J2⟩
          go_wp2
          go_roundw
          case rel =>
            refine ⟨j + 1, by omega, by go_num, ?_⟩
            rw [← HNJ.out] at J2
            rw [tabO_succ, List.map_append, List.map_append, ← List.append_assoc, ← List.append_assoc]
            have E0 : ([((0 : Int), (j : Int), u, v)] : List K4).map enK = [(spv (bs (nm opNs j ++ (mkU u ++ mkV v))) (rgK4 0 u), kd 0 j u v)] := by simp [enK, nmK_0, rgT, rgK4]
            have E1 : ([((1 : Int), (j : Int), u, v)] : List K4).map enK = [(spv (bs (nm opNs j ++ (mkU u ++ mkV v))) (rgK4 1 u), kd 1 j u v)] := by simp [enK, nmK_1, rgT, rgK4]
            rw [E0, E1]
            exact J2
          case measure => simp [intOf]; omega
        · obtain rfl : j = 12 := by omega
          obtain ⟨tc, fc, hcn⟩ := HN.out.conds
          have HO2 := hide ((J0.g.block _ (by have := HN.out.size; omega) (by simp; omega)).trans hcn)
          clear hcn
          go_wp2_with (refine wpList_load_row rfl 108 (.global 2) rfl 2 rfl _ _ _ _ HO2.out Tryz.underlying108 rfl (by kernel_rfl) ?_)
          obtain ⟨l2, hl2⟩ : ∃ l2, l1 ++ (tabO u v 12).map enK = l2 := ⟨_, rfl⟩
          have hlen2 : l2.length < 2000 := by rw [← hl2, List.length_append, List.length_map, tabO_len]; omega
          have HL2 := hide hl2
          rw [hl2] at J0
          clear hl2
          go_loopw [52] (fun i W => ∃ j : Nat, j ≤ 16 ∧ i = .int .i64 j ∧ Inv 82 w b W (l2 ++ (tabC u v j).map enK)) (fun i _ => 16 - (intOf i).toNat)
          case atStart => exact ⟨0, by decide, rfl, by simpa [tabC] using J0⟩
          case round =>
            obtain ⟨j, hj, rfl, C0⟩ := hrel
            by_cases hj16 : j < 16
            · have hidx := idx_cds j hj16
              obtain ⟨nj, hnj⟩ : ∃ nj, nm cdNs j = nj := ⟨_, rfl⟩
              have hnl : nj.length ≤ 2 := by rw [← hnj]; exact cdNs_len j
              have hadd := add_bs (jmpN v) nj (by have := jmp_len v; omega)
              have HNJ := hide hnj
              rw [hnj] at hidx
              clear hnj
              have hjl : (l2 ++ (tabC u v j).map enK).length < 3000 := by rw [List.length_append, List.length_map, tabC_len]; omega
              go_wp2_with fail
              refine (jump_any _ _).mono ?_
              rintro e w3 ⟨rfl, rfl⟩
              go_wp2_with fail
              refine (tellK 3 j u v (bs (jmpN v ++ nj)) (by rw [bs_size]; have := jmp_len v; unfold maxLen; simp at this ⊢; omega) (by omega) HLT.out HCB.out HC.out C0).mono ?_
              rintro e w4 ⟨rfl, C1⟩
              go_wp2
              go_roundw
              case rel =>
                refine ⟨j + 1, by omega, by go_num, ?_⟩
                rw [← HNJ.out] at C1
                rw [tabC_succ, List.map_append, ← List.append_assoc]
                have E0 : ([((3 : Int), (j : Int), u, v)] : List K4).map enK = [(spv (bs (jmpN v ++ nm cdNs j)) (rgK4 3 u), kd 3 j u v)] := by simp [enK, nmK_3, rgT, rgK4]
                rw [E0]
                exact C1
              case measure => simp [intOf]; omega
            · obtain rfl : j = 16 := by omega
              go_wp2
              go_roundw
              case rel =>
                refine ⟨n + 1, by omega, by go_num, ?_⟩
                have E : (tab (n + 1)).map enK = l2 ++ (tabC u v 16).map enK := by
                  rw [tab_succ, List.map_append, HL0.out, tabM, List.map_cons, List.map_append, HU.out, HV.out, ← HL2.out, ← HL1.out]
                  simp [enK, rgT, rgK4]
                rw [E]
                exact C0
              case measure => simp [intOf]; omega
    · obtain rfl : n = 4 := by omega
      go_wp2
      go_end0
      exact ⟨rfl, I0.g, I0.m⟩
end Go.Proofs.YtfdofleohichiaaGreatDoor.Asm
namespace Go.Proofs.YtfdofleohichiaaGreatDoor.Asm
open Go.RowKit Go.Maps Go.Proofs.YtfdofleohichiaaGreatDoor.Bits Go.Proofs.YtfdofleohichiaaGreatDoor.Gw Go.Proofs.YtfdofleohichiaaGreatDoor.Risc Go.Proofs.YtfdofleohichiaaGreatDoor.Tx Go.Proofs.YtfdofleohichiaaGreatDoor.Mp
set_option linter.unusedVariables false
set_option linter.unusedSimpArgs false
set_option maxRecDepth 100000

theorem Nms.g {w w' : World} (h : Nms w) (hg : w.grownBy w' none) : Nms w' := by
  have s := h.size
  obtain ⟨t, fr, h1⟩ := h.ops
  obtain ⟨t', fr', h2⟩ := h.conds
  exact ⟨Nat.le_trans s hg.size, ⟨t, fr, (hg.block _ (by omega) (by simp)).trans h1⟩, ⟨t', fr', (hg.block _ (by omega) (by simp)).trans h2⟩⟩
theorem run_make {t k e : TypeId} (ht : Tryz.prog.underlying t = some (.map k e)) (w : World) : (Instr.makeMap t (some (.int .i64 164))).run Tryz.prog w = .ok (.map (some w.heap.size)) (w.alloc (.map #[] 0)) := by
  simp [Instr.makeMap, run_underlying ht, asInt, asIntOf]
theorem grown_new {w w' : World} {b : Nat} (h : w.grownBy w' (some b)) {v : World} (hv : v.grownBy w none) (hb : v.heap.size ≤ b) : v.grownBy w' none :=
  ⟨h.os.trans hv.os, h.tape.trans hv.tape, h.output.trans hv.output, Nat.le_trans hv.size h.size, fun k hk _ => (h.block k (Nat.lt_of_lt_of_le hk hv.size) (by simp; omega)).trans (hv.block k hk (by simp))⟩
set_option maxHeartbeats 1000000 in
theorem names_any (w : World) (hN : Nms w) : Calls Tryz.prog 16 #[] w fun e w' => ∃ b, e = .returned (.map (some b)) ∧ w.grownBy w' none ∧ w.heap.size ≤ b ∧ MapL Tryz.prog 80 w' b ((tab 4).map enN) := by
  have hmm := run_make Tryz.underlying47
  have HN := hide hN
  clear hN
  go_enter Tryz.func16, Tryz.ntmps16
  go_wp2_with fail
  refine (each_names (b := w.heap.size) (c := w.heap.size + 1) _ (HN.out.g (grown_trans (World.grownBy_alloc w _ none) (World.grownBy_alloc _ _ none))) HN.out.size (by simp) (by omega) (by simp) ((MapL.made 80 w).kept (World.grownBy_alloc _ _ none) (by simp))).mono ?_
  rintro e w1 ⟨rfl, hg, hM⟩
  have hcl : w1.cell? ⟨w.heap.size + 1, 0, none⟩ = some (.map (some w.heap.size)) := by
    rw [gcellb hg (by omega) (by simp)]
    simp
  have HG := hide hg
  have HMM := hide hM
  clear hg hM
  go_wp2
  go_ret
  exact ⟨w.heap.size, rfl, grown_new HG.out (grown_trans (World.grownBy_alloc w _ none) (World.grownBy_alloc _ _ none)) (Nat.le_refl _), Nat.le_refl _, HMM.out⟩
set_option maxHeartbeats 1000000 in
theorem kinds_any (w : World) (hN : Nms w) : Calls Tryz.prog 13 #[] w fun e w' => ∃ b, e = .returned (.map (some b)) ∧ w.grownBy w' none ∧ w.heap.size ≤ b ∧ MapL Tryz.prog 82 w' b ((tab 4).map enK) := by
  have hmm := run_make Tryz.underlying40
  have HN := hide hN
  clear hN
  go_enter Tryz.func13, Tryz.ntmps13
  go_wp2_with fail
  refine (each_kinds (b := w.heap.size) (c := w.heap.size + 1) _ (HN.out.g (grown_trans (World.grownBy_alloc w _ none) (World.grownBy_alloc _ _ none))) HN.out.size (by simp) (by omega) (by simp) ((MapL.made 82 w).kept (World.grownBy_alloc _ _ none) (by simp))).mono ?_
  rintro e w1 ⟨rfl, hg, hM⟩
  have hcl : w1.cell? ⟨w.heap.size + 1, 0, none⟩ = some (.map (some w.heap.size)) := by
    rw [gcellb hg (by omega) (by simp)]
    simp
  have HG := hide hg
  have HMM := hide hM
  clear hg hM
  go_wp2
  go_ret
  exact ⟨w.heap.size, rfl, grown_new HG.out (grown_trans (World.grownBy_alloc w _ none) (World.grownBy_alloc _ _ none)) (Nat.le_refl _), Nat.le_refl _, HMM.out⟩
end Go.Proofs.YtfdofleohichiaaGreatDoor.Asm
