/-
  Package consts: the keys of its maps; a map of operations, and what a look-up finds in it.
-/
import Derived.Test.YtgdpcdpkaaefbaaCn8
namespace Go.Proofs.Ytgdpcdpkaaefbaa.Cn
open Go.RowKit hiding Hid
open Go.Maps Go.Proofs.Ytgdpcdpkaaefbaa.Tx Go.Proofs.Ytgdpcdpkaaefbaa.Lx Go.Proofs.Ytgdpcdpkaaefbaa.Mp Go.Proofs.Ytgdpcdpkaaefbaa.Bits
set_option linter.unusedVariables false
set_option linter.unusedSimpArgs false
set_option maxRecDepth 100000

abbrev Ky := Int × Int × List UInt8
def kyV (x : Ky) : Value := .agg #[.int .i64 x.1, .int .i64 x.2.1, .string (bs x.2.2)]
def kok (x : Ky) : Prop := (-9223372036854775808 ≤ x.1 ∧ x.1 ≤ 9223372036854775807) ∧ (-9223372036854775808 ≤ x.2.1 ∧ x.2.1 ≤ 9223372036854775807) ∧ x.2.2.length ≤ maxLen
theorem laidOut : laidOutB Try.prog = true := by kernel_rfl
theorem LKk : Keyed Try.prog 79 := Keyed.of_law (deep_law_laid laidOut (m := 2) (by omega) (of_decide_eq_true (by kernel_rfl)) (by kernel_rfl) (by rw [Try.underlying79]))
theorem keyT_k : Try.prog.keyType 79 = true := by kernel_rfl
theorem cells_k : Try.prog.cellsOf 79 = 3 := by kernel_rfl
theorem cells_i : Try.prog.cellsOf 3 = 1 := by kernel_rfl
theorem cells_s : Try.prog.cellsOf 9 = 1 := by kernel_rfl
theorem types_size : ∃ n, Try.prog.types.size + 1 = n + 2 := by
  have h : Try.prog.types.size = 120 := by kernel_rfl
  exact ⟨Try.prog.types.size - 1, by omega⟩
theorem isK_ky {x : Ky} (h : kok x) : IsK Try.prog 79 (kyV x) := by
  obtain ⟨n, hn⟩ := types_size
  obtain ⟨h1, h2, h3⟩ := h
  have hw : (Lit.int .i64 x.1).wf = true := by simp only [Lit.wf, Bool.and_eq_true, decide_eq_true_eq]; exact h1
  have hw2 : (Lit.int .i64 x.2.1).wf = true := by simp only [Lit.wf, Bool.and_eq_true, decide_eq_true_eq]; exact h2
  have hz : (bs x.2.2).size ≤ maxLen := by rw [bs_size]; exact h3
  have hf : (kyV x).formed Try.prog 79 = true := by simp [kyV, Value.formed, Try.underlying79, cells_k]
  have hl : Try.prog.keyLits (n + 2) 79 [.int .i64 x.1, .int .i64 x.2.1, .string (bs x.2.2)] = some [.int .i64 x.1, .int .i64 x.2.1, .string (bs x.2.2).data.toList] := by
    simp [Program.keyLits, Try.underlying79, cells_k, cells_i, cells_s, Try.underlying3, Try.underlying9, hw, hw2, hz]
  refine ⟨.string (keyBytes [.int .i64 x.1, .int .i64 x.2.1, .string (bs x.2.2).data.toList]), ?_⟩
  unfold keyOf
  rw [Try.underlying79]
  show (if Try.prog.keyType 79 && (kyV x).formed Try.prog 79 then (Try.prog.keyLits (Try.prog.types.size + 1) 79 [.int .i64 x.1, .int .i64 x.2.1, .string (bs x.2.2)]).map (fun ls => Lit.string (keyBytes ls)) else none) = _
  rw [keyT_k, hf, hn, hl]
  rfl
theorem kyV_inj {x y : Ky} (h : kyV x = kyV y) : x = y := by
  obtain ⟨a, b, c⟩ := x
  obtain ⟨d, e, f⟩ := y
  simp only [kyV, Value.agg.injEq] at h
  have h0 := congrArg (fun l : Array Value => l[0]?) h
  have h1 := congrArg (fun l : Array Value => l[1]?) h
  have h2 := congrArg (fun l : Array Value => l[2]?) h
  simp at h0 h1 h2
  rw [h0, h1, bs_inj h2]
/- The operations, by name, and the functions that they are. -/
inductive Cd where
  | pos | neg | cpl | not
  | add | sub | mul | quo | rem | sor | sdf | san | sxo | and | or | isin
  | eq | ne | lt | le | gt | ge
  | abs | odd | lsl | asr | ror | wi1 | wi2 | wi3 | otx | chr
deriving DecidableEq
inductive Ent where
  | cl (F g : FuncId)
  | fn (f : FuncId)
def entOf : Cd → Ent
  | .pos => .cl 91 54
  | .neg => .cl 91 55
  | .cpl => .cl 93 57
  | .not => .cl 95 59
  | .add => .cl 91 62
  | .sub => .cl 91 63
  | .mul => .cl 91 64
  | .quo => .cl 98 66
  | .rem => .cl 98 67
  | .sor => .cl 93 68
  | .sdf => .cl 93 69
  | .san => .cl 93 70
  | .sxo => .cl 93 71
  | .and => .cl 95 72
  | .or => .cl 95 73
  | .isin => .fn 74
  | .eq => .cl 95 100
  | .ne => .cl 95 101
  | .lt => .cl 95 102
  | .le => .cl 95 104
  | .gt => .cl 95 105
  | .ge => .cl 95 106
  | .abs => .cl 91 78
  | .odd => .cl 95 79
  | .lsl => .cl 109 81
  | .asr => .cl 109 82
  | .ror => .cl 109 83
  | .wi1 => .cl 109 84
  | .wi2 => .cl 109 85
  | .wi3 => .cl 109 86
  | .otx => .fn 87
  | .chr => .fn 88
def clV (F : FuncId) (b : Nat) : Value := .func (.func F) #[] #[.pointer (some ⟨b, 0, none⟩)]
def EntV (w : World) : Ent → Value → Prop
  | .cl F g, v => ∃ b, v = clV F b ∧ w.cell? ⟨b, 0, none⟩ = some (fnV g)
  | .fn f, v => v = fnV f
theorem map_no_cell {w : World} {mb b : Nat} {l : List (Value × Value)} (h : MapL Try.prog 79 w mb l) {v : Value} (hc : w.cell? ⟨b, 0, none⟩ = some v) : some b ≠ some mb := by
  intro e
  injection e with e
  subst e
  obtain ⟨es, clock, h1, _⟩ := h.own
  simp [World.cell?, h1] at hc
theorem EntV.g {w w' : World} {e : Ent} {v : Value} (h : EntV w e v) (hg : w.grownBy w' none) : EntV w' e v := by
  cases e with
  | cl F g => obtain ⟨b, h1, h2⟩ := h; exact ⟨b, h1, hg.cell h2 (by simp)⟩
  | fn f => exact h
theorem EntV.m {w w' : World} {e : Ent} {v : Value} {mb : Nat} {l : List (Value × Value)} (h : EntV w e v) (hm : MapL Try.prog 79 w mb l) (hg : w.grownBy w' (some mb)) : EntV w' e v := by
  cases e with
  | cl F g => obtain ⟨b, h1, h2⟩ := h; exact ⟨b, h1, hg.cell h2 (map_no_cell hm h2)⟩
  | fn f => exact h
abbrev Zt := Ky × Cd × Value
def MapK (w : World) (mb : Nat) (E : List (Ky × Cd)) : Prop := ∃ Z : List Zt, Z.map (fun z => (z.1, z.2.1)) = E ∧ (∀ z ∈ Z, EntV w (entOf z.2.1) z.2.2) ∧ ∃ l, l.length ≤ 1000 + Z.length ∧ MapL Try.prog 79 w mb l ∧ ∀ p, p ∈ l ↔ ∃ z ∈ Z, p = (kyV z.1, z.2.2)
theorem MapK.g {w w' : World} {mb : Nat} {E : List (Ky × Cd)} (h : MapK w mb E) (hg : w.grownBy w' none) : MapK w' mb E := by
  obtain ⟨Z, h1, h2, l, h0, h3, h4⟩ := h
  exact ⟨Z, h1, fun z hz => (h2 z hz).g hg, l, h0, h3.kept hg (by simp), h4⟩
theorem MapK.lt {w : World} {mb : Nat} {E : List (Ky × Cd)} (h : MapK w mb E) : mb < w.heap.size := by
  obtain ⟨Z, h1, h2, l, h0, h3, h4⟩ := h
  exact h3.lt
theorem z_op (w : World) : (zeroValue 76).run Try.prog w = .ok .nilFunc w := by kernel_rfl
theorem MapK.yes {w : World} {mb : Nat} {E : List (Ky × Cd)} (h : MapK w mb E) (hd : (E.map (·.1)).Nodup) {x : Ky} (hx : kok x) {c : Cd} (hc : (x, c) ∈ E) : ∃ v, EntV w (entOf c) v ∧
    (Instr.lookup 54 (.map (some mb)) (kyV x) true).run Try.prog w = .ok (.tuple #[v, .bool true]) w := by
  obtain ⟨Z, rfl, h2, l, h0, h3, h4⟩ := h
  obtain ⟨z, hz, e⟩ := List.mem_map.1 hc
  injection e with e1 e2
  refine ⟨z.2.2, by rw [← e2]; exact h2 z hz, h3.look_ok LKk Try.underlying54 (z_op w) (isK_ky hx) ((h4 _).2 ⟨z, hz, by rw [e1]⟩) (fun p hp e => ?_)⟩
  obtain ⟨y, hy, rfl⟩ := (h4 p).1 hp
  have e3 := kyV_inj e
  have : y = z := by
    rw [List.map_map] at hd
    have hpw := List.pairwise_iff_getElem.1 (List.nodup_iff_pairwise_ne.1 hd)
    obtain ⟨i, hi, rfl⟩ := List.getElem_of_mem hy
    obtain ⟨j, hj, rfl⟩ := List.getElem_of_mem hz
    rcases Nat.lt_trichotomy i j with h | h | h
    · have := hpw i j (by simpa using hi) (by simpa using hj) h
      simp only [List.getElem_map, Function.comp] at this
      exact absurd (e3.trans e1.symm) this
    · subst h; rfl
    · have := hpw j i (by simpa using hj) (by simpa using hi) h
      simp only [List.getElem_map, Function.comp] at this
      exact absurd (e1.trans e3.symm) this
  rw [this]
theorem MapK.no {w : World} {mb : Nat} {E : List (Ky × Cd)} (h : MapK w mb E) {x : Ky} (hx : kok x) (hc : ∀ p ∈ E, p.1 ≠ x) :
    (Instr.lookup 54 (.map (some mb)) (kyV x) true).run Try.prog w = .ok (.tuple #[.nilFunc, .bool false]) w := by
  obtain ⟨Z, rfl, h2, l, h0, h3, h4⟩ := h
  refine h3.look_no LKk Try.underlying54 (z_op w) (isK_ky hx) (fun p hp e => ?_)
  obtain ⟨y, hy, rfl⟩ := (h4 p).1 hp
  exact hc _ (List.mem_map.2 ⟨y, hy, rfl⟩) (kyV_inj e)
/- One entry more. -/
theorem MapK.put {w : World} {mb : Nat} {E : List (Ky × Cd)} (h : MapK w mb E) (hn : E.length ≤ 100) {x : Ky} (hx : kok x) {c : Cd} {v : Value} (hv : EntV w (entOf c) v) : ∃ w', (Instr.mapUpdate 54 (.map (some mb)) (kyV x) v).run Try.prog w = .ok () w' ∧ w.grownBy w' (some mb) ∧ MapK w' mb (E ++ [(x, c)]) := by
  obtain ⟨Z, rfl, h2, l, h0, h3, h4⟩ := h
  obtain ⟨w', hr, hm, hg⟩ := h3.update LKk Try.underlying54 (by simp at hn; omega) (isK_ky hx) (val := v)
  refine ⟨w', hr, hg, Z ++ [(x, c, v)], by simp, fun z hz => ?_, l ++ [(kyV x, v)], by simp; omega, hm, fun p => ?_⟩
  · rcases List.mem_append.1 hz with hz | hz
    · exact (h2 z hz).m h3 hg
    · rw [List.mem_singleton] at hz
      subst hz
      exact hv.m h3 hg
  · constructor
    · intro hp
      rcases List.mem_append.1 hp with hp | hp
      · obtain ⟨z, hz, e⟩ := (h4 p).1 hp
        exact ⟨z, List.mem_append.2 (.inl hz), e⟩
      · rw [List.mem_singleton] at hp
        exact ⟨(x, c, v), List.mem_append.2 (.inr (List.mem_singleton.2 rfl)), hp⟩
    · rintro ⟨z, hz, rfl⟩
      rcases List.mem_append.1 hz with hz | hz
      · exact List.mem_append.2 (.inl ((h4 _).2 ⟨z, hz, rfl⟩))
      · rw [List.mem_singleton] at hz
        subst hz
        exact List.mem_append.2 (.inr (List.mem_singleton.2 rfl))
end Go.Proofs.Ytgdpcdpkaaefbaa.Cn
