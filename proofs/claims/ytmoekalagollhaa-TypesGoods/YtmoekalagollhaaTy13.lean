/-
  Package types: records.
-/
import Derived.Test.YtmoekalagollhaaTy12
namespace Go.Proofs.Ytmoekalagollhaa.Ty
open Go.RowKit hiding Hid
open Go.Maps Go.Proofs.Ytmoekalagollhaa.Tx Go.Proofs.Ytmoekalagollhaa.Lx Go.Proofs.Ytmoekalagollhaa.Tr Go.Proofs.Ytmoekalagollhaa.Mp
set_option linter.unusedVariables false
set_option linter.unusedSimpArgs false
set_option maxRecDepth 100000

theorem cf_mkmap {P : Program} {ops : Array Oper} {rest : List Oper} {o : Oper} {a : Act} {w w0 : World} {Q : Exit → Act → World → Prop} {A : Nat → Prop} {X : Option Nat} {L : List Lc} {Rs : List Rw} {Fs : List Fk} (hgd : o.guard = none) (T : TypeId) (ho : o.op = .makeMap T none) (p : Nat → World → Prop) (hp : ∀ w : World, p w.heap.size (w.alloc (.map #[] 0))) (hs : ∀ b, Stab b (p b)) (H : Cf w0 A X L Rs Fs w)
    (h : ∀ b w', Cf w0 A X L Rs (⟨b, p b⟩ :: Fs) w' → wpList P ops Q rest (a.put o.dst (.map (some b))) w') : wpList P ops Q (o :: rest) a w := by
  refine wl_val (w' := w.alloc (.map #[] 0)) hgd ?_ (h w.heap.size _ (H.new (hp w) (hs _)))
  unfold execOp
  simp [ho, Instr.makeMap]
/- Records by their modules and numbers, as keys. -/
abbrev Ok := Txt × Int
def ownV (k : Ok) : Value := .agg #[.string (bs k.1), .int .i64 k.2]
theorem ownV_inj {x y : Ok} (h : ownV x = ownV y) : x = y := by
  obtain ⟨a, b⟩ := x
  obtain ⟨d, e⟩ := y
  simp only [ownV, Value.agg.injEq] at h
  have h0 := congrArg (fun l : Array Value => l[0]?) h
  have h1 := congrArg (fun l : Array Value => l[1]?) h
  simp at h0 h1
  rw [bs_inj h0, h1]
def kok (x : Ok) : Prop := x.1.length ≤ maxLen ∧ (-9223372036854775808 ≤ x.2 ∧ x.2 ≤ 9223372036854775807)
theorem LKo : Keyed Try.prog 97 := Keyed.of_law (deep_law_laid laidO (m := 2) (by omega) (of_decide_eq_true (by kernel_rfl)) (by kernel_rfl) (by rw [Try.underlying97]))
theorem keyT_o : Try.prog.keyType 97 = true := by kernel_rfl
theorem cells_o : Try.prog.cellsOf 97 = 2 := by kernel_rfl
theorem cells_i : Try.prog.cellsOf 3 = 1 := by kernel_rfl
theorem cells_s : Try.prog.cellsOf 9 = 1 := by kernel_rfl
theorem types_size : ∃ n, Try.prog.types.size + 1 = n + 2 := by
  have h : Try.prog.types.size = 130 := by kernel_rfl
  exact ⟨Try.prog.types.size - 1, by omega⟩
theorem isK_own {x : Ok} (h : kok x) : IsK Try.prog 97 (ownV x) := by
  obtain ⟨n, hn⟩ := types_size
  obtain ⟨h3, h1⟩ := h
  have hw : (Lit.int .i64 x.2).wf = true := by simp only [Lit.wf, Bool.and_eq_true, decide_eq_true_eq]; exact h1
  have hz : (bs x.1).size ≤ maxLen := by rw [bs_size]; exact h3
  have hf : (ownV x).formed Try.prog 97 = true := by simp [ownV, Value.formed, Try.underlying97, cells_o]
  have hl : Try.prog.keyLits (n + 2) 97 [.string (bs x.1), .int .i64 x.2] = some [.string (bs x.1).data.toList, .int .i64 x.2] := by
    simp [Program.keyLits, Try.underlying97, cells_o, cells_i, cells_s, Try.underlying3, Try.underlying9, hw, hz]
  refine ⟨.string (keyBytes [.string (bs x.1).data.toList, .int .i64 x.2]), ?_⟩
  unfold keyOf
  rw [Try.underlying97]
  show (if Try.prog.keyType 97 && (ownV x).formed Try.prog 97 then (Try.prog.keyLits (Try.prog.types.size + 1) 97 [.string (bs x.1), .int .i64 x.2]).map (fun ls => Lit.string (keyBytes ls)) else none) = _
  rw [keyT_o, hf, hn, hl]
  rfl
theorem zero_0 (w : World) : (zeroValue 94).run Try.prog w = .ok (.agg #[]) w := by kernel_rfl
/- A set of them. -/
structure MapO (w : World) (b : Nat) (E : List Ok) : Prop where
  ok : ∀ k ∈ E, kok k
  ml : MapL Try.prog 97 w b (E.map (fun k => (ownV k, .agg #[])))
theorem MapO.made (w : World) : MapO (w.alloc (.map #[] 0)) w.heap.size [] := ⟨by simp, MapL.made _ _⟩
theorem stabO (b : Nat) (E : List Ok) : Stab b (fun W => MapO W b E) := fun w w' row hg hne h => ⟨h.ok, h.ml.kept hg hne⟩
theorem MapO.yes {w : World} {b : Nat} {E : List Ok} (h : MapO w b E) {k : Ok} (hk : k ∈ E) : (Instr.lookup 92 (.map (some b)) (ownV k) true).run Try.prog w = .ok (.tuple #[.agg #[], .bool true]) w :=
  h.ml.look_ok LKo Try.underlying92 (zero_0 w) (isK_own (h.ok k hk)) (v := .agg #[]) (List.mem_map.2 ⟨k, hk, rfl⟩) (fun p hp _ => by
    obtain ⟨q, _, rfl⟩ := List.mem_map.1 hp
    rfl)
theorem MapO.no {w : World} {b : Nat} {E : List Ok} (h : MapO w b E) {k : Ok} (ho : kok k) (hk : k ∉ E) : (Instr.lookup 92 (.map (some b)) (ownV k) true).run Try.prog w = .ok (.tuple #[.agg #[], .bool false]) w :=
  h.ml.look_no LKo Try.underlying92 (zero_0 w) (isK_own ho) (fun p hp e => by
    obtain ⟨q, hq, rfl⟩ := List.mem_map.1 hp
    exact hk (by rw [← ownV_inj e]; exact hq))
theorem MapO.put {w : World} {b : Nat} {E : List Ok} (h : MapO w b E) {k : Ok} (ho : kok k) (hn : E.length < 1000000) : ∃ w', (Instr.mapUpdate 92 (.map (some b)) (ownV k) (.agg #[])).run Try.prog w = .ok () w' ∧ MapO w' b (E ++ [k]) ∧ w.grownBy w' (some b) := by
  obtain ⟨w', h1, h2, h3⟩ := h.ml.update LKo Try.underlying92 (by simpa using hn) (isK_own ho) (val := .agg #[])
  refine ⟨w', h1, ⟨fun q hq => ?_, ?_⟩, h3⟩
  · rcases List.mem_append.1 hq with hq | hq
    · exact h.ok q hq
    · rw [List.mem_singleton] at hq; subst hq; exact ho
  · rw [List.map_append]
    exact h2
/- What is asked of a record. -/
def RecD (T : List Tt) (i : Nat) : Prop := ∀ x, T[i]? = some x → x.fm = 9 → (∀ k y, k < i → T[k]? = some y → y.fm = 9 → y.md = x.md → y.ds = x.ds → x.ds = -1) ∧ ∃ n, n ≤ 4 ∧ Lv T n i ∧ (nmsL T n i).Nodup
structure RecPre (T : List Tt) : Prop where
  lv : ∀ i x, T[i]? = some x → x.fm = 9 → (∃ n, n ≤ 1000 ∧ Lv T n i) ∧ -1 ≤ x.ds ∧ x.ds < 64
  fl : ∀ (i : Nat) x, T[i]? = some x → x.fl.length ≤ 64
  z : ∀ x, T[0]? = some x → x.fm ≠ 9
  le : T.length ≤ 256
theorem nmA_len {T : List Tt} (h : RecPre T) (i : Nat) : (nmA T i).length ≤ 64 := by
  unfold nmA
  split
  · rename_i x hx
    rw [List.length_map]
    exact h.fl i x hx
  · simp
theorem nms_len {T : List Tt} (h : RecPre T) : ∀ (n i : Nat), (nmsL T n i).length ≤ 64 * (n + 1)
  | 0, i => by rw [nmsL]; have := nmA_len h i; omega
  | n + 1, i => by
    rw [nmsL, List.length_append]
    have := nmA_len h i
    have := nms_len h n (baA T i)
    omega
def ownE (T : List Tt) (i : Nat) : List Ok := ((T.take i).filter (fun x => x.fm == 9 && x.ds != -1)).map (fun x => (x.md, x.ds))
theorem ownE_len (T : List Tt) (i : Nat) : (ownE T i).length ≤ T.length := by
  unfold ownE
  rw [List.length_map]
  refine Nat.le_trans (List.length_filter_le _ _) ?_
  rw [List.length_take]
  omega
theorem ownE_mem {T : List Tt} {i : Nat} {k : Ok} : k ∈ ownE T i ↔ ∃ j y, j < i ∧ T[j]? = some y ∧ y.fm = 9 ∧ y.ds ≠ -1 ∧ k = (y.md, y.ds) := by
  unfold ownE
  simp only [List.mem_map, List.mem_filter, Bool.and_eq_true, beq_iff_eq, bne_iff_ne, List.mem_take_iff_getElem, ne_eq]
  constructor
  · rintro ⟨y, ⟨⟨j, hj, e⟩, h1, h2⟩, rfl⟩
    exact ⟨j, y, by omega, by rw [List.getElem?_eq_getElem (by omega), e], h1, h2, rfl⟩
  · rintro ⟨j, y, hj, e, h1, h2, rfl⟩
    obtain ⟨hl, rfl⟩ := List.getElem?_eq_some_iff.1 e
    exact ⟨T[j], ⟨⟨j, by omega, rfl⟩, h1, h2⟩, rfl⟩
theorem ownE_step {T : List Tt} {i : Nat} {x : Tt} (h : T[i]? = some x) : ownE T (i + 1) = if x.fm = 9 ∧ x.ds ≠ -1 then ownE T i ++ [(x.md, x.ds)] else ownE T i := by
  unfold ownE
  rw [List.take_add_one, h, List.filter_append, List.map_append]
  by_cases e1 : x.fm = 9 <;> by_cases e2 : x.ds = -1 <;> simp [List.filter_cons, e1, e2]
end Go.Proofs.Ytmoekalagollhaa.Ty
