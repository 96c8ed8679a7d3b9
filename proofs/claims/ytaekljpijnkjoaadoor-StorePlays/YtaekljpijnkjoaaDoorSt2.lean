/-
  A name as a key: an array of bytes, zeros behind it; package store's keyOf.
-/
import Derived.Test.YtaekljpijnkjoaaDoorSt1
import Derived.Deep.WholeRow
import Derived.Lib.BufferWrite
import Derived.RegionTactic
import Derived.Laws.ResultCell
import Derived.OrdersHeld
namespace Go.Proofs.YtaekljpijnkjoaaDoor.St
open Go.RowKit Go.Proofs.YtaekljpijnkjoaaDoor.Tx
set_option linter.unusedVariables false
set_option linter.unusedSimpArgs false
set_option maxRecDepth 100000

def b8 (c : UInt8) : Value := .int .u8 (c.toNat : Int)
def padL (s : List UInt8) : List UInt8 := s ++ List.replicate (24 - s.length) 0
def padV (s : List UInt8) : Array Value := ((padL s).map b8).toArray
def keyV (s : List UInt8) : Value := .agg (padV s)
theorem padL_len {s : List UInt8} (h : s.length ≤ 24) : (padL s).length = 24 := by simp [padL]; omega
theorem padV_size {s : List UInt8} (h : s.length ≤ 24) : (padV s).size = 24 := by simp [padV, padL_len h]
theorem padV_one (s : List UInt8) : (padV s).all (·.oneCell') = true := by
  rw [Array.all_eq_true_iff_forall_mem]
  intro v hv
  simp [padV] at hv
  obtain ⟨c, _, rfl⟩ := hv
  rfl
theorem nm_len {s : List UInt8} (h : nmB s = true) : s.length ≤ 24 := by
  cases s with
  | nil => simp
  | cons c r => simp only [nmB, Bool.and_eq_true, decide_eq_true_eq] at h; exact h.1.1
theorem nm_ne {s : List UInt8} (h : nmB s = true) : s ≠ [] := by rintro rfl; cases h
theorem nm_all {s : List UInt8} (h : nmB s = true) : s.all ldd = true := by
  cases s with
  | nil => rfl
  | cons c r => simp only [nmB, Bool.and_eq_true] at h; exact h.2
theorem ldd_zero : ldd 0 = false := by decide
theorem nm_zero {s : List UInt8} (h : nmB s = true) : (0 : UInt8) ∉ s := fun hm => by
  have := List.all_eq_true.1 (nm_all h) 0 hm
  rw [ldd_zero] at this; cases this
/- No two names are one key: a key's name is what stands ahead of its zeros. -/
def unpad (l : List UInt8) : List UInt8 := (l.reverse.dropWhile (· == 0)).reverse
theorem dropWhile_rep (n : Nat) (l : List UInt8) : (List.replicate n (0 : UInt8) ++ l).dropWhile (· == 0) = l.dropWhile (· == 0) := by
  induction n with
  | zero => rfl
  | succ n ih => rw [List.replicate_succ, List.cons_append, List.dropWhile_cons]; simp [ih]
theorem unpad_padL {s : List UInt8} (h : (0 : UInt8) ∉ s) : unpad (padL s) = s := by
  unfold unpad padL
  rw [List.reverse_append, List.reverse_replicate, dropWhile_rep]
  have : s.reverse.dropWhile (· == 0) = s.reverse := by
    cases hr : s.reverse with
    | nil => rfl
    | cons c r =>
      rw [List.dropWhile_cons]
      have : c ≠ 0 := fun e => h (by have h1 : c ∈ s.reverse := by rw [hr]; simp
                                     rw [e, List.mem_reverse] at h1; exact h1)
      simp [this]
  rw [this, List.reverse_reverse]
theorem b8_inj {c d : UInt8} (h : b8 c = b8 d) : c = d := by
  simp only [b8, Value.int.injEq, true_and] at h
  exact UInt8.toNat_inj.1 (by omega)
theorem map_b8_inj : ∀ {l l' : List UInt8}, l.map b8 = l'.map b8 → l = l'
  | [], [], _ => rfl
  | [], _ :: _, h => by simp at h
  | _ :: _, [], h => by simp at h
  | c :: l, d :: l', h => by
    simp only [List.map_cons, List.cons.injEq] at h
    rw [b8_inj h.1, map_b8_inj h.2]
theorem keyV_inj {s t : List UInt8} (hs : nmB s = true) (ht : nmB t = true) (h : keyV s = keyV t) : s = t := by
  simp only [keyV, Value.agg.injEq, padV] at h
  have h1 : padL s = padL t := map_b8_inj (by simpa using congrArg Array.toList h)
  rw [← unpad_padL (nm_zero hs), h1, unpad_padL (nm_zero ht)]

theorem info_key : (Tryd.prog.info? 52).map (·.size) = some 24 := by kernel_rfl
theorem info_u8 : (Tryd.prog.info? 5).map (·.size) = some 1 := by kernel_rfl
theorem loads_key {V : World} {b : Nat} {K : Array Value} {t : TypeId} {fr : Nat × Nat} (hb : V.heap[b]? = some (.cells K t fr)) (hK : K.size = 24) :
    (loadCellsFrom ⟨b, 0, none⟩ 0 24 #[]).run Tryd.prog V = .ok K V := by
  have := run_loadCells_list (P := Tryd.prog) V ⟨b, 0, none⟩ K.toList (fun j v hv => by
    have hadd : (⟨b, 0, none⟩ : Addr).add j = ⟨b, j, none⟩ := by unfold Addr.add; split <;> simp_all
    rw [hadd, cell_of_row _ _ j K t fr hb]
    simpa using hv)
  simpa [loadCells, hK] using this
theorem stores_new (w : World) {K K' : Array Value} (hK : K.size = 24) (hK' : K'.size = 24) (h1 : K'.all (·.oneCell') = true) :
    (storeCells ⟨w.heap.size, 0, none⟩ K'.toList 0).run Tryd.prog (w.alloc (.cells K 52)) = .ok () (w.alloc (.cells K' 52)) :=
  run_storeCells_new (P := Tryd.prog) w 52 K K' (by rw [hK']; exact info_key) (by rw [hK, hK']) h1
/- The bytes of a name laid over zeros. -/
theorem copy_name (w : World) {s : List UInt8} (h : s.length ≤ 24) (ty : TypeId) :
    (Builtin.copy_ #[40, 9] ty #[.slice (some ⟨w.heap.size, 0, none⟩) 24 24, .string (bs s)]).run Tryd.prog (w.alloc (.cells (padV []) 52)) = .ok (goInt s.length) (w.alloc (.cells (padV s) 52)) := by
  have hz : (padV []).size = 24 := padV_size (by simp)
  have := Lib.run_copy_row_string (P := Tryd.prog) (w.alloc (.cells (padV []) 52)) 40 9 ty 5 w.heap.size 0 24 24 (bs s) (padV []) 52 Tryd.underlying40 info_u8 (heap_alloc_last w _) (by rw [bs_size]; exact h) (by rw [bs_size, hz]; omega)
  rw [this, World.setRow_alloc_new, bs_size]
  have e : ((padV []).toList.take 0 ++ Lib.byteCells (bs s).data.toList ++ (padV []).toList.drop (0 + s.length)).toArray = padV s := by
    have e1 : (padV []).toList = List.replicate 24 (b8 0) := by simp [padV, padL]
    have e2 : Lib.byteCells (bs s).data.toList = s.map b8 := by simp [bs, Lib.byteCells, b8]
    rw [e1, e2, List.take_zero, List.nil_append, Nat.zero_add, List.drop_replicate]
    unfold padV padL
    rw [List.map_append, List.map_replicate]
  rw [e]
theorem padV_nil : padV [] = #[.int .u8 0, .int .u8 0, .int .u8 0, .int .u8 0, .int .u8 0, .int .u8 0, .int .u8 0, .int .u8 0, .int .u8 0, .int .u8 0, .int .u8 0, .int .u8 0, .int .u8 0, .int .u8 0, .int .u8 0, .int .u8 0, .int .u8 0, .int .u8 0, .int .u8 0, .int .u8 0, .int .u8 0, .int .u8 0, .int .u8 0, .int .u8 0] := rfl
/- What a call tells whose first result lies in a cell of its own. -/
theorem res2 {P : Program} {fn : Func} {p u : Tmp} {ty : TypeId} (h : fn.results = #[.cell p ty, .tmp u]) {tmps : Array Value} {w : World} {a : Addr} {v x : Value} (h1 : tmps.getD p undef = .pointer (some a)) (h2 : (loadVar ty a).run P w = .ok v w) (h3 : tmps.getD u undef = x) :
    (results fn tmps).run P w = .ok (.tuple #[v, x]) w := by
  rw [results_cell_tmp h, h1, h3]
  simp [asAddr, h2, Result.andThen]
theorem res3 {P : Program} {fn : Func} {p q u : Tmp} {ty tz : TypeId} (h : fn.results = #[.cell p ty, .cell q tz, .tmp u]) {tmps : Array Value} {w : World} {a b : Addr} {v x y : Value} (h1 : tmps.getD p undef = .pointer (some a)) (h2 : (loadVar ty a).run P w = .ok v w) (h4 : tmps.getD q undef = .pointer (some b)) (h5 : (loadVar tz b).run P w = .ok x w) (h3 : tmps.getD u undef = y) :
    (results fn tmps).run P w = .ok (.tuple #[v, x, y]) w := by
  have h1' : tmps[p]?.getD undef = .pointer (some a) := by simpa using h1
  have h4' : tmps[q]?.getD undef = .pointer (some b) := by simpa using h4
  have h3' : tmps[u]?.getD undef = y := by simpa using h3
  simp only [results, h]
  simp [Sem.run_bind, Result.andThen, h1', h4', h3', asAddr, h2, h5]
theorem loadv_key {V : World} {b : Nat} {K : Array Value} {t : TypeId} {fr : Nat × Nat} (hb : V.heap[b]? = some (.cells K t fr)) (hK : K.size = 24) : (loadVar 52 ⟨b, 0, none⟩).run Tryd.prog V = .ok (.agg K) V :=
  run_loadVar_row V b t 52 K fr _ hb Tryd.underlying52 rfl (by rw [hK]; exact info_key)
/- A whole key out of its block: at a plain region's list, and in one that draws its order. -/
theorem wl_load {ops : Array Oper} {rest : List Oper} {o : Oper} {a : Act} {w : World} {Q : Exit → Act → World → Prop} (hgd : o.guard = none) (x : Operand) (ho : o.op = .load 52 x) (b : Nat) (hx : a.eval x = .pointer (some ⟨b, 0, none⟩))
    (K : Array Value) (hb : w.heap[b]? = some (.cells K 52 (0, 0))) (hK : K.size = 24) (h : wpList Tryd.prog ops Q rest (a.put o.dst (.agg K)) w) : wpList Tryd.prog ops Q (o :: rest) a w :=
  wpList_load_row hgd 52 x ho b hx 52 K (0, 0) _ hb Tryd.underlying52 rfl (by rw [hK]; exact info_key) h
theorem yk {ops : Array Oper} {S : World → Prop} {o : Oper} {a : Act} (hw : Region.wanted o (yielded ops a.tmps) = true) (x : Operand) (ho : o.op = .load 52 x) (b : Nat) (hx : a.eval x = .pointer (some ⟨b, 0, none⟩))
    (K : Array Value) (hS : ∀ w, S w → w.heap[b]? = some (.cells K 52 (0, 0))) (hK : K.size = 24) : YieldsIf Tryd.prog ops S o (.agg K) a :=
  .inl ⟨hw, fun w hw' => by
    unfold execOp
    simp only [ho, hx, Instr.loadAt, Instr.sureAddr, Sem.run_bind, Sem.run_pure, Result.andThen_ok, loadv_key (hS w hw') hK]⟩
set_option maxHeartbeats 1000000 in
theorem keyOf_no (s : List UInt8) (h : nmB s = false) (hm : s.length ≤ maxLen) (w : World) :
    Calls Tryd.prog 22 #[.string (bs s)] w fun e w' => e = .returned (.tuple #[keyV [], .bool false]) ∧ w' = w.alloc (.cells (padV []) 52) := by
  obtain ⟨Z, hZ⟩ : ∃ Z, padV [] = Z := ⟨_, rfl⟩
  have hps : Z.size = 24 := by rw [← hZ]; exact padV_size (by simp)
  have hlc := loads_key (heap_alloc_last w (.cells Z 52)) hps
  have hsc := stores_new w hps hps (by rw [← hZ]; exact padV_one [])
  unfold keyV
  rw [hZ]
  rw [padV_nil] at hZ
  go_enter Tryd.func22, Tryd.ntmps22
  go_wp2_with (go_at_call 30; refine (name_any s _ hm).mono ?_; rw [h]; rintro e w' ⟨rfl, rfl⟩)
  refine bodyPost_ret (v := .tuple #[.agg Z, .bool false]) (res2 Tryd.results22 rfl (loadv_key (heap_alloc_last w _) hps) rfl) rfl ?_
  exact ⟨rfl, rfl⟩
set_option maxHeartbeats 1000000 in
theorem keyOf_yes (s : List UInt8) (h : nmB s = true) (w : World) :
    Calls Tryd.prog 22 #[.string (bs s)] w fun e w' => e = .returned (.tuple #[keyV s, .bool true]) ∧ w' = w.alloc (.cells (padV s) 52) := by
  have hl := nm_len h
  have hm : s.length ≤ maxLen := by unfold maxLen; omega
  have hcp := copy_name w hl 3
  rw [padV_nil] at hcp
  have hlc := loads_key (heap_alloc_last w (.cells (padV s) 52)) (padV_size hl)
  have hsc := stores_new w (padV_size hl) (padV_size hl) (padV_one s)
  have hps := padV_size hl
  have HM := hide hm
  have HL := hide hl
  clear hl hm
  go_enter Tryd.func22, Tryd.ntmps22
  go_wp2_with (first | (go_at_call 30; refine (name_any s _ HM.out).mono ?_; rw [h]; rintro e w' ⟨rfl, rfl⟩) | (refine wl_load rfl _ rfl _ rfl (padV s) (heap_alloc_last _ _) hps ?_))
  refine bodyPost_ret (v := .tuple #[keyV s, .bool true]) (res2 Tryd.results22 rfl (loadv_key (heap_alloc_last w _) hps) rfl) rfl ?_
  exact ⟨rfl, rfl⟩
end Go.Proofs.YtaekljpijnkjoaaDoor.St
