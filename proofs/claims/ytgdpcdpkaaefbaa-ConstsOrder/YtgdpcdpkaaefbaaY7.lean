/-
  A world that has grown by draws and by blocks of cells, and by nothing else: how a region that draws its order is walked where the functions that it calls let the world grow so.
  Package alu's inner functions: what each answers, for every word.
  Package alu's Do: what it answers, for every operation, words and flags.
  Package alu's Holds; flags that are alike; and what the laws of layer 3 ask of fixed words.
  The document's own layer 3 (package spinetref03): what its functions answer.
  The document's own layer 3 (package spinetref03): its operations.
  The document's own constants (package spinetref12): ints.
-/
import Derived.Test.YtgdpcdpkaaefbaaRows
import Derived.WalkKit
import Derived.Deep.QuietTactic
import Derived.BigQuiet
import Derived.Test.YtgdpcdpkaaefbaaBits
import Derived.RegionTactic
import Derived.Deep.Cut
import Derived.KernelRfl
import Derived.Test.YtgdpcdpkaaefbaaY1
namespace Go.Proofs.Ytgdpcdpkaaefbaa.Gw
open Go.RowKit

/- How far: one entry for each draw (none) and for each block (its cells, their type). -/
abbrev By := List (Option (Array Value × TypeId))
def draws (p : By) : Nat := (p.filter fun x => x.isNone).length
def news (p : By) : List (Array Value × TypeId) := p.filterMap id
def objs (cs : List (Array Value × TypeId)) : Array Obj := (cs.map fun c => Obj.cells c.1 c.2).toArray
def gr (w : World) (p : By) : World := { w with drawn := w.drawn + draws p, heap := w.heap ++ objs (news p) }

theorem objs_append (a b : List (Array Value × TypeId)) : objs (a ++ b) = objs a ++ objs b := by simp [objs]
theorem news_append (a b : By) : news (a ++ b) = news a ++ news b := by simp [news]
theorem draws_append (a b : By) : draws (a ++ b) = draws a + draws b := by simp [draws]
theorem gr_gr (w : World) (p q : By) : gr (gr w p) q = gr w (p ++ q) := by
  simp only [gr, news_append, draws_append, objs_append, Array.append_assoc, Nat.add_assoc]
theorem gr_nil (w : World) : gr w [] = w := by simp [gr, objs, news, draws]
theorem gr_alloc (w : World) (c : Array Value) (t : TypeId) : w.alloc (.cells c t) = gr w [some (c, t)] := by
  show ({ w with heap := w.heap.push (.cells c t) } : World) = _
  simp [gr, objs, news, draws]
theorem gr_drewN (w : World) (n : Nat) : w.drewN n = gr w (List.replicate n none) := by
  have h1 : draws (List.replicate n none) = n := by simp [draws]
  have h2 : news (List.replicate n none) = [] := by simp [news]
  simp [gr, objs, h1, h2, World.drewN]
theorem gr_drew (w : World) : w.drew = gr w [none] := gr_drewN w 1
theorem gr_size (w : World) (p : By) : (gr w p).heap.size = w.heap.size + (news p).length := by simp [gr, objs]
theorem gr_old (w : World) (p : By) {k : Nat} (h : k < w.heap.size) : (gr w p).heap[k]? = w.heap[k]? := by simp [gr, Array.getElem?_append, h]
theorem gr_new (w : World) (p : By) {k : Nat} (h : w.heap.size ≤ k) : (gr w p).heap[k]? = ((news p)[k - w.heap.size]?).map fun c => Obj.cells c.1 c.2 := by
  have h' : ¬ k < w.heap.size := by omega
  simp [gr, Array.getElem?_append, h', objs]
theorem gr_cell (w : World) (p : By) (a : Addr) (h : a.block < w.heap.size) : (gr w p).cell? a = w.cell? a := by
  simp only [World.cell?, gr_old w p h]
theorem gr_frozen (w : World) (p : By) (a : Addr) : (gr w p).frozen? a = w.frozen? a := by
  by_cases h : a.block < w.heap.size
  · simp only [World.frozen?, gr_old w p h]
  · have h' : w.heap.size ≤ a.block := by omega
    have e : w.heap[a.block]? = none := Array.getElem?_eq_none h'
    simp only [World.frozen?, gr_new w p h', e]
    cases (news p)[a.block - w.heap.size]? <;> simp
theorem gr_set (w : World) (p : By) (a : Addr) (v : Value) (h : w.heap.size ≤ a.block) : ∃ q : By, (gr w p).setCell a v = gr w q := by
  refine ⟨List.replicate (draws p) none ++ ((news p).modify (a.block - w.heap.size) fun c => (if a.spot.isSome then c.1 else c.1.setIfInBounds a.off v, c.2)).map some, ?_⟩
  have h1 : ∀ l : List (Array Value × TypeId), draws (l.map some) = 0 := fun l => by
    induction l with
    | nil => rfl
    | cons x l ih => simpa [draws] using ih
  have h2 : ∀ l : List (Array Value × TypeId), news (l.map some) = l := fun l => by simp [news]
  have h3 : draws (List.replicate (draws p) none) = draws p := by simp [draws]
  have h4 : news (List.replicate (draws p) none) = [] := by simp [news]
  simp only [gr, World.setCell, draws_append, news_append, h1, h2, h3, h4, List.nil_append, Nat.add_zero]
  congr 1
  apply Array.ext_getElem?
  intro k
  simp only [Array.getElem?_modify, Array.getElem?_append, objs]
  by_cases hk : k < w.heap.size
  · have : a.block ≠ k := by omega
    simp [hk, this]
  · by_cases hik : a.block = k
    · subst hik
      simp only [hk, if_false, if_true]
      cases hc : (news p)[a.block - w.heap.size]? <;> simp [hc]
    · have : a.block - w.heap.size ≠ k - w.heap.size := by omega
      simp [hk, hik, this]

def G (w w' : World) : Prop := ∃ p : By, w' = gr w p
theorem G.refl (w : World) : G w w := ⟨[], (gr_nil w).symm⟩
theorem G.trans {a b c : World} (h : G a b) (k : G b c) : G a c := by
  obtain ⟨p, rfl⟩ := h
  obtain ⟨q, rfl⟩ := k
  exact ⟨p ++ q, gr_gr _ _ _⟩
theorem G.of (w : World) (p : By) : G w (gr w p) := ⟨p, rfl⟩
theorem G.alloc {w w' : World} (h : G w w') (c : Array Value) (t : TypeId) : G w (w'.alloc (.cells c t)) := h.trans ⟨_, gr_alloc _ _ _⟩
theorem G.drewN {w w' : World} (h : G w w') (n : Nat) : G w (w'.drewN n) := h.trans ⟨_, gr_drewN _ _⟩
theorem G.drew {w w' : World} (h : G w w') : G w w'.drew := h.trans ⟨_, gr_drew _⟩
theorem G.gr {w w' : World} (h : G w w') (p : By) : G w (gr w' p) := h.trans ⟨p, rfl⟩
theorem G.set {w w' : World} (h : G w w') {a : Addr} (ha : w.heap.size ≤ a.block) (v : Value) : G w (w'.setCell a v) := by
  obtain ⟨p, rfl⟩ := h
  obtain ⟨q, hq⟩ := gr_set w p a v ha
  exact ⟨q, hq⟩
theorem G.cell {w w' : World} (h : G w w') {a : Addr} (ha : a.block < w.heap.size) : w'.cell? a = w.cell? a := by
  obtain ⟨p, rfl⟩ := h
  exact gr_cell w p a ha
theorem G.frozen {w w' : World} (h : G w w') (a : Addr) : w'.frozen? a = w.frozen? a := by
  obtain ⟨p, rfl⟩ := h
  exact gr_frozen w p a
theorem G.size {w w' : World} (h : G w w') : w.heap.size ≤ w'.heap.size := by
  obtain ⟨p, rfl⟩ := h
  rw [gr_size]; omega
theorem G.grown {w w' : World} (h : G w w') : Grown w w' := by
  obtain ⟨p, rfl⟩ := h
  refine ⟨⟨rfl, rfl, fun i hi => ?_⟩, fun a => gr_frozen w p a, by rw [gr_size]; omega⟩
  rw [gr_old w p hi]
  split <;> simp_all

/- A region that draws its order, in every world that has grown from W. -/
theorem region_gr {P : Program} {id : Nat} {Q : Exit → Act → World → Prop} {a : Act} {W : World} {p0 : By} {l : List Oper} (hm : P.follows .mixedOrders = true) (hB : Region.lexB .any l.toArray = true)
    (h : wpQuiet P l.toArray (fun w' => ∃ p : By, w' = gr W p) (fun a' => ∀ w', (∃ p : By, w' = gr W p) → Q .normal a' w') l a) : (Code.region id l.toArray true).wp P Q a (gr W p0) :=
  wp_region_quiet (C := fun w' => ∃ p : By, w' = gr W p) hm hB (by have := (G.of W p0).drew; exact this) (by simpa using h)
theorem region_gr0 {P : Program} {id : Nat} {Q : Exit → Act → World → Prop} {a : Act} {W : World} {l : List Oper} (hm : P.follows .mixedOrders = true) (hB : Region.lexB .any l.toArray = true)
    (h : wpQuiet P l.toArray (fun w' => ∃ p : By, w' = gr W p) (fun a' => ∀ w', (∃ p : By, w' = gr W p) → Q .normal a' w') l a) : (Code.region id l.toArray true).wp P Q a W :=
  wp_region_quiet (C := fun w' => ∃ p : By, w' = gr W p) hm hB (by have := (G.refl W).drew; exact this) (by simpa using h)

theorem calls_gr {P : Program} {f : FuncId} {args : Array Value} {W : World} {p : By} {v : Value} (h : Calls P f args (gr W p) fun e w' => e = .returned v ∧ ∃ q : By, w' = gr (gr W p) q) :
    Calls P f args (gr W p) fun e w' => e = .returned v ∧ ∃ q : By, w' = gr W q :=
  h.mono fun _ _ ⟨he, q, hq⟩ => ⟨he, p ++ q, by rw [hq, gr_gr]⟩
theorem calls_same {P : Program} {f : FuncId} {args : Array Value} {W : World} {p : By} {v : Value} (h : Calls P f args (gr W p) fun e w' => e = .returned v ∧ w' = gr W p) :
    Calls P f args (gr W p) fun e w' => e = .returned v ∧ ∃ q : By, w' = gr W q :=
  h.mono fun _ _ ⟨he, hq⟩ => ⟨he, p, hq⟩
theorem calls_drew {P : Program} {f : FuncId} {args : Array Value} {W : World} {p : By} {v : Value} (h : Calls P f args (gr W p) fun e w' => e = .returned v ∧ ∃ d, w' = (gr W p).drewN d) :
    Calls P f args (gr W p) fun e w' => e = .returned v ∧ ∃ q : By, w' = gr W q :=
  h.mono fun _ _ ⟨he, d, hq⟩ => ⟨he, by rw [hq]; exact (G.of W p).drewN d⟩
theorem calls_same0 {P : Program} {f : FuncId} {args : Array Value} {W : World} {v : Value} (h : Calls P f args W fun e w' => e = .returned v ∧ w' = W) :
    Calls P f args W fun e w' => e = .returned v ∧ ∃ q : By, w' = gr W q :=
  h.mono fun _ _ ⟨he, hq⟩ => ⟨he, by rw [hq]; exact G.refl W⟩
theorem calls_drew0 {P : Program} {f : FuncId} {args : Array Value} {W : World} {v : Value} (h : Calls P f args W fun e w' => e = .returned v ∧ ∃ d, w' = W.drewN d) :
    Calls P f args W fun e w' => e = .returned v ∧ ∃ q : By, w' = gr W q :=
  h.mono fun _ _ ⟨he, d, hq⟩ => ⟨he, by rw [hq]; exact (G.refl W).drewN d⟩
end Go.Proofs.Ytgdpcdpkaaefbaa.Gw
namespace Go.Proofs.Ytgdpcdpkaaefbaa.Alu
open Go.RowKit Go.Proofs.Ytgdpcdpkaaefbaa.Bits Go.Proofs.Ytgdpcdpkaaefbaa.Gw

def cI (u c : Bool) : Int := if (u && c) = true then 1 else 0
def mayB (op : Int) : Bool := decide (op = 0 ∨ op = 8 ∨ op = 9 ∨ op = 10)
def fl (N Z C V : Bool) : Value := .agg #[.bool N, .bool Z, .bool C, .bool V]
def addC (b n c : Int) : Bool := decide (4294967296 ≤ b + n + c)
def addV (b n c : Int) : Bool := !fitsB (wrap32 b + wrap32 n + c) 32
def subC (b n c : Int) : Bool := decide (b - n - c < 0)
def subV (b n c : Int) : Bool := !fitsB (wrap32 b - wrap32 n - c) 32
def mulP (u : Bool) (b n : Int) : Int := if u = true then b * n else wrap32 b * wrap32 n
def divQ (b n : Int) : Int := if wrap32 n ≤ 0 then 0 else wrap32 b / wrap32 n % 4294967296
def divR (b n : Int) : Int := if wrap32 n ≤ 0 then b else wrap32 b % wrap32 n
def bitI (op b n : Int) : Int :=
  if op = 1 then lslI b n else if op = 2 then asrI b n else if op = 3 then rorI b n else if op = 4 then Go.bits .and .u32 b n
  else if op = 5 then Go.bits .andNot .u32 b n else if op = 6 then Go.bits .or .u32 b n else Go.bits .xor .u32 b n

theorem cI_bd (u c : Bool) : 0 ≤ cI u c ∧ cI u c ≤ 1 := by cases u <;> cases c <;> decide
theorem fits32 (v : Int) : fitsB v 32 = decide (-2147483648 ≤ v ∧ v < 2147483648) := by
  have e : (32 : Int).toNat = 32 := rfl
  unfold fitsB; rw [e, decide_eq_decide]
  have e2 : (2 : Int) ^ 32 = 4294967296 := by decide
  rw [e2]; omega
theorem over_eq (v : Int) (h0 : -8589934592 ≤ v) (h1 : v < 8589934592) : (v != wrap32 (v % 4294967296)) = !fitsB v 32 := by
  rw [fits32]
  have e : (v == wrap32 (v % 4294967296)) = decide (-2147483648 ≤ v ∧ v < 2147483648) := by
    rw [Bool.eq_iff_iff, beq_iff_eq, decide_eq_true_iff]; unfold wrap32; omega
  rw [bne, e]

theorem ret_ibb {k : IntKind} {a b : Int} {p q r s : Bool} (h : a = b) (i : p = q) (j : r = s) : Ending.returned (.tuple #[.int k a, .bool p, .bool r]) = .returned (.tuple #[.int k b, .bool q, .bool s]) := by rw [h, i, j]
theorem ret_ii {k l : IntKind} {a b c d : Int} (h : a = b) (i : c = d) : Ending.returned (.tuple #[.int k a, .int l c]) = .returned (.tuple #[.int k b, .int l d]) := by rw [h, i]
theorem mul_bd (b n : Int) (b0 : 0 ≤ b) (b1 : b < 4294967296) (n0 : 0 ≤ n) (n1 : n < 4294967296) : 0 ≤ b * n ∧ b * n < 18446744073709551616 := by
  refine ⟨Int.mul_nonneg b0 n0, ?_⟩
  have h1 : b * n ≤ 4294967295 * n := Int.mul_le_mul_of_nonneg_right (by omega) n0
  omega
theorem smul_bd (b n : Int) (b0 : -2147483648 ≤ b) (b1 : b < 2147483648) (n0 : -2147483648 ≤ n) (n1 : n < 2147483648) : -4611686018427387904 ≤ b * n ∧ b * n ≤ 4611686018427387904 := by
  have h1 := Int.mul_nonneg (show 0 ≤ b + 2147483648 by omega) (show 0 ≤ n + 2147483648 by omega)
  have h2 := Int.mul_nonneg (show 0 ≤ 2147483648 - b by omega) (show 0 ≤ 2147483648 - n by omega)
  have h3 := Int.mul_nonneg (show 0 ≤ b + 2147483648 by omega) (show 0 ≤ 2147483648 - n by omega)
  have h4 := Int.mul_nonneg (show 0 ≤ 2147483648 - b by omega) (show 0 ≤ n + 2147483648 by omega)
  simp only [Int.add_mul, Int.mul_add, Int.sub_mul, Int.mul_sub] at h1 h2 h3 h4
  have e : b * 2147483648 = 2147483648 * b := Int.mul_comm _ _
  omega
theorem tdiv_facts (b m : Int) (b0 : -2147483648 ≤ b) (b1 : b < 2147483648) (m0 : 0 < m) (m1 : m < 2147483648) :
    -2147483648 ≤ b.tdiv m ∧ b.tdiv m ≤ 2147483648 ∧ -2147483648 < b.tmod m ∧ b.tmod m < 2147483648 ∧ ((0 ≤ b.tmod m → b.tdiv m = b / m ∧ b.tmod m = b % m) ∧ (b.tmod m < 0 → b.tdiv m - 1 = b / m ∧ b.tmod m + m = b % m)) := by
  by_cases h : 0 ≤ b
  · rw [Int.tdiv_eq_ediv_of_nonneg h, Int.tmod_eq_emod_of_nonneg h]
    have r0 := Int.emod_nonneg b (show m ≠ 0 by omega)
    have r1 := Int.emod_lt_of_pos b m0
    have q0 := Int.ediv_nonneg h (Int.le_of_lt m0)
    have q1 := Int.ediv_le_self m h
    exact ⟨by omega, by omega, by omega, by omega, fun _ => ⟨rfl, rfl⟩, fun hh => by omega⟩
  · have h' : 0 ≤ -b := by omega
    have e1 : b.tdiv m = -(-b / m) := by rw [← Int.tdiv_eq_ediv_of_nonneg h', Int.neg_tdiv, Int.neg_neg]
    have e2 : b.tmod m = -(-b % m) := by rw [← Int.tmod_eq_emod_of_nonneg h', Int.neg_tmod, Int.neg_neg]
    rw [e1, e2]
    have r0 := Int.emod_nonneg (-b) (show m ≠ 0 by omega)
    have r1 := Int.emod_lt_of_pos (-b) m0
    have q0 := Int.ediv_nonneg h' (Int.le_of_lt m0)
    have q1 := Int.ediv_le_self m h'
    have e3 := Int.mul_ediv_add_emod (-b) m
    generalize -b / m = q at *
    generalize -b % m = r at *
    refine ⟨by omega, by omega, by omega, by omega, fun hh => ?_, fun hh => ?_⟩
    · have hr : r = 0 := by omega
      subst hr
      have := (Int.ediv_emod_unique (a := b) (r := 0) (q := -q) m0).2 ⟨by rw [Int.mul_neg]; omega, by omega, by omega⟩
      exact ⟨this.1.symm, by rw [this.2]; omega⟩
    · have := (Int.ediv_emod_unique (a := b) (r := -r + m) (q := -q - 1) m0).2 ⟨by rw [Int.mul_sub, Int.mul_neg, Int.mul_one]; omega, by omega, by omega⟩
      exact ⟨this.1.symm, this.2.symm⟩
end Go.Proofs.Ytgdpcdpkaaefbaa.Alu
namespace Go.Proofs.Ytgdpcdpkaaefbaa.Alu
open Go.RowKit Go.Proofs.Ytgdpcdpkaaefbaa.Bits Go.Proofs.Ytgdpcdpkaaefbaa.Gw

def tell (r h : Int) (C V : Bool) : Value := .tuple #[.int .u32 r, .int .u32 h, fl (decide (wrap32 r < 0)) (r == 0) C V, .bool true]
def none4 : Value := .tuple #[.int .u32 0, .int .u32 0, fl false false false false, .bool false]

/- All of it as one. -/
def okB (op : Int) (u : Bool) : Bool := decide (0 ≤ op ∧ op ≤ 11) && (!u || mayB op)
def rI (op : Int) (u : Bool) (b n h : Int) (C : Bool) : Int :=
  if op = 0 then (if u = true then h else n) else if op = 8 then (b + n + cI u C) % 4294967296 else if op = 9 then (b - n - cI u C) % 4294967296
  else if op = 10 then mulP u b n % 4294967296 else if op = 11 then divQ b n else bitI op b n
def hI (op : Int) (u : Bool) (b n h : Int) : Int := if op = 10 then mulP u b n / 4294967296 % 4294967296 else if op = 11 then divR b n else h
def cB (op : Int) (u : Bool) (b n : Int) (C : Bool) : Bool := if op = 8 then addC b n (cI u C) else if op = 9 then subC b n (cI u C) else C
def vB (op : Int) (u : Bool) (b n : Int) (C V : Bool) : Bool := if op = 8 then addV b n (cI u C) else if op = 9 then subV b n (cI u C) else V
def doV (op : Int) (u : Bool) (b n h : Int) (C V : Bool) : Value :=
  if okB op u = true then tell (rI op u b n h C) (hI op u b n h) (cB op u b n C) (vB op u b n C V) else none4

end Go.Proofs.Ytgdpcdpkaaefbaa.Alu
namespace Go.Proofs.Ytgdpcdpkaaefbaa.Alu
open Go.RowKit Go.Proofs.Ytgdpcdpkaaefbaa.Bits Go.Proofs.Ytgdpcdpkaaefbaa.Gw

def tellsB (c : Int) (N Z C V : Bool) : Bool :=
  if c = 0 then N else if c = 1 then Z else if c = 2 then C else if c = 3 then V else if c = 4 then (C || Z) else if c = 5 then (N != V) else if c = 6 then ((N != V) || Z) else (c == 7)
def holdsB (c : Int) (N Z C V : Bool) : Bool := if 8 ≤ c ∧ c < 16 then !tellsB (c - 8) N Z C V else tellsB c N Z C V

end Go.Proofs.Ytgdpcdpkaaefbaa.Alu
namespace Go.Proofs.Ytgdpcdpkaaefbaa.Alu
open Go.RowKit Go.Proofs.Ytgdpcdpkaaefbaa.Bits Go.Proofs.Ytgdpcdpkaaefbaa.Gw

theorem rcarry_any (u N Z C V : Bool) (w : World) :
    Calls Try.prog 107 #[.bool u, fl N Z C V] w fun e w' => e = .returned (.int .i64 (cI u C)) ∧ w' = w.alloc (.cells #[.bool N, .bool Z, .bool C, .bool V] 88) := by
  unfold fl
  cases u
  · go_enter Try.func107, Try.ntmps107
    go_wp2
    go_ret
    exact ⟨rfl, rfl⟩
  · cases C
    · go_enter Try.func107, Try.ntmps107
      go_wp2
      go_ret
      exact ⟨rfl, rfl⟩
    · go_enter Try.func107, Try.ntmps107
      go_wp2
      go_ret
      exact ⟨rfl, rfl⟩
theorem floor_facts (a m : Int) (a0 : -4611686018427387904 ≤ a) (a1 : a ≤ 4611686018427387904) (m0 : 0 < m) (m1 : m ≤ 4294967296) :
    -4611686018427387904 ≤ a.tdiv m ∧ a.tdiv m ≤ 4611686018427387904 ∧ -9000000000000000000 ≤ a.tdiv m * m ∧ a.tdiv m * m ≤ 9000000000000000000 ∧ ((a.tdiv m * m ≤ a → a.tdiv m = a / m) ∧ (a < a.tdiv m * m → a.tdiv m - 1 = a / m)) := by
  have hm : m * (a.tdiv m) = a.tdiv m * m := Int.mul_comm _ _
  by_cases h : 0 ≤ a
  · rw [Int.tdiv_eq_ediv_of_nonneg h] at hm ⊢
    have r0 := Int.emod_nonneg a (show m ≠ 0 by omega)
    have r1 := Int.emod_lt_of_pos a m0
    have q0 := Int.ediv_nonneg h (Int.le_of_lt m0)
    have q1 := Int.ediv_le_self m h
    have e3 := Int.mul_ediv_add_emod a m
    exact ⟨by omega, by omega, by omega, by omega, fun _ => rfl, fun hh => by omega⟩
  · have h' : 0 ≤ -a := by omega
    have e1 : a.tdiv m = -(-a / m) := by rw [← Int.tdiv_eq_ediv_of_nonneg h', Int.neg_tdiv, Int.neg_neg]
    rw [e1] at hm ⊢
    have r0 := Int.emod_nonneg (-a) (show m ≠ 0 by omega)
    have r1 := Int.emod_lt_of_pos (-a) m0
    have q0 := Int.ediv_nonneg h' (Int.le_of_lt m0)
    have q1 := Int.ediv_le_self m h'
    have e3 := Int.mul_ediv_add_emod (-a) m
    generalize -a / m = q at *
    generalize -a % m = r at *
    have e4 : m * -q = -(m * q) := Int.mul_neg _ _
    refine ⟨by omega, by omega, by omega, by omega, fun hh => ?_, fun hh => ?_⟩
    · have := (Int.ediv_emod_unique (a := a) (r := 0) (q := -q) m0).2 ⟨by omega, by omega, by omega⟩
      exact this.1.symm
    · have := (Int.ediv_emod_unique (a := a) (r := -r + m) (q := -q - 1) m0).2 ⟨by rw [Int.mul_sub, Int.mul_one]; omega, by omega, by omega⟩
      exact this.1.symm
theorem floor_any (a m : Int) (w : World) (a0 : -4611686018427387904 ≤ a) (a1 : a ≤ 4611686018427387904) (m0 : 0 < m) (m1 : m ≤ 4294967296) :
    Calls Try.prog 108 #[.int .i64 a, .int .i64 m] w fun e w' => e = .returned (.int .i64 (a / m)) ∧ w' = w := by
  obtain ⟨t1, t2, t3, t4, t5⟩ := floor_facts a m a0 a1 m0 m1
  obtain ⟨D, hD⟩ : ∃ D, a.tdiv m = D := ⟨_, rfl⟩
  obtain ⟨P, hP⟩ : ∃ P, D * m = P := ⟨_, rfl⟩
  rw [hD, hP] at t3 t4
  rw [hD, hP] at t5
  rw [hD] at t1 t2
  have E : Hid _ := t5
  clear t5
  cases hr : decide (P ≤ a)
  · have hr' : a < P := by simpa using hr
    have EE : Hid _ := E.out.2 hr'
    clear hr E
    go_enter Try.func108, Try.ntmps108
    go_wp2
    go_ret
    exact ⟨ret_int EE.out, rfl⟩
  · have hr' : P ≤ a := by simpa using hr
    have EE : Hid _ := E.out.1 hr'
    clear hr E
    go_enter Try.func108, Try.ntmps108
    go_wp2
    go_ret
    exact ⟨ret_int EE.out, rfl⟩

theorem quo_facts (b m : Int) (b0 : -2147483648 ≤ b) (b1 : b < 2147483648) (m0 : 0 < m) (m1 : m < 2147483648) :
    -4294967296 ≤ b / m ∧ b / m ≤ 4294967296 ∧ -4294967296 ≤ b / m * m ∧ b / m * m ≤ 4294967296 := by
  have e := Int.mul_ediv_add_emod b m
  have r0 := Int.emod_nonneg b (show m ≠ 0 by omega)
  have r1 := Int.emod_lt_of_pos b m0
  obtain ⟨t1, t2, t3, t4, t5, t6⟩ := tdiv_facts b m b0 b1 m0 m1
  have hm : m * (b / m) = b / m * m := Int.mul_comm _ _
  by_cases h : b.tmod m < 0
  · have := (t6 h).1
    omega
  · have := (t5 (by omega)).1
    omega
theorem rem_word (b m : Int) (m0 : 0 < m) (m1 : m < 2147483648) : 0 ≤ b % m ∧ b % m < 2147483648 := by
  have r0 := Int.emod_nonneg b (show m ≠ 0 by omega)
  have r1 := Int.emod_lt_of_pos b m0
  omega
end Go.Proofs.Ytgdpcdpkaaefbaa.Alu
namespace Go.Proofs.Ytgdpcdpkaaefbaa.Alu
open Go.RowKit Go.Proofs.Ytgdpcdpkaaefbaa.Bits Go.Proofs.Ytgdpcdpkaaefbaa.Gw
set_option linter.unusedVariables false

def told (r h : Int) (C V : Bool) : Value := .agg #[.int .u32 r, .int .u32 h, .bool (decide (wrap32 r < 0)), .bool (r == 0), .bool C, .bool V, .bool true]
def toldR (r h : Int) (C V : Bool) : Value := .agg #[.int .u32 r, .int .u32 h, .bool (decide (2147483648 ≤ r)), .bool (r == 0), .bool C, .bool V, .bool true]
def none7 : Value := .agg #[.int .u32 0, .int .u32 0, .bool false, .bool false, .bool false, .bool false, .bool false]
theorem told_is (r h : Int) (C V : Bool) (r0 : 0 ≤ r) (r1 : r < 4294967296) : toldR r h C V = told r h C V := by
  have e : decide (2147483648 ≤ r) = decide (wrap32 r < 0) := by rw [decide_eq_decide]; unfold wrap32; omega
  unfold told toldR; rw [e]

set_option maxHeartbeats 2000000 in
set_option maxRecDepth 100000 in
theorem rdo_mov (u : Bool) (b n g : Int) (N Z C V : Bool) (w : World) (b0 : 0 ≤ b) (b1 : b < 4294967296) (n0 : 0 ≤ n) (n1 : n < 4294967296) :
    Calls Try.prog 77 #[.int .i64 0, .bool u, .int .u32 b, .int .u32 n, .int .u32 g, fl N Z C V] w fun e w' => e = .returned (toldR (if u = true then g else n) g C V) ∧ G w w' := by
  unfold fl
  cases u
  · go_enter Try.func77, Try.ntmps77
    go_wp2_with (go_at_call 45; refine (rsigned_any _ _ (by assumption) (by assumption)).mono ?_; rintro e w' ⟨rfl, rfl⟩)
    refine bodyPost_ret (v := toldR n g C V) (by simp [results, Try.results77, go_sem, toldR]) rfl ⟨rfl, (by with_reducible repeat' (first | exact G.refl _ | apply G.drew | apply G.drewN | apply G.alloc | apply G.gr))⟩
  · go_enter Try.func77, Try.ntmps77
    go_wp2_with (go_at_call 45; refine (rsigned_any _ _ (by assumption) (by assumption)).mono ?_; rintro e w' ⟨rfl, rfl⟩)
    refine bodyPost_ret (v := toldR g g C V) (by simp [results, Try.results77, go_sem, toldR]) rfl ⟨rfl, (by with_reducible repeat' (first | exact G.refl _ | apply G.drew | apply G.drewN | apply G.alloc | apply G.gr))⟩

set_option maxHeartbeats 2000000 in
set_option maxRecDepth 100000 in
theorem rdo_1 (b n g : Int) (N Z C V : Bool) (w : World) (b0 : 0 ≤ b) (b1 : b < 4294967296) (n0 : 0 ≤ n) (n1 : n < 4294967296) :
    Calls Try.prog 77 #[.int .i64 1, .bool false, .int .u32 b, .int .u32 n, .int .u32 g, fl N Z C V] w fun e w' => e = .returned (toldR (lslI b n) g C V) ∧ G w w' := by
  unfold fl
  have M := fun w => rlsl_any b n w b0 b1 n0 n1
  generalize lslI b n = r at M ⊢
  go_enter Try.func77, Try.ntmps77
  go_wp2_with (first | (go_at_call 45; refine (rsigned_any _ _ (by assumption) (by assumption)).mono ?_; rintro e w' ⟨rfl, rfl⟩) | (go_at_call 46; refine (M _).mono ?_; rintro e w' ⟨rfl, rfl⟩))
  refine bodyPost_ret (v := toldR r g C V) (by simp [results, Try.results77, go_sem, toldR]) rfl ⟨rfl, (by with_reducible repeat' (first | exact G.refl _ | apply G.drew | apply G.drewN | apply G.alloc | apply G.gr))⟩

set_option maxHeartbeats 2000000 in
set_option maxRecDepth 100000 in
theorem rdo_2 (b n g : Int) (N Z C V : Bool) (w : World) (b0 : 0 ≤ b) (b1 : b < 4294967296) (n0 : 0 ≤ n) (n1 : n < 4294967296) :
    Calls Try.prog 77 #[.int .i64 2, .bool false, .int .u32 b, .int .u32 n, .int .u32 g, fl N Z C V] w fun e w' => e = .returned (toldR (asrI b n) g C V) ∧ G w w' := by
  unfold fl
  have M := fun w => rasr_any b n w b0 b1 n0 n1
  generalize asrI b n = r at M ⊢
  go_enter Try.func77, Try.ntmps77
  go_wp2_with (first | (go_at_call 45; refine (rsigned_any _ _ (by assumption) (by assumption)).mono ?_; rintro e w' ⟨rfl, rfl⟩) | (go_at_call 47; refine (M _).mono ?_; rintro e w' ⟨rfl, rfl⟩))
  refine bodyPost_ret (v := toldR r g C V) (by simp [results, Try.results77, go_sem, toldR]) rfl ⟨rfl, (by with_reducible repeat' (first | exact G.refl _ | apply G.drew | apply G.drewN | apply G.alloc | apply G.gr))⟩

set_option maxHeartbeats 2000000 in
set_option maxRecDepth 100000 in
theorem rdo_3 (b n g : Int) (N Z C V : Bool) (w : World) (b0 : 0 ≤ b) (b1 : b < 4294967296) (n0 : 0 ≤ n) (n1 : n < 4294967296) :
    Calls Try.prog 77 #[.int .i64 3, .bool false, .int .u32 b, .int .u32 n, .int .u32 g, fl N Z C V] w fun e w' => e = .returned (toldR (rorI b n) g C V) ∧ G w w' := by
  unfold fl
  have M := fun w => rror_any b n w b0 b1 n0 n1
  generalize rorI b n = r at M ⊢
  go_enter Try.func77, Try.ntmps77
  go_wp2_with (first | (go_at_call 45; refine (rsigned_any _ _ (by assumption) (by assumption)).mono ?_; rintro e w' ⟨rfl, rfl⟩) | (go_at_call 48; refine (M _).mono ?_; rintro e w' ⟨rfl, rfl⟩))
  refine bodyPost_ret (v := toldR r g C V) (by simp [results, Try.results77, go_sem, toldR]) rfl ⟨rfl, (by with_reducible repeat' (first | exact G.refl _ | apply G.drew | apply G.drewN | apply G.alloc | apply G.gr))⟩

set_option maxHeartbeats 2000000 in
set_option maxRecDepth 100000 in
theorem rdo_4 (b n g : Int) (N Z C V : Bool) (w : World) (b0 : 0 ≤ b) (b1 : b < 4294967296) (n0 : 0 ≤ n) (n1 : n < 4294967296) :
    Calls Try.prog 77 #[.int .i64 4, .bool false, .int .u32 b, .int .u32 n, .int .u32 g, fl N Z C V] w fun e w' => e = .returned (toldR (Go.bits .and .u32 b n) g C V) ∧ G w w' := by
  unfold fl
  go_enter Try.func77, Try.ntmps77
  go_wp2_with (go_at_call 45; refine (rsigned_any _ _ (by assumption) (by assumption)).mono ?_; rintro e w' ⟨rfl, rfl⟩)
  refine bodyPost_ret (v := toldR (Go.bits .and .u32 b n) g C V) (by simp [results, Try.results77, go_sem, toldR]) rfl ⟨rfl, (by with_reducible repeat' (first | exact G.refl _ | apply G.drew | apply G.drewN | apply G.alloc | apply G.gr))⟩

set_option maxHeartbeats 2000000 in
set_option maxRecDepth 100000 in
theorem rdo_5 (b n g : Int) (N Z C V : Bool) (w : World) (b0 : 0 ≤ b) (b1 : b < 4294967296) (n0 : 0 ≤ n) (n1 : n < 4294967296) :
    Calls Try.prog 77 #[.int .i64 5, .bool false, .int .u32 b, .int .u32 n, .int .u32 g, fl N Z C V] w fun e w' => e = .returned (toldR (Go.bits .andNot .u32 b n) g C V) ∧ G w w' := by
  unfold fl
  go_enter Try.func77, Try.ntmps77
  go_wp2_with (go_at_call 45; refine (rsigned_any _ _ (by assumption) (by assumption)).mono ?_; rintro e w' ⟨rfl, rfl⟩)
  refine bodyPost_ret (v := toldR (Go.bits .andNot .u32 b n) g C V) (by simp [results, Try.results77, go_sem, toldR]) rfl ⟨rfl, (by with_reducible repeat' (first | exact G.refl _ | apply G.drew | apply G.drewN | apply G.alloc | apply G.gr))⟩

set_option maxHeartbeats 2000000 in
set_option maxRecDepth 100000 in
theorem rdo_6 (b n g : Int) (N Z C V : Bool) (w : World) (b0 : 0 ≤ b) (b1 : b < 4294967296) (n0 : 0 ≤ n) (n1 : n < 4294967296) :
    Calls Try.prog 77 #[.int .i64 6, .bool false, .int .u32 b, .int .u32 n, .int .u32 g, fl N Z C V] w fun e w' => e = .returned (toldR (Go.bits .or .u32 b n) g C V) ∧ G w w' := by
  unfold fl
  go_enter Try.func77, Try.ntmps77
  go_wp2_with (go_at_call 45; refine (rsigned_any _ _ (by assumption) (by assumption)).mono ?_; rintro e w' ⟨rfl, rfl⟩)
  refine bodyPost_ret (v := toldR (Go.bits .or .u32 b n) g C V) (by simp [results, Try.results77, go_sem, toldR]) rfl ⟨rfl, (by with_reducible repeat' (first | exact G.refl _ | apply G.drew | apply G.drewN | apply G.alloc | apply G.gr))⟩

set_option maxHeartbeats 2000000 in
set_option maxRecDepth 100000 in
theorem rdo_7 (b n g : Int) (N Z C V : Bool) (w : World) (b0 : 0 ≤ b) (b1 : b < 4294967296) (n0 : 0 ≤ n) (n1 : n < 4294967296) :
    Calls Try.prog 77 #[.int .i64 7, .bool false, .int .u32 b, .int .u32 n, .int .u32 g, fl N Z C V] w fun e w' => e = .returned (toldR (Go.bits .xor .u32 b n) g C V) ∧ G w w' := by
  unfold fl
  go_enter Try.func77, Try.ntmps77
  go_wp2_with (go_at_call 45; refine (rsigned_any _ _ (by assumption) (by assumption)).mono ?_; rintro e w' ⟨rfl, rfl⟩)
  refine bodyPost_ret (v := toldR (Go.bits .xor .u32 b n) g C V) (by simp [results, Try.results77, go_sem, toldR]) rfl ⟨rfl, (by with_reducible repeat' (first | exact G.refl _ | apply G.drew | apply G.drewN | apply G.alloc | apply G.gr))⟩

set_option maxHeartbeats 2000000 in
set_option maxRecDepth 100000 in
theorem rdo_add (u : Bool) (b n g : Int) (N Z C V : Bool) (w : World) (b0 : 0 ≤ b) (b1 : b < 4294967296) (n0 : 0 ≤ n) (n1 : n < 4294967296) :
    Calls Try.prog 77 #[.int .i64 8, .bool u, .int .u32 b, .int .u32 n, .int .u32 g, fl N Z C V] w fun e w' => e = .returned (toldR ((b + n + cI u C) % 4294967296) g (addC b n (cI u C)) (addV b n (cI u C))) ∧ G w w' := by
  have K := rcarry_any u N Z C V
  unfold fl at K ⊢
  obtain ⟨c0, c1⟩ := cI_bd u C
  obtain ⟨c, hc⟩ : ∃ c, cI u C = c := ⟨_, rfl⟩
  rw [hc] at c0 c1 K ⊢
  unfold addC addV
  obtain ⟨sb0, sb1⟩ := wrap32_lt b
  obtain ⟨sn0, sn1⟩ := wrap32_lt n
  obtain ⟨B, hB⟩ : ∃ B, wrap32 b = B := ⟨_, rfl⟩
  obtain ⟨M, hM⟩ : ∃ M, wrap32 n = M := ⟨_, rfl⟩
  rw [hB] at sb0 sb1 ⊢
  rw [hM] at sn0 sn1 ⊢
  clear hc
  cases u
  · go_enter Try.func77, Try.ntmps77
    go_wp2_with (first | (go_at_call 45; refine (rsigned_any _ _ (by assumption) (by assumption)).mono ?_; rintro e w' ⟨rfl, rfl⟩) | (go_at_call 44; refine (rword_any _ _).mono ?_; rintro e w' ⟨rfl, rfl⟩) | (go_at_call 33; refine (rfits_any _ _ _).mono ?_; rintro e w' ⟨rfl, rfl⟩) | (go_at_call 107; refine (K _).mono ?_; rintro e w' ⟨rfl, rfl⟩))
    refine bodyPost_ret (v := toldR ((b + n + c) % 4294967296) g (decide (4294967296 ≤ b + n + c)) (!fitsB (B + M + c) 32)) (by simp [results, Try.results77, go_sem, toldR]) rfl ⟨rfl, (by with_reducible repeat' (first | exact G.refl _ | apply G.drew | apply G.drewN | apply G.alloc | apply G.gr))⟩
  · go_enter Try.func77, Try.ntmps77
    go_wp2_with (first | (go_at_call 45; refine (rsigned_any _ _ (by assumption) (by assumption)).mono ?_; rintro e w' ⟨rfl, rfl⟩) | (go_at_call 44; refine (rword_any _ _).mono ?_; rintro e w' ⟨rfl, rfl⟩) | (go_at_call 33; refine (rfits_any _ _ _).mono ?_; rintro e w' ⟨rfl, rfl⟩) | (go_at_call 107; refine (K _).mono ?_; rintro e w' ⟨rfl, rfl⟩))
    refine bodyPost_ret (v := toldR ((b + n + c) % 4294967296) g (decide (4294967296 ≤ b + n + c)) (!fitsB (B + M + c) 32)) (by simp [results, Try.results77, go_sem, toldR]) rfl ⟨rfl, (by with_reducible repeat' (first | exact G.refl _ | apply G.drew | apply G.drewN | apply G.alloc | apply G.gr))⟩

set_option maxHeartbeats 2000000 in
set_option maxRecDepth 100000 in
theorem rdo_sub (u : Bool) (b n g : Int) (N Z C V : Bool) (w : World) (b0 : 0 ≤ b) (b1 : b < 4294967296) (n0 : 0 ≤ n) (n1 : n < 4294967296) :
    Calls Try.prog 77 #[.int .i64 9, .bool u, .int .u32 b, .int .u32 n, .int .u32 g, fl N Z C V] w fun e w' => e = .returned (toldR ((b - n - cI u C) % 4294967296) g (subC b n (cI u C)) (subV b n (cI u C))) ∧ G w w' := by
  have K := rcarry_any u N Z C V
  unfold fl at K ⊢
  obtain ⟨c0, c1⟩ := cI_bd u C
  obtain ⟨c, hc⟩ : ∃ c, cI u C = c := ⟨_, rfl⟩
  rw [hc] at c0 c1 K ⊢
  unfold subC subV
  obtain ⟨sb0, sb1⟩ := wrap32_lt b
  obtain ⟨sn0, sn1⟩ := wrap32_lt n
  obtain ⟨B, hB⟩ : ∃ B, wrap32 b = B := ⟨_, rfl⟩
  obtain ⟨M, hM⟩ : ∃ M, wrap32 n = M := ⟨_, rfl⟩
  rw [hB] at sb0 sb1 ⊢
  rw [hM] at sn0 sn1 ⊢
  clear hc
  cases u
  · go_enter Try.func77, Try.ntmps77
    go_wp2_with (first | (go_at_call 45; refine (rsigned_any _ _ (by assumption) (by assumption)).mono ?_; rintro e w' ⟨rfl, rfl⟩) | (go_at_call 44; refine (rword_any _ _).mono ?_; rintro e w' ⟨rfl, rfl⟩) | (go_at_call 33; refine (rfits_any _ _ _).mono ?_; rintro e w' ⟨rfl, rfl⟩) | (go_at_call 107; refine (K _).mono ?_; rintro e w' ⟨rfl, rfl⟩))
    refine bodyPost_ret (v := toldR ((b - n - c) % 4294967296) g (decide (b - n - c < 0)) (!fitsB (B - M - c) 32)) (by simp [results, Try.results77, go_sem, toldR]) rfl ⟨rfl, (by with_reducible repeat' (first | exact G.refl _ | apply G.drew | apply G.drewN | apply G.alloc | apply G.gr))⟩
  · go_enter Try.func77, Try.ntmps77
    go_wp2_with (first | (go_at_call 45; refine (rsigned_any _ _ (by assumption) (by assumption)).mono ?_; rintro e w' ⟨rfl, rfl⟩) | (go_at_call 44; refine (rword_any _ _).mono ?_; rintro e w' ⟨rfl, rfl⟩) | (go_at_call 33; refine (rfits_any _ _ _).mono ?_; rintro e w' ⟨rfl, rfl⟩) | (go_at_call 107; refine (K _).mono ?_; rintro e w' ⟨rfl, rfl⟩))
    refine bodyPost_ret (v := toldR ((b - n - c) % 4294967296) g (decide (b - n - c < 0)) (!fitsB (B - M - c) 32)) (by simp [results, Try.results77, go_sem, toldR]) rfl ⟨rfl, (by with_reducible repeat' (first | exact G.refl _ | apply G.drew | apply G.drewN | apply G.alloc | apply G.gr))⟩

set_option maxHeartbeats 2000000 in
set_option maxRecDepth 100000 in
theorem rdo_mulu (b n g : Int) (N Z C V : Bool) (w : World) (b0 : 0 ≤ b) (b1 : b < 4294967296) (n0 : 0 ≤ n) (n1 : n < 4294967296) :
    Calls Try.prog 77 #[.int .i64 10, .bool true, .int .u32 b, .int .u32 n, .int .u32 g, fl N Z C V] w fun e w' => e = .returned (toldR (b * n % 4294967296) (b * n / 4294967296 % 4294967296) C V) ∧ G w w' := by
  unfold fl
  obtain ⟨p0, p1⟩ := mul_bd b n b0 b1 n0 n1
  obtain ⟨P, hP⟩ : ∃ P, b * n = P := ⟨_, rfl⟩
  rw [hP] at p0 p1 ⊢
  have e : P / 4294967296 % 4294967296 = P / 4294967296 := by omega
  rw [e]
  clear e
  go_enter Try.func77, Try.ntmps77
  go_wp2_with (go_at_call 45; refine (rsigned_any _ _ (by assumption) (by assumption)).mono ?_; rintro e w' ⟨rfl, rfl⟩)
  refine bodyPost_ret (v := toldR (P % 4294967296) (P / 4294967296) C V) (by simp [results, Try.results77, go_sem, toldR]) rfl ⟨rfl, (by with_reducible repeat' (first | exact G.refl _ | apply G.drew | apply G.drewN | apply G.alloc | apply G.gr))⟩

set_option maxHeartbeats 2000000 in
set_option maxRecDepth 100000 in
theorem rdo_muls (b n g : Int) (N Z C V : Bool) (w : World) (b0 : 0 ≤ b) (b1 : b < 4294967296) (n0 : 0 ≤ n) (n1 : n < 4294967296) :
    Calls Try.prog 77 #[.int .i64 10, .bool false, .int .u32 b, .int .u32 n, .int .u32 g, fl N Z C V] w fun e w' => e = .returned (toldR (wrap32 b * wrap32 n % 4294967296) (wrap32 b * wrap32 n / 4294967296 % 4294967296) C V) ∧ G w w' := by
  unfold fl
  obtain ⟨sb0, sb1⟩ := wrap32_lt b
  obtain ⟨sn0, sn1⟩ := wrap32_lt n
  obtain ⟨B, hB⟩ : ∃ B, wrap32 b = B := ⟨_, rfl⟩
  obtain ⟨M, hM⟩ : ∃ M, wrap32 n = M := ⟨_, rfl⟩
  rw [hB] at sb0 sb1
  rw [hM] at sn0 sn1
  obtain ⟨r0, r1⟩ := smul_bd B M sb0 sb1 sn0 sn1
  rw [hB, hM]
  obtain ⟨P, hP⟩ : ∃ P, B * M = P := ⟨_, rfl⟩
  rw [hP] at r0 r1 ⊢
  have F := fun w => floor_any P 4294967296 w r0 r1 (by decide) (by decide)
  obtain ⟨Q, hQ⟩ : ∃ Q, P / 4294967296 = Q := ⟨_, rfl⟩
  rw [hQ] at F ⊢
  go_enter Try.func77, Try.ntmps77
  go_wp2_with (first | (go_at_call 45; refine (rsigned_any _ _ (by assumption) (by assumption)).mono ?_; rintro e w' ⟨rfl, rfl⟩) | (go_at_call 44; refine (rword_any _ _).mono ?_; rintro e w' ⟨rfl, rfl⟩) | (go_at_call 108; refine (F _).mono ?_; rintro e w' ⟨rfl, rfl⟩))
  refine bodyPost_ret (v := toldR (P % 4294967296) (Q % 4294967296) C V) (by simp [results, Try.results77, go_sem, toldR]) rfl ⟨rfl, (by with_reducible repeat' (first | exact G.refl _ | apply G.drew | apply G.drewN | apply G.alloc | apply G.gr))⟩

set_option maxHeartbeats 2000000 in
set_option maxRecDepth 100000 in
theorem rdo_div (b n g : Int) (N Z C V : Bool) (w : World) (b0 : 0 ≤ b) (b1 : b < 4294967296) (n0 : 0 ≤ n) (n1 : n < 4294967296) :
    Calls Try.prog 77 #[.int .i64 11, .bool false, .int .u32 b, .int .u32 n, .int .u32 g, fl N Z C V] w fun e w' => e = .returned (toldR (divQ b n) (divR b n) C V) ∧ G w w' := by
  unfold fl divQ divR
  obtain ⟨sb0, sb1⟩ := wrap32_lt b
  obtain ⟨sn0, sn1⟩ := wrap32_lt n
  obtain ⟨B, hB⟩ : ∃ B, wrap32 b = B := ⟨_, rfl⟩
  obtain ⟨M, hM⟩ : ∃ M, wrap32 n = M := ⟨_, rfl⟩
  rw [hB] at sb0 sb1 ⊢
  rw [hM] at sn0 sn1 ⊢
  by_cases hm : M ≤ 0
  · rw [if_pos hm, if_pos hm]
    go_enter Try.func77, Try.ntmps77
    go_wp2_with (go_at_call 45; refine (rsigned_any _ _ (by assumption) (by assumption)).mono ?_; rintro e w' ⟨rfl, rfl⟩)
    refine bodyPost_ret (v := toldR 0 b C V) (by simp [results, Try.results77, go_sem, toldR]) rfl ⟨rfl, (by with_reducible repeat' (first | exact G.refl _ | apply G.drew | apply G.drewN | apply G.alloc | apply G.gr))⟩
  · rw [if_neg hm, if_neg hm]
    have m0 : 0 < M := by omega
    have F := fun w => floor_any B M w (by omega) (by omega) m0 (by omega)
    obtain ⟨q1, q2, q3, q4⟩ := quo_facts B M sb0 sb1 m0 sn1
    obtain ⟨q5, q6⟩ := rem_word B M m0 sn1
    have qe : B - B / M * M = B % M := by have := Int.mul_ediv_add_emod B M; rw [Int.mul_comm] at this; omega
    obtain ⟨Q, hQ⟩ : ∃ Q, B / M = Q := ⟨_, rfl⟩
    rw [hQ] at F q1 q2 q3 q4 qe ⊢
    obtain ⟨P, hP⟩ : ∃ P, Q * M = P := ⟨_, rfl⟩
    rw [hP] at q3 q4 qe
    obtain ⟨R, hR⟩ : ∃ R, B % M = R := ⟨_, rfl⟩
    rw [hR] at q5 q6 qe ⊢
    have e : toldR (Q % 4294967296) R C V = toldR (Q % 4294967296) (R % 4294967296) C V := by rw [show R % 4294967296 = R by omega]
    rw [e]
    clear hm e
    go_enter Try.func77, Try.ntmps77
    go_wp2_with (first | (go_at_call 45; refine (rsigned_any _ _ (by assumption) (by assumption)).mono ?_; rintro e w' ⟨rfl, rfl⟩) | (go_at_call 44; refine (rword_any _ _).mono ?_; rintro e w' ⟨rfl, rfl⟩) | (go_at_call 108; refine (F _).mono ?_; rintro e w' ⟨rfl, rfl⟩))
    refine bodyPost_ret (v := toldR (Q % 4294967296) (R % 4294967296) C V) (by simp [results, Try.results77, go_sem, toldR]) rfl ⟨rfl, (by with_reducible repeat' (first | exact G.refl _ | apply G.drew | apply G.drewN | apply G.alloc | apply G.gr))⟩

set_option maxHeartbeats 2000000 in
set_option maxRecDepth 100000 in
theorem rdo_low (op : Int) (u : Bool) (b n g : Int) (N Z C V : Bool) (w : World) (b0 : 0 ≤ b) (b1 : b < 4294967296) (n0 : 0 ≤ n) (n1 : n < 4294967296) (o : op < 0) :
    Calls Try.prog 77 #[.int .i64 op, .bool u, .int .u32 b, .int .u32 n, .int .u32 g, fl N Z C V] w fun e w' => e = .returned none7 ∧ G w w' := by
  unfold fl
  go_enter Try.func77, Try.ntmps77
  go_wp2_with (go_at_call 45; refine (rsigned_any _ _ (by assumption) (by assumption)).mono ?_; rintro e w' ⟨rfl, rfl⟩)
  refine bodyPost_ret (v := none7) (by simp [results, Try.results77, go_sem, none7]) rfl ⟨rfl, (by with_reducible repeat' (first | exact G.refl _ | apply G.drew | apply G.drewN | apply G.alloc | apply G.gr))⟩

set_option maxHeartbeats 2000000 in
set_option maxRecDepth 100000 in
theorem rdo_high (op : Int) (u : Bool) (b n g : Int) (N Z C V : Bool) (w : World) (b0 : 0 ≤ b) (b1 : b < 4294967296) (n0 : 0 ≤ n) (n1 : n < 4294967296) (o : 11 < op) :
    Calls Try.prog 77 #[.int .i64 op, .bool u, .int .u32 b, .int .u32 n, .int .u32 g, fl N Z C V] w fun e w' => e = .returned none7 ∧ G w w' := by
  unfold fl
  go_enter Try.func77, Try.ntmps77
  go_wp2_with (go_at_call 45; refine (rsigned_any _ _ (by assumption) (by assumption)).mono ?_; rintro e w' ⟨rfl, rfl⟩)
  refine bodyPost_ret (v := none7) (by simp [results, Try.results77, go_sem, none7]) rfl ⟨rfl, (by with_reducible repeat' (first | exact G.refl _ | apply G.drew | apply G.drewN | apply G.alloc | apply G.gr))⟩

set_option maxHeartbeats 2000000 in
set_option maxRecDepth 100000 in
theorem rdo_not (op : Int) (b n g : Int) (N Z C V : Bool) (w : World) (b0 : 0 ≤ b) (b1 : b < 4294967296) (n0 : 0 ≤ n) (n1 : n < 4294967296) (o0 : 1 ≤ op) (o1 : op ≤ 7) :
    Calls Try.prog 77 #[.int .i64 op, .bool true, .int .u32 b, .int .u32 n, .int .u32 g, fl N Z C V] w fun e w' => e = .returned none7 ∧ G w w' := by
  unfold fl
  have f0 : (op != 0) = true := by rw [bne_iff_ne]; omega
  have f8 : (op != 8) = true := by rw [bne_iff_ne]; omega
  have f9 : (op != 9) = true := by rw [bne_iff_ne]; omega
  have f10 : (op != 10) = true := by rw [bne_iff_ne]; omega
  go_enter Try.func77, Try.ntmps77
  go_wp2_with (go_at_call 45; refine (rsigned_any _ _ (by assumption) (by assumption)).mono ?_; rintro e w' ⟨rfl, rfl⟩)
  refine bodyPost_ret (v := none7) (by simp [results, Try.results77, go_sem, none7]) rfl ⟨rfl, (by with_reducible repeat' (first | exact G.refl _ | apply G.drew | apply G.drewN | apply G.alloc | apply G.gr))⟩

set_option maxHeartbeats 2000000 in
set_option maxRecDepth 100000 in
theorem rdo_not11 (b n g : Int) (N Z C V : Bool) (w : World) (b0 : 0 ≤ b) (b1 : b < 4294967296) (n0 : 0 ≤ n) (n1 : n < 4294967296) :
    Calls Try.prog 77 #[.int .i64 11, .bool true, .int .u32 b, .int .u32 n, .int .u32 g, fl N Z C V] w fun e w' => e = .returned none7 ∧ G w w' := by
  unfold fl
  go_enter Try.func77, Try.ntmps77
  go_wp2_with (go_at_call 45; refine (rsigned_any _ _ (by assumption) (by assumption)).mono ?_; rintro e w' ⟨rfl, rfl⟩)
  refine bodyPost_ret (v := none7) (by simp [results, Try.results77, go_sem, none7]) rfl ⟨rfl, (by with_reducible repeat' (first | exact G.refl _ | apply G.drew | apply G.drewN | apply G.alloc | apply G.gr))⟩
end Go.Proofs.Ytgdpcdpkaaefbaa.Alu
namespace Go.Proofs.Ytgdpcdpkaaefbaa.Cn
open Go.RowKit hiding Hid
open Go.Maps Go.Proofs.Ytgdpcdpkaaefbaa.Tx Go.Proofs.Ytgdpcdpkaaefbaa.Lx Go.Proofs.Ytgdpcdpkaaefbaa.Mp Go.Proofs.Ytgdpcdpkaaefbaa.Bits Go.Proofs.Ytgdpcdpkaaefbaa.Tr Go.Proofs.Ytgdpcdpkaaefbaa.Bm
set_option linter.unusedVariables false
set_option linter.unusedSimpArgs false
set_option maxRecDepth 100000

theorem tyTO : TyS Try.prog 90 7 := tyS_of Try.underlying90 rfl (by kernel_rfl)
theorem zTO : (Try.prog.info? 90).bind (fun i => i.zero.map (·.cells)) = some ([.int .u32 0, .int .u32 0, .bool false, .bool false, .bool false, .bool false, .bool false] : List Value).toArray := by kernel_rfl
theorem tcW : TyC Try.prog 47 := tyC_of Try.underlying47 rfl (by kernel_rfl)
theorem G_g {w w' : World} (h : Gw.G w w') : w.grownBy w' none := by
  obtain ⟨p, rfl⟩ := h
  exact ⟨rfl, rfl, rfl, by rw [Gw.gr_size]; omega, fun k hk _ => Gw.gr_old w p hk⟩
/- A division: the word of its quotient, and of its rest. -/
theorem rdiv_as {a b : Int} (a0 : -2147483648 ≤ a) (a1 : a < 2147483648) (b0 : 0 < b) (b1 : b < 2147483648) : ∃ q r, (0 ≤ q ∧ q < 4294967296 ∧ wrap32 q = a / b) ∧ (0 ≤ r ∧ r < 4294967296 ∧ wrap32 r = a % b) ∧ ∃ u0 u1 u2 u3 : Bool, ∀ W, Calls Try.prog 77 #[.int .i64 11, .bool false, .int .u32 (a % 4294967296), .int .u32 (b % 4294967296), .int .u32 0, .agg #[.bool false, .bool false, .bool false, .bool false]] W (Told W (.agg #[.int .u32 q, .int .u32 r, .bool u0, .bool u1, .bool u2, .bool u3, .bool true])) := by
  have e1 := wr32 a0 a1
  have e2 := wr32 (a := b) (by omega) b1
  have q1 := Int.mul_ediv_add_emod a b
  have q2 := Int.emod_nonneg a (show b ≠ 0 by omega)
  have q3 := Int.emod_lt_of_pos a b0
  have hq : -2147483648 ≤ a / b ∧ a / b < 2147483648 := by
    constructor
    · by_cases hn : 0 ≤ a / b
      · omega
      · have := Int.mul_le_mul_of_nonpos_right (c := a / b) (show 1 ≤ b by omega) (by omega)
        rcases Int.lt_or_le (a / b) (-2147483648) with h | h
        · exfalso
          have h3 : b * (a / b) ≤ a / b := by omega
          have h4 : a / b + a % b < -2147483648 + b := by omega
          by_cases hb1 : b = 1
          · subst hb1; omega
          · have := Int.mul_le_mul_of_nonpos_right (c := a / b) (show 2 ≤ b by omega) (by omega)
            omega
        · exact h
    · by_cases hn : a / b ≤ 0
      · omega
      · have := Int.mul_le_mul_of_nonneg_right (c := a / b) (show 1 ≤ b by omega) (by omega)
        omega
  refine ⟨_, _, ⟨?_, ?_, ?_⟩, ⟨?_, ?_, ?_⟩, _, _, _, _, fun W => (Alu.rdo_div (a % 4294967296) (b % 4294967296) 0 false false false false W (by omega) (by omega) (by omega) (by omega)).mono (fun e w' h => ⟨h.1, G_g h.2⟩)⟩
  · unfold Alu.divQ; rw [e1, e2, if_neg (by omega)]; omega
  · unfold Alu.divQ; rw [e1, e2, if_neg (by omega)]; omega
  · unfold Alu.divQ; rw [e1, e2, if_neg (by omega)]; exact wr32 hq.1 hq.2
  · unfold Alu.divR; rw [e1, e2, if_neg (by omega)]; omega
  · unfold Alu.divR; rw [e1, e2, if_neg (by omega)]; omega
  · unfold Alu.divR; rw [e1, e2, if_neg (by omega)]; exact wr32' (by omega) (by omega)
set_option maxHeartbeats 6400000 in
theorem ints_at (s : List UInt8) (a b : Int) (a0 : -2147483648 ≤ a) (a1 : a < 2147483648) (b0 : -2147483648 ≤ b) (b1 : b < 2147483648) (w : World) : Calls Try.prog 41 #[.string (bs s), .int .i64 a, .int .i64 b] w (Told w (rsV (intsP s a b))) := by
  have HC := hide (Cx.start w (fun _ => False))
  have HNO := hide rnone_as
  have HI := hide True.intro
  have HD := hide True.intro
  have HWQ := hide True.intro
  by_cases h1 : s = [43]
  · obtain ⟨⟨⟨rf, rn, rt⟩, re⟩, hI⟩ : ∃ R, intR (a + b) = R := ⟨_, rfl⟩
    rw [show intsP s a b = (⟨rf, rn, rt⟩, re) from (if_pos h1).trans hI]
    replace HI := hide (rinteger_as hI)
    have k1 := tE_tt h1
    unfold rsV vV
    dsimp only
    clear h1 hI
    (go_enter Try.func41, Try.ntmps41; go_wp2_with (first | (refine at_alloc 23 rfl ?_; refine wl_alloc rfl 23 rfl _ zV HC.out ?_; intro b w' hn hc; (replace HC := hide hc; clear hc)) | (refine at_alloc 90 rfl ?_; refine wl_alloc rfl 90 rfl _ zTO HC.out ?_; intro b w' hn hc; (replace HC := hide hc; clear hc)) | (refine at_load 47 rfl ?_; refine wl_load_c rfl 47 _ rfl tcW rfl HC.out (by repeat (first | exact List.Mem.head _ | apply List.Mem.tail)) (by repeat (first | exact GetS.cons _ (GetS.nil _) | apply GetS.skip)) ?_) | (go_at_call 30; (refine (HNO.out _).mono ?_; rintro e w2 ⟨rfl, hg⟩; (replace HC := hide (HC.out.g hg); clear hg))) | (go_at_call 27; (refine (HI.out _).mono ?_; rintro e w2 ⟨rfl, hg⟩; (replace HC := hide (HC.out.g hg); clear hg))) | (go_at_call 44; refine (rword_any _ _).mono ?_; rintro e w2 ⟨rfl, rfl⟩) | (go_at_call 77; (refine (HD.out _).mono ?_; rintro e w2 ⟨rfl, hg⟩; (replace HC := hide (HC.out.g hg); clear hg))) | (go_at_call 45; refine (rsigned_any _ _ HWQ.out.1 HWQ.out.2.1).mono ?_; rw [HWQ.out.2.2]; rintro e w2 ⟨rfl, rfl⟩) | (refine at_store 90 rfl ?_; refine wl_store rfl 90 _ _ rfl rfl rfl tyTO.sz rfl HC.out (by repeat (first | exact List.Mem.head _ | apply List.Mem.tail)) (by exact PutS.all _ _ rfl) (by repeat (first | exact Upd.here _ _ _ | apply Upd.there)) ?_; intro w' hc; (replace HC := hide hc; clear hc)) | (refine at_store 23 rfl ?_; refine wl_store rfl 23 _ _ rfl rfl rfl tyV.sz rfl HC.out (by repeat (first | exact List.Mem.head _ | apply List.Mem.tail)) (by exact PutS.all _ _ rfl) (by repeat (first | exact Upd.here _ _ _ | apply Upd.there)) ?_; intro w' hc; (replace HC := hide hc; clear hc))); refine ret_two Try.results41 rfl rfl HC.out (by repeat (first | exact List.Mem.head _ | apply List.Mem.tail)) tyV rfl ?_)
    exact ⟨rfl, HC.out.grown⟩
  have k1 := tE_ff h1
  by_cases h2 : s = [45]
  · obtain ⟨⟨⟨rf, rn, rt⟩, re⟩, hI⟩ : ∃ R, intR (a - b) = R := ⟨_, rfl⟩
    rw [show intsP s a b = (⟨rf, rn, rt⟩, re) by unfold intsP; rw [if_neg h1, if_pos h2]; exact hI]
    replace HI := hide (rinteger_as hI)
    have k2 := tE_tt h2
    unfold rsV vV
    dsimp only
    clear h1 h2 hI
    (go_enter Try.func41, Try.ntmps41; go_wp2_with (first | (refine at_alloc 23 rfl ?_; refine wl_alloc rfl 23 rfl _ zV HC.out ?_; intro b w' hn hc; (replace HC := hide hc; clear hc)) | (refine at_alloc 90 rfl ?_; refine wl_alloc rfl 90 rfl _ zTO HC.out ?_; intro b w' hn hc; (replace HC := hide hc; clear hc)) | (refine at_load 47 rfl ?_; refine wl_load_c rfl 47 _ rfl tcW rfl HC.out (by repeat (first | exact List.Mem.head _ | apply List.Mem.tail)) (by repeat (first | exact GetS.cons _ (GetS.nil _) | apply GetS.skip)) ?_) | (go_at_call 30; (refine (HNO.out _).mono ?_; rintro e w2 ⟨rfl, hg⟩; (replace HC := hide (HC.out.g hg); clear hg))) | (go_at_call 27; (refine (HI.out _).mono ?_; rintro e w2 ⟨rfl, hg⟩; (replace HC := hide (HC.out.g hg); clear hg))) | (go_at_call 44; refine (rword_any _ _).mono ?_; rintro e w2 ⟨rfl, rfl⟩) | (go_at_call 77; (refine (HD.out _).mono ?_; rintro e w2 ⟨rfl, hg⟩; (replace HC := hide (HC.out.g hg); clear hg))) | (go_at_call 45; refine (rsigned_any _ _ HWQ.out.1 HWQ.out.2.1).mono ?_; rw [HWQ.out.2.2]; rintro e w2 ⟨rfl, rfl⟩) | (refine at_store 90 rfl ?_; refine wl_store rfl 90 _ _ rfl rfl rfl tyTO.sz rfl HC.out (by repeat (first | exact List.Mem.head _ | apply List.Mem.tail)) (by exact PutS.all _ _ rfl) (by repeat (first | exact Upd.here _ _ _ | apply Upd.there)) ?_; intro w' hc; (replace HC := hide hc; clear hc)) | (refine at_store 23 rfl ?_; refine wl_store rfl 23 _ _ rfl rfl rfl tyV.sz rfl HC.out (by repeat (first | exact List.Mem.head _ | apply List.Mem.tail)) (by exact PutS.all _ _ rfl) (by repeat (first | exact Upd.here _ _ _ | apply Upd.there)) ?_; intro w' hc; (replace HC := hide hc; clear hc))); refine ret_two Try.results41 rfl rfl HC.out (by repeat (first | exact List.Mem.head _ | apply List.Mem.tail)) tyV rfl ?_)
    exact ⟨rfl, HC.out.grown⟩
  have k2 := tE_ff h2
  by_cases h3 : s = [42]
  · obtain ⟨p0, p1⟩ := mul_rg ⟨⟨a0, a1⟩, b0, b1⟩
    obtain ⟨P, hP⟩ : ∃ P, a * b = P := ⟨_, rfl⟩
    obtain ⟨⟨⟨rf, rn, rt⟩, re⟩, hI⟩ : ∃ R, intR P = R := ⟨_, rfl⟩
    rw [show intsP s a b = (⟨rf, rn, rt⟩, re) by unfold intsP; rw [if_neg h1, if_neg h2, if_pos h3, hP]; exact hI]
    rw [hP] at p0 p1
    replace HI := hide (rinteger_as hI)
    have k3 := tE_tt h3
    unfold rsV vV
    dsimp only
    clear h1 h2 h3 hI
    (go_enter Try.func41, Try.ntmps41; go_wp2_with (first | (refine at_alloc 23 rfl ?_; refine wl_alloc rfl 23 rfl _ zV HC.out ?_; intro b w' hn hc; (replace HC := hide hc; clear hc)) | (refine at_alloc 90 rfl ?_; refine wl_alloc rfl 90 rfl _ zTO HC.out ?_; intro b w' hn hc; (replace HC := hide hc; clear hc)) | (refine at_load 47 rfl ?_; refine wl_load_c rfl 47 _ rfl tcW rfl HC.out (by repeat (first | exact List.Mem.head _ | apply List.Mem.tail)) (by repeat (first | exact GetS.cons _ (GetS.nil _) | apply GetS.skip)) ?_) | (go_at_call 30; (refine (HNO.out _).mono ?_; rintro e w2 ⟨rfl, hg⟩; (replace HC := hide (HC.out.g hg); clear hg))) | (go_at_call 27; (refine (HI.out _).mono ?_; rintro e w2 ⟨rfl, hg⟩; (replace HC := hide (HC.out.g hg); clear hg))) | (go_at_call 44; refine (rword_any _ _).mono ?_; rintro e w2 ⟨rfl, rfl⟩) | (go_at_call 77; (refine (HD.out _).mono ?_; rintro e w2 ⟨rfl, hg⟩; (replace HC := hide (HC.out.g hg); clear hg))) | (go_at_call 45; refine (rsigned_any _ _ HWQ.out.1 HWQ.out.2.1).mono ?_; rw [HWQ.out.2.2]; rintro e w2 ⟨rfl, rfl⟩) | (refine at_store 90 rfl ?_; refine wl_store rfl 90 _ _ rfl rfl rfl tyTO.sz rfl HC.out (by repeat (first | exact List.Mem.head _ | apply List.Mem.tail)) (by exact PutS.all _ _ rfl) (by repeat (first | exact Upd.here _ _ _ | apply Upd.there)) ?_; intro w' hc; (replace HC := hide hc; clear hc)) | (refine at_store 23 rfl ?_; refine wl_store rfl 23 _ _ rfl rfl rfl tyV.sz rfl HC.out (by repeat (first | exact List.Mem.head _ | apply List.Mem.tail)) (by exact PutS.all _ _ rfl) (by repeat (first | exact Upd.here _ _ _ | apply Upd.there)) ?_; intro w' hc; (replace HC := hide hc; clear hc))); refine ret_two Try.results41 rfl rfl HC.out (by repeat (first | exact List.Mem.head _ | apply List.Mem.tail)) tyV rfl ?_)
    exact ⟨rfl, HC.out.grown⟩
  have k3 := tE_ff h3
  by_cases h4 : s = [68, 73, 86]
  · have k4 := tE_tt h4
    by_cases hb : b ≤ 0
    · rw [show intsP s a b = (Vl.z, 121) by unfold intsP; rw [if_neg h1, if_neg h2, if_neg h3, if_pos h4]; exact if_pos hb]
      unfold rsV vV
      clear h1 h2 h3 h4
      (go_enter Try.func41, Try.ntmps41; go_wp2_with (first | (refine at_alloc 23 rfl ?_; refine wl_alloc rfl 23 rfl _ zV HC.out ?_; intro b w' hn hc; (replace HC := hide hc; clear hc)) | (refine at_alloc 90 rfl ?_; refine wl_alloc rfl 90 rfl _ zTO HC.out ?_; intro b w' hn hc; (replace HC := hide hc; clear hc)) | (refine at_load 47 rfl ?_; refine wl_load_c rfl 47 _ rfl tcW rfl HC.out (by repeat (first | exact List.Mem.head _ | apply List.Mem.tail)) (by repeat (first | exact GetS.cons _ (GetS.nil _) | apply GetS.skip)) ?_) | (go_at_call 30; (refine (HNO.out _).mono ?_; rintro e w2 ⟨rfl, hg⟩; (replace HC := hide (HC.out.g hg); clear hg))) | (go_at_call 27; (refine (HI.out _).mono ?_; rintro e w2 ⟨rfl, hg⟩; (replace HC := hide (HC.out.g hg); clear hg))) | (go_at_call 44; refine (rword_any _ _).mono ?_; rintro e w2 ⟨rfl, rfl⟩) | (go_at_call 77; (refine (HD.out _).mono ?_; rintro e w2 ⟨rfl, hg⟩; (replace HC := hide (HC.out.g hg); clear hg))) | (go_at_call 45; refine (rsigned_any _ _ HWQ.out.1 HWQ.out.2.1).mono ?_; rw [HWQ.out.2.2]; rintro e w2 ⟨rfl, rfl⟩) | (refine at_store 90 rfl ?_; refine wl_store rfl 90 _ _ rfl rfl rfl tyTO.sz rfl HC.out (by repeat (first | exact List.Mem.head _ | apply List.Mem.tail)) (by exact PutS.all _ _ rfl) (by repeat (first | exact Upd.here _ _ _ | apply Upd.there)) ?_; intro w' hc; (replace HC := hide hc; clear hc)) | (refine at_store 23 rfl ?_; refine wl_store rfl 23 _ _ rfl rfl rfl tyV.sz rfl HC.out (by repeat (first | exact List.Mem.head _ | apply List.Mem.tail)) (by exact PutS.all _ _ rfl) (by repeat (first | exact Upd.here _ _ _ | apply Upd.there)) ?_; intro w' hc; (replace HC := hide hc; clear hc))); refine ret_two Try.results41 rfl rfl HC.out (by repeat (first | exact List.Mem.head _ | apply List.Mem.tail)) tyV rfl ?_)
      exact ⟨rfl, HC.out.grown⟩
    · obtain ⟨q, r, hq, hr, u0, u1, u2, u3, hD⟩ := rdiv_as a0 a1 (show 0 < b by omega) b1
      obtain ⟨⟨⟨rf, rn, rt⟩, re⟩, hI⟩ : ∃ R, intR (a / b) = R := ⟨_, rfl⟩
      rw [show intsP s a b = (⟨rf, rn, rt⟩, re) by unfold intsP; rw [if_neg h1, if_neg h2, if_neg h3, if_pos h4]; exact (if_neg hb).trans hI]
      replace HI := hide (rinteger_as hI)
      replace HD := hide hD
      replace HWQ := hide hq
      unfold rsV vV
      dsimp only
      clear h1 h2 h3 h4 hI hq hr hD
      (go_enter Try.func41, Try.ntmps41; go_wp2_with (first | (refine at_alloc 23 rfl ?_; refine wl_alloc rfl 23 rfl _ zV HC.out ?_; intro b w' hn hc; (replace HC := hide hc; clear hc)) | (refine at_alloc 90 rfl ?_; refine wl_alloc rfl 90 rfl _ zTO HC.out ?_; intro b w' hn hc; (replace HC := hide hc; clear hc)) | (refine at_load 47 rfl ?_; refine wl_load_c rfl 47 _ rfl tcW rfl HC.out (by repeat (first | exact List.Mem.head _ | apply List.Mem.tail)) (by repeat (first | exact GetS.cons _ (GetS.nil _) | apply GetS.skip)) ?_) | (go_at_call 30; (refine (HNO.out _).mono ?_; rintro e w2 ⟨rfl, hg⟩; (replace HC := hide (HC.out.g hg); clear hg))) | (go_at_call 27; (refine (HI.out _).mono ?_; rintro e w2 ⟨rfl, hg⟩; (replace HC := hide (HC.out.g hg); clear hg))) | (go_at_call 44; refine (rword_any _ _).mono ?_; rintro e w2 ⟨rfl, rfl⟩) | (go_at_call 77; (refine (HD.out _).mono ?_; rintro e w2 ⟨rfl, hg⟩; (replace HC := hide (HC.out.g hg); clear hg))) | (go_at_call 45; refine (rsigned_any _ _ HWQ.out.1 HWQ.out.2.1).mono ?_; rw [HWQ.out.2.2]; rintro e w2 ⟨rfl, rfl⟩) | (refine at_store 90 rfl ?_; refine wl_store rfl 90 _ _ rfl rfl rfl tyTO.sz rfl HC.out (by repeat (first | exact List.Mem.head _ | apply List.Mem.tail)) (by exact PutS.all _ _ rfl) (by repeat (first | exact Upd.here _ _ _ | apply Upd.there)) ?_; intro w' hc; (replace HC := hide hc; clear hc)) | (refine at_store 23 rfl ?_; refine wl_store rfl 23 _ _ rfl rfl rfl tyV.sz rfl HC.out (by repeat (first | exact List.Mem.head _ | apply List.Mem.tail)) (by exact PutS.all _ _ rfl) (by repeat (first | exact Upd.here _ _ _ | apply Upd.there)) ?_; intro w' hc; (replace HC := hide hc; clear hc))); refine ret_two Try.results41 rfl rfl HC.out (by repeat (first | exact List.Mem.head _ | apply List.Mem.tail)) tyV rfl ?_)
      exact ⟨rfl, HC.out.grown⟩
  have k4 := tE_ff h4
  by_cases h5 : s = [77, 79, 68]
  · have k5 := tE_tt h5
    by_cases hb : b ≤ 0
    · rw [show intsP s a b = (Vl.z, 121) by unfold intsP; rw [if_neg h1, if_neg h2, if_neg h3, if_neg h4, if_pos h5]; exact if_pos hb]
      unfold rsV vV
      clear h1 h2 h3 h4 h5
      (go_enter Try.func41, Try.ntmps41; go_wp2_with (first | (refine at_alloc 23 rfl ?_; refine wl_alloc rfl 23 rfl _ zV HC.out ?_; intro b w' hn hc; (replace HC := hide hc; clear hc)) | (refine at_alloc 90 rfl ?_; refine wl_alloc rfl 90 rfl _ zTO HC.out ?_; intro b w' hn hc; (replace HC := hide hc; clear hc)) | (refine at_load 47 rfl ?_; refine wl_load_c rfl 47 _ rfl tcW rfl HC.out (by repeat (first | exact List.Mem.head _ | apply List.Mem.tail)) (by repeat (first | exact GetS.cons _ (GetS.nil _) | apply GetS.skip)) ?_) | (go_at_call 30; (refine (HNO.out _).mono ?_; rintro e w2 ⟨rfl, hg⟩; (replace HC := hide (HC.out.g hg); clear hg))) | (go_at_call 27; (refine (HI.out _).mono ?_; rintro e w2 ⟨rfl, hg⟩; (replace HC := hide (HC.out.g hg); clear hg))) | (go_at_call 44; refine (rword_any _ _).mono ?_; rintro e w2 ⟨rfl, rfl⟩) | (go_at_call 77; (refine (HD.out _).mono ?_; rintro e w2 ⟨rfl, hg⟩; (replace HC := hide (HC.out.g hg); clear hg))) | (go_at_call 45; refine (rsigned_any _ _ HWQ.out.1 HWQ.out.2.1).mono ?_; rw [HWQ.out.2.2]; rintro e w2 ⟨rfl, rfl⟩) | (refine at_store 90 rfl ?_; refine wl_store rfl 90 _ _ rfl rfl rfl tyTO.sz rfl HC.out (by repeat (first | exact List.Mem.head _ | apply List.Mem.tail)) (by exact PutS.all _ _ rfl) (by repeat (first | exact Upd.here _ _ _ | apply Upd.there)) ?_; intro w' hc; (replace HC := hide hc; clear hc)) | (refine at_store 23 rfl ?_; refine wl_store rfl 23 _ _ rfl rfl rfl tyV.sz rfl HC.out (by repeat (first | exact List.Mem.head _ | apply List.Mem.tail)) (by exact PutS.all _ _ rfl) (by repeat (first | exact Upd.here _ _ _ | apply Upd.there)) ?_; intro w' hc; (replace HC := hide hc; clear hc))); refine ret_two Try.results41 rfl rfl HC.out (by repeat (first | exact List.Mem.head _ | apply List.Mem.tail)) tyV rfl ?_)
      exact ⟨rfl, HC.out.grown⟩
    · obtain ⟨q, r, hq, hr, u0, u1, u2, u3, hD⟩ := rdiv_as a0 a1 (show 0 < b by omega) b1
      obtain ⟨⟨⟨rf, rn, rt⟩, re⟩, hI⟩ : ∃ R, intR (a % b) = R := ⟨_, rfl⟩
      rw [show intsP s a b = (⟨rf, rn, rt⟩, re) by unfold intsP; rw [if_neg h1, if_neg h2, if_neg h3, if_neg h4, if_pos h5]; exact (if_neg hb).trans hI]
      replace HI := hide (rinteger_as hI)
      replace HD := hide hD
      replace HWQ := hide hr
      unfold rsV vV
      dsimp only
      clear h1 h2 h3 h4 h5 hI hq hr hD
      (go_enter Try.func41, Try.ntmps41; go_wp2_with (first | (refine at_alloc 23 rfl ?_; refine wl_alloc rfl 23 rfl _ zV HC.out ?_; intro b w' hn hc; (replace HC := hide hc; clear hc)) | (refine at_alloc 90 rfl ?_; refine wl_alloc rfl 90 rfl _ zTO HC.out ?_; intro b w' hn hc; (replace HC := hide hc; clear hc)) | (refine at_load 47 rfl ?_; refine wl_load_c rfl 47 _ rfl tcW rfl HC.out (by repeat (first | exact List.Mem.head _ | apply List.Mem.tail)) (by repeat (first | exact GetS.cons _ (GetS.nil _) | apply GetS.skip)) ?_) | (go_at_call 30; (refine (HNO.out _).mono ?_; rintro e w2 ⟨rfl, hg⟩; (replace HC := hide (HC.out.g hg); clear hg))) | (go_at_call 27; (refine (HI.out _).mono ?_; rintro e w2 ⟨rfl, hg⟩; (replace HC := hide (HC.out.g hg); clear hg))) | (go_at_call 44; refine (rword_any _ _).mono ?_; rintro e w2 ⟨rfl, rfl⟩) | (go_at_call 77; (refine (HD.out _).mono ?_; rintro e w2 ⟨rfl, hg⟩; (replace HC := hide (HC.out.g hg); clear hg))) | (go_at_call 45; refine (rsigned_any _ _ HWQ.out.1 HWQ.out.2.1).mono ?_; rw [HWQ.out.2.2]; rintro e w2 ⟨rfl, rfl⟩) | (refine at_store 90 rfl ?_; refine wl_store rfl 90 _ _ rfl rfl rfl tyTO.sz rfl HC.out (by repeat (first | exact List.Mem.head _ | apply List.Mem.tail)) (by exact PutS.all _ _ rfl) (by repeat (first | exact Upd.here _ _ _ | apply Upd.there)) ?_; intro w' hc; (replace HC := hide hc; clear hc)) | (refine at_store 23 rfl ?_; refine wl_store rfl 23 _ _ rfl rfl rfl tyV.sz rfl HC.out (by repeat (first | exact List.Mem.head _ | apply List.Mem.tail)) (by exact PutS.all _ _ rfl) (by repeat (first | exact Upd.here _ _ _ | apply Upd.there)) ?_; intro w' hc; (replace HC := hide hc; clear hc))); refine ret_two Try.results41 rfl rfl HC.out (by repeat (first | exact List.Mem.head _ | apply List.Mem.tail)) tyV rfl ?_)
      exact ⟨rfl, HC.out.grown⟩
  have k5 := tE_ff h5
  rw [show intsP s a b = noR by unfold intsP; rw [if_neg h1, if_neg h2, if_neg h3, if_neg h4, if_neg h5]]
  unfold rsV vV noR
  clear h1 h2 h3 h4 h5
  (go_enter Try.func41, Try.ntmps41; go_wp2_with (first | (refine at_alloc 23 rfl ?_; refine wl_alloc rfl 23 rfl _ zV HC.out ?_; intro b w' hn hc; (replace HC := hide hc; clear hc)) | (refine at_alloc 90 rfl ?_; refine wl_alloc rfl 90 rfl _ zTO HC.out ?_; intro b w' hn hc; (replace HC := hide hc; clear hc)) | (refine at_load 47 rfl ?_; refine wl_load_c rfl 47 _ rfl tcW rfl HC.out (by repeat (first | exact List.Mem.head _ | apply List.Mem.tail)) (by repeat (first | exact GetS.cons _ (GetS.nil _) | apply GetS.skip)) ?_) | (go_at_call 30; (refine (HNO.out _).mono ?_; rintro e w2 ⟨rfl, hg⟩; (replace HC := hide (HC.out.g hg); clear hg))) | (go_at_call 27; (refine (HI.out _).mono ?_; rintro e w2 ⟨rfl, hg⟩; (replace HC := hide (HC.out.g hg); clear hg))) | (go_at_call 44; refine (rword_any _ _).mono ?_; rintro e w2 ⟨rfl, rfl⟩) | (go_at_call 77; (refine (HD.out _).mono ?_; rintro e w2 ⟨rfl, hg⟩; (replace HC := hide (HC.out.g hg); clear hg))) | (go_at_call 45; refine (rsigned_any _ _ HWQ.out.1 HWQ.out.2.1).mono ?_; rw [HWQ.out.2.2]; rintro e w2 ⟨rfl, rfl⟩) | (refine at_store 90 rfl ?_; refine wl_store rfl 90 _ _ rfl rfl rfl tyTO.sz rfl HC.out (by repeat (first | exact List.Mem.head _ | apply List.Mem.tail)) (by exact PutS.all _ _ rfl) (by repeat (first | exact Upd.here _ _ _ | apply Upd.there)) ?_; intro w' hc; (replace HC := hide hc; clear hc)) | (refine at_store 23 rfl ?_; refine wl_store rfl 23 _ _ rfl rfl rfl tyV.sz rfl HC.out (by repeat (first | exact List.Mem.head _ | apply List.Mem.tail)) (by exact PutS.all _ _ rfl) (by repeat (first | exact Upd.here _ _ _ | apply Upd.there)) ?_; intro w' hc; (replace HC := hide hc; clear hc))); refine ret_two Try.results41 rfl rfl HC.out (by repeat (first | exact List.Mem.head _ | apply List.Mem.tail)) tyV rfl ?_)
  exact ⟨rfl, HC.out.grown⟩
end Go.Proofs.Ytgdpcdpkaaefbaa.Cn
