/-
  A map that was made and written: the list of what was put into it, in its order; what is found at a key.
-/
import Derived.Test.YtmoekalagollhaaProg
import Derived.Maps.OwnSet
import Derived.DeepKeys4
import Derived.WalkKit
namespace Go.Proofs.Ytmoekalagollhaa.Mp
open Go.RowKit Go.Maps
set_option linter.unusedVariables false
set_option linter.unusedSimpArgs false

theorem revInd {α : Type} {motive : List α → Prop} (nil : motive []) (snoc : ∀ l p, motive l → motive (l ++ [p])) (l : List α) : motive l := by
  have : ∀ r : List α, motive r.reverse := by
    intro r
    induction r with
    | nil => exact nil
    | cons a r ih => rw [List.reverse_cons]; exact snoc _ _ ih
  simpa using this l.reverse
def RV (v : Value) : Option (DataW Value × List MemPlace) := some (.held v, [])
def klD (P : Program) (K : TypeId) (v : Value) : Lit := (keyOf P K v).getD (.bool false)
def putD (P : Program) (K : TypeId) (l : List (Value × Value)) : DataW Value := l.foldl (fun D p => D.put (klD P K p.1) (.held p.2)) (.map [])
theorem putD_snoc {P : Program} (K : TypeId) (l : List (Value × Value)) (p : Value × Value) : putD P K (l ++ [p]) = (putD P K l).put (klD P K p.1) (.held p.2) := by simp [putD, List.foldl_append]
def IsK (P : Program) (K : TypeId) (v : Value) : Prop := ∃ kl, keyOf P K v = some kl
theorem IsK.at {P : Program} {K : TypeId} {v : Value} (h : IsK P K v) : keyOf P K v = some (klD P K v) := by
  obtain ⟨kl, h⟩ := h
  rw [klD, h]; rfl
structure MapL (P : Program) (K : TypeId) (w : World) (b : Nat) (l : List (Value × Value)) : Prop where
  keys : ∀ p ∈ l, IsK P K p.1
  own : w.ownsMap P K RV b l.length (putD P K l)
theorem MapL.made {P : Program} (K : TypeId) (w : World) : MapL P K (w.alloc (.map #[] 0)) w.heap.size [] := ⟨by simp, World.ownsMap_made _ _ _ _⟩
theorem MapL.kept {P : Program} {K : TypeId} {w w' : World} {b : Nat} {l : List (Value × Value)} (h : MapL P K w b l) {row : Option Nat} (hg : w.grownBy w' row) (hne : some b ≠ row) : MapL P K w' b l := ⟨h.keys, h.own.kept hg hne⟩
theorem MapL.lt {P : Program} {K : TypeId} {w : World} {b : Nat} {l : List (Value × Value)} (h : MapL P K w b l) : b < w.heap.size := h.own.lt
theorem MapL.update {P : Program} {K T E : TypeId} (LK : Keyed P K) (ht : P.underlying T = some (.map K E)) {w : World} {b : Nat} {l : List (Value × Value)} (h : MapL P K w b l) (hn : l.length < 1000000) {key val : Value} (hk : IsK P K key) :
    ∃ w', (Instr.mapUpdate T (.map (some b)) key val).run P w = .ok () w' ∧ MapL P K w' b (l ++ [(key, val)]) ∧ w.grownBy w' (some b) := by
  obtain ⟨w', h1, h2, h3⟩ := h.own.update LK ht (Nat.lt_trans hn (by unfold maxLen; decide)) hk.at (show RV val = some (.held val, []) from rfl)
  refine ⟨w', h1, ⟨?_, ?_⟩, h3⟩
  · intro p hp
    rcases List.mem_append.1 hp with hp | hp
    · exact h.keys p hp
    · simp at hp; subst hp; exact hk
  · rw [putD_snoc]
    simpa using h2
theorem putD_isMap {P : Program} (K : TypeId) (l : List (Value × Value)) : IsMap (putD P K l) := by
  have : ∀ (l : List (Value × Value)) (D : DataW Value), IsMap D → IsMap (l.foldl (fun D p => D.put (klD P K p.1) (.held p.2)) D) := by
    intro l
    induction l with
    | nil => intro D h; exact h
    | cons p l ih => intro D h; exact ih _ (h.put _ _)
  exact this l _ isMap_empty
theorem kl_ne {P : Program} {K : TypeId} (LK : Keyed P K) {a b : Value} (ha : IsK P K a) (hb : IsK P K b) (h : a ≠ b) : klD P K a ≠ klD P K b := fun e => h (LK.inj ha.at (by rw [e]; exact hb.at))
theorem putD_miss {P : Program} {K : TypeId} (LK : Keyed P K) {key : Value} (hk : IsK P K key) : ∀ (l : List (Value × Value)), (∀ p ∈ l, IsK P K p.1) → (∀ p ∈ l, p.1 ≠ key) → has (putD P K l) (klD P K key) = false := by
  intro l
  induction l using revInd with
  | nil => intro _ _; rfl
  | snoc l p ih =>
    intro h1 h2
    rw [putD_snoc, has_put_other (kl_ne LK hk (h1 p (by simp)) (h2 p (by simp)).symm)]
    exact ih (fun q hq => h1 q (by simp [hq])) (fun q hq => h2 q (by simp [hq]))
theorem putD_hit {P : Program} {K : TypeId} (LK : Keyed P K) {key v : Value} (hk : IsK P K key) : ∀ (l : List (Value × Value)), (∀ p ∈ l, IsK P K p.1) → (key, v) ∈ l → (∀ p ∈ l, p.1 = key → p.2 = v) → has (putD P K l) (klD P K key) = true ∧ ∀ z, (putD P K l).atKey (klD P K key) z = .held v := by
  intro l
  induction l using revInd with
  | nil => intro _ h; cases h
  | snoc l p ih =>
    intro h1 h2 h3
    rw [putD_snoc]
    by_cases e : p.1 = key
    · have hv := h3 p (by simp) e
      rw [e, hv]
      exact ⟨has_put_same (putD_isMap K l) (LK.key hk.at) _, fun z => atKey_put_same (putD_isMap K l) (LK.key hk.at) _ z⟩
    · have hne := kl_ne LK hk (h1 p (by simp)) (fun x => e x.symm)
      have hm : (key, v) ∈ l := by
        rcases List.mem_append.1 h2 with h | h
        · exact h
        · simp at h; subst h; exact absurd rfl e
      rw [has_put_other hne]
      obtain ⟨a, b⟩ := ih (fun q hq => h1 q (by simp [hq])) hm (fun q hq => h3 q (by simp [hq]))
      exact ⟨a, fun z => by rw [atKey_put_other hne]; exact b z⟩
theorem MapL.look {P : Program} {K T E : TypeId} (LK : Keyed P K) (ht : P.underlying T = some (.map K E)) {z : Value} {w : World} (hz : (zeroValue E).run P w = .ok z w) {b : Nat} {l : List (Value × Value)} (h : MapL P K w b l) {key v : Value} (hk : IsK P K key) (hm : (key, v) ∈ l) (hu : ∀ p ∈ l, p.1 = key → p.2 = v) :
    (Instr.lookup T (.map (some b)) key false).run P w = .ok v w := by
  obtain ⟨v', ps, hr, hv⟩ := h.own.lookup LK ht hz (show RV z = some (.held z, []) from rfl) hk.at
  rw [(putD_hit LK hk l h.keys hm hu).2] at hv
  simp [RV] at hv
  rw [hr, hv.1]
theorem MapL.look_ok {P : Program} {K T E : TypeId} (LK : Keyed P K) (ht : P.underlying T = some (.map K E)) {z : Value} {w : World} (hz : (zeroValue E).run P w = .ok z w) {b : Nat} {l : List (Value × Value)} (h : MapL P K w b l) {key v : Value} (hk : IsK P K key) (hm : (key, v) ∈ l) (hu : ∀ p ∈ l, p.1 = key → p.2 = v) :
    (Instr.lookup T (.map (some b)) key true).run P w = .ok (.tuple #[v, .bool true]) w := by
  obtain ⟨v', ps, hr, hv⟩ := h.own.look_ok LK ht hz (show RV z = some (.held z, []) from rfl) hk.at
  have hh := putD_hit LK hk l h.keys hm hu
  rw [hh.2] at hv
  simp [RV] at hv
  rw [hr, hv.1, hh.1]
theorem MapL.look_no {P : Program} {K T E : TypeId} (LK : Keyed P K) (ht : P.underlying T = some (.map K E)) {z : Value} {w : World} (hz : (zeroValue E).run P w = .ok z w) {b : Nat} {l : List (Value × Value)} (h : MapL P K w b l) {key : Value} (hk : IsK P K key) (hm : ∀ p ∈ l, p.1 ≠ key) :
    (Instr.lookup T (.map (some b)) key true).run P w = .ok (.tuple #[z, .bool false]) w := by
  obtain ⟨v', ps, hr, hv⟩ := h.own.look_ok LK ht hz (show RV z = some (.held z, []) from rfl) hk.at
  have hh := putD_miss LK hk l h.keys hm
  rw [atKey_of_not_has hh] at hv
  simp [RV] at hv
  rw [hr, hv.1, hh]
end Go.Proofs.Ytmoekalagollhaa.Mp
