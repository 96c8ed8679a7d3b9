/-
  A store's map gone through: what is still to come; a key's name.
-/
import Derived.Test.YtaekljpijnkjoaaDoorSt7
import Derived.Test.YtaekljpijnkjoaaDoorShelf
import Derived.Maps.RangeWalk
import Derived.Lib.ConvBytes
namespace Go.Proofs.YtaekljpijnkjoaaDoor.St
open Go.RowKit Go.Maps Go.Proofs.YtaekljpijnkjoaaDoor.Tx Go.ChangeMaps Go.MapKept Go.WideShapes
open Go.WideElems (Fit rg pl rd_key rd_val rg_of rd_mk)
set_option linter.unusedVariables false
set_option linter.unusedSimpArgs false
set_option maxRecDepth 100000

structure Rg (W : World) (b r : Nat) (l rest : List Pr) (cnt : Nat) : Prop where
  ex : ∃ n D left, W.ranges Tryd.prog 52 RV b r n D left cnt ∧ ∀ p ∈ l, ∀ kl, keyOf Tryd.prog 52 (keyV p.1) = some kl → (left kl = true ↔ p ∈ rest)
  fm : FM W b l
  sub : ∀ p ∈ rest, p ∈ l
  nd : Nd rest
theorem Rg.left {W : World} {b r : Nat} {l rest : List Pr} {cnt : Nat} (h : Rg W b r l rest cnt) : W.rangeLeft b r = cnt := by
  obtain ⟨n, D, left, hr, _⟩ := h.ex
  exact hr.left_eq
theorem Rg.lt {W : World} {b r : Nat} {l rest : List Pr} {cnt : Nat} (h : Rg W b r l rest cnt) : r < W.heap.size := by
  obtain ⟨n, D, left, hr, _⟩ := h.ex
  exact hr.lt
theorem Rg.kept {W W' : World} {b r : Nat} {l rest : List Pr} {cnt : Nat} (h : Rg W b r l rest cnt) {row : Option Nat} (hg : W.grownBy W' row) (hb : some b ≠ row) (hr : some r ≠ row) : Rg W' b r l rest cnt := by
  obtain ⟨n, D, left, h1, h2⟩ := h.ex
  exact ⟨⟨n, D, left, h1.kept hg hb hr, h2⟩, h.fm.kept hg hb, h.sub, h.nd⟩
theorem Rg.iter {W : World} {b r : Nat} {l rest : List Pr} {cnt : Nat} (h : Rg W b r l rest cnt) {k : Nat} {c : Array Value} {t : TypeId} {fr : Nat × Nat} (hk : W.heap[k]? = some (.cells c t fr)) : k ≠ r := by
  obtain ⟨n, D, left, h1, _⟩ := h.ex
  obtain ⟨_, _, _, _, _, _, _, _, _, hit, _⟩ := h1
  intro e
  rw [← e, hk] at hit
  cases hit
theorem FM.owns {w : World} {b : Nat} {l : List Pr} (h : FM w b l) : ∃ es c, w.heap[b]? = some (.map es c) ∧ Fit Tryd.prog 52 RV es c ∧ (es.toList.map kv).Perm (l.map encV) ∧ w.ownsMap Tryd.prog 52 RV b es.size (.map ((es.toList.map (rg Tryd.prog 52 RV)).foldr DataW.insert [])) := by
  obtain ⟨es, c, hb, F, hk⟩ := h.ex
  exact ⟨es, c, hb, F, hk, es, c, hb, F, Nat.le_refl _, rfl⟩
theorem FM.range {w : World} {b : Nat} {l : List Pr} (h : FM w b l) :
    ∃ w' cnt, (Instr.range 48 (.map (some b))).run Tryd.prog w = .ok (.pointer (some ⟨w.heap.size, 0, none⟩)) w' ∧ Rg w' b w.heap.size l l cnt ∧ w.grownBy w' none := by
  obtain ⟨es, c, hb, F, hk, hown⟩ := h.owns
  obtain ⟨w', hrun, hr, hg, _⟩ := hown.range LK Tryd.underlying48
  refine ⟨w', _, hrun, ⟨⟨_, _, _, hr, fun p hp kl hkl => ⟨fun _ => hp, fun _ => ?_⟩⟩, h.kept hg (by simp), fun p hp => hp, h.nd⟩, hg⟩
  have : encV p ∈ es.toList.map kv := hk.mem_iff.2 (List.mem_map.2 ⟨p, hp, rfl⟩)
  obtain ⟨x, hx, hxe⟩ := List.mem_map.1 this
  obtain ⟨y, hy⟩ := F.reads x hx
  have h1 := rd_key hy
  have e1 := congrArg Prod.fst hxe
  simp only [kv, encV] at e1
  rw [e1, hkl] at h1
  have e2 : (rg Tryd.prog 52 RV x).1 = kl := by rw [rg_of hy]; exact (Option.some.inj h1).symm
  exact List.any_eq_true.2 ⟨rg Tryd.prog 52 RV x, mem_sorted.2 (List.mem_map.2 ⟨x, hx, rfl⟩), by rw [e2]; exact WideAt.sameKey_self (LK.key hkl)⟩
theorem without_perm {l : List Pr} (hd : Nd l) {p : Pr} (hp : p ∈ l) : l.Perm (p :: without p.1 l) := by
  have key : ∀ (l : List Pr), Nd l → p ∈ l → l.Perm (p :: without p.1 l) := by
    intro l
    induction l with
    | nil => intro _ h; cases h
    | cons x l ih =>
      intro hn hm
      unfold Nd at hn
      rw [List.map_cons, List.nodup_cons] at hn
      rcases List.mem_cons.1 hm with e | hm1
      · subst e
        have : without p.1 (p :: l) = l := by
          unfold without
          rw [List.filter_cons, if_neg (by simp)]
          exact List.filter_eq_self.2 (fun q hq => by
            have : q.1 ≠ p.1 := fun e => hn.1 (List.mem_map.2 ⟨q, hq, e⟩)
            simpa using this)
        rw [this]
      · have hx : x.1 ≠ p.1 := fun e => hn.1 (List.mem_map.2 ⟨p, hm1, e.symm⟩)
        have : without p.1 (x :: l) = x :: without p.1 l := by
          unfold without
          rw [List.filter_cons, if_pos (by simpa using hx)]
        rw [this]
        exact ((ih hn.2 hm1).cons x).trans (List.Perm.swap _ _ _)
  exact key l hd hp
theorem Rg.next {W : World} {b r : Nat} {l rest : List Pr} {cnt : Nat} (h : Rg W b r l rest cnt) (ty : TypeId) :
    (rest = [] ∧ (Instr.next (.pointer (some ⟨r, 0, none⟩)) false ty).run Tryd.prog W = .ok (.tuple #[.bool false]) W) ∨
    ∃ p W' cnt', p ∈ rest ∧ (Instr.next (.pointer (some ⟨r, 0, none⟩)) false ty).run Tryd.prog W = .ok (.tuple #[.bool true, keyV p.1, fileV p.2]) W' ∧ Rg W' b r l (without p.1 rest) cnt' ∧ cnt' < cnt ∧ W.grownBy W' (some r) ∧ W'.heap.size = W.heap.size ∧
      (Instr.entry (.pointer (some ⟨r, 0, none⟩))).run Tryd.prog W' = .ok (.tuple #[keyV p.1, fileV p.2]) W' := by
  obtain ⟨n, D, left, hr, hl⟩ := h.ex
  obtain ⟨es, c, hb, F, hk, hown⟩ := h.fm.owns
  have hne := hr.ne
  rcases hr.next LK ty with ⟨_, h0, hrun⟩ | ⟨key, v, kl, y, W', cnt', hkey, hleft, hv, hat, hrun, hr', hlt, hg, hsz, hent⟩
  · refine .inl ⟨?_, hrun⟩
    cases rest with
    | nil => rfl
    | cons p rest =>
      obtain ⟨kl, hkl⟩ := isK (nm_len (h.fm.nms p (h.sub p (by simp))))
      have := (hl p (h.sub p (by simp)) kl hkl).2 (by simp)
      rw [h0] at this
      cases this
  · obtain ⟨es1, c1, hb1, F1, _, hD1⟩ := hr.owns
    rw [hb] at hb1
    cases hb1
    have hy : y = (.held v, []) := by simpa [RV] using hv.symm
    subst hy
    have hmem : ∃ x ∈ es.toList, x.key = key ∧ x.val = v := by
      rcases Maps.fit_look true LK Tryd.underlying48 (file_zero W) hb F hkey with ⟨_, _, hz⟩ | ⟨e0, y, hm, hke, _, hRv, hat', _⟩
      · have h1 := hz .nil
        rw [← hD1, hat .nil] at h1
        cases h1
      · have h1 := hat' .nil
        rw [← hD1, hat .nil] at h1
        have h2 : y = (.held e0.val, []) := by simpa [RV] using hRv.symm
        rw [h2] at h1
        simp only [DataW.held.injEq] at h1
        exact ⟨e0, hm, hke, h1.symm⟩
    obtain ⟨x, hx, hxk, hxv⟩ := hmem
    have : kv x ∈ l.map encV := hk.mem_iff.1 (List.mem_map.2 ⟨x, hx, rfl⟩)
    obtain ⟨p, hp, hpe⟩ := List.mem_map.1 this
    have e1 := congrArg Prod.fst hpe
    have e2 := congrArg Prod.snd hpe
    simp only [kv, encV] at e1 e2
    rw [hxk] at e1
    rw [hxv] at e2
    subst e1
    subst e2
    have hpr := (hl p hp kl hkey).1 hleft
    refine .inr ⟨p, W', cnt', hpr, hrun, ⟨⟨_, _, _, hr', fun q hq klq hklq => ?_⟩, h.fm.kept hg (fun e => hne (Option.some.inj e).symm), fun q hq => h.sub q (mem_without.1 hq).1, h.nd.without _⟩, hlt, hg, hsz, hent⟩
    have h1 := hl q hq klq hklq
    rw [mem_without, Bool.and_eq_true, h1]
    constructor
    · rintro ⟨a, b'⟩
      refine ⟨a, fun e => ?_⟩
      have : klq = kl := by
        have := hklq
        rw [e, hkey] at this
        exact (Option.some.inj this).symm
      subst this
      rw [WideAt.sameKey_self (LK.key hkey)] at b'
      cases b'
    · rintro ⟨a, b'⟩
      refine ⟨a, ?_⟩
      cases hs : klq.sameKey kl with
      | false => rfl
      | true =>
        exfalso
        have e := WideAt.sameKey_eq hs
        subst e
        exact b' (keyV_inj (h.fm.nms q hq) (h.fm.nms p hp) (LK.inj hklq hkey))
end Go.Proofs.YtaekljpijnkjoaaDoor.St
