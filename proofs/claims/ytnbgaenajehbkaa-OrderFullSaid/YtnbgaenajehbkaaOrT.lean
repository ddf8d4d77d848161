/-
  PAIRS THE OTHER WAY ABOUT, and when pairs make an order.
-/
import Derived.Test.YtnbgaenajehbkaaOrR
namespace Go.Proofs.Ytnbgaenajehbkaa
set_option linter.unusedVariables false
set_option linter.unusedSimpArgs false

theorem nodup_le : ∀ {l m : List ByteArray}, l.Nodup → (∀ s ∈ l, s ∈ m) → l.length ≤ m.length
  | [], _, _, _ => Nat.zero_le _
  | a :: l, m, hd, hs => by
    obtain ⟨h1, h2⟩ := List.nodup_cons.1 hd
    have ha : a ∈ m := hs a (by simp)
    have := nodup_le (l := l) (m := m.filter fun x => decide (x ≠ a)) h2 (fun s h => List.mem_filter.2 ⟨hs s (by simp [h]), by simp; intro e; exact h1 (e ▸ h)⟩)
    have hlt : (m.filter fun x => decide (x ≠ a)).length < m.length := List.length_filter_lt_length_iff_exists.2 ⟨a, ha, by simp⟩
    simp only [List.length_cons]
    omega
theorem ident_size {s : ByteArray} (h : idB s = true) : s.size ≠ 0 := by
  intro e
  have : bts s = [] := List.eq_nil_of_length_eq_zero (by rw [bts_len, e])
  unfold idB at h
  rw [this] at h
  simp [identL] at h
theorem oBad_false {p : OPr} : oBad p = false ↔ idB p.1 = true ∧ (p.2.size = 0 ∨ idB p.2 = true) := by
  unfold oBad
  by_cases h : p.2.size = 0 <;> simp [h]
theorem add_one {o : Od} {p : OPr} (h : oBad p = true) : o.add p = (o, 1) := by unfold Od.add; rw [if_pos h]
/-- An error of add is 1 or 8. -/
theorem add_err {o : Od} {p : OPr} (h : (o.add p).2 ≠ 0) : (o.add p).2 = 1 ∨ (o.add p).2 = 8 := by
  unfold Od.add at h ⊢
  split
  · exact .inl rfl
  · rename_i c1
    rw [if_neg c1] at h
    split
    · exact .inr rfl
    · rename_i c2
      rw [if_neg c2] at h
      split
      · rename_i c3; rw [if_pos c3] at h; exact absurd rfl h
      · rename_i c3
        rw [if_neg c3] at h
        split
        · exact .inr rfl
        · rename_i c4; rw [if_neg c4] at h; exact absurd rfl h
theorem adds_err : ∀ {r : List OPr} {o : Od} {i : Nat}, (o.adds r i).2.2 ≠ 0 → (o.adds r i).2.2 = 1 ∨ (o.adds r i).2.2 = 8
  | [], _, _, h => absurd rfl h
  | p :: r, o, i, h => by
    unfold Od.adds at h ⊢
    by_cases e : (o.add p).2 = 0
    · rw [if_neg (fun h => h e)] at h ⊢
      exact adds_err h
    · rw [if_pos e]
      exact add_err e
theorem adds_good : ∀ {r : List OPr} {o : Od} {i : Nat}, (o.adds r i).2.2 = 0 → ∀ p ∈ r, oBad p = false
  | [], _, _, _, p, hp => by cases hp
  | q :: r, o, i, h, p, hp => by
    unfold Od.adds at h
    by_cases e : (o.add q).2 = 0
    · rw [if_neg (fun h => h e)] at h
      rcases List.mem_cons.1 hp with rfl | hp
      · cases hb : oBad p with
        | false => rfl
        | true => rw [add_one hb] at e; cases e
      · exact adds_good h p hp
    · rw [if_pos e] at h
      exact absurd h e
theorem adds_place : ∀ {r : List OPr} {o : Od} {i : Nat}, (o.adds r i).2.2 = 0 → (o.adds r i).2.1 = 0
  | [], _, _, _ => rfl
  | q :: r, o, i, h => by
    unfold Od.adds at h ⊢
    by_cases e : (o.add q).2 = 0
    · rw [if_neg (fun h => h e)] at h ⊢
      exact adds_place h
    · rw [if_pos e] at h
      exact absurd h e
theorem know_room {o : Od} (hw : o.Wf) {M : List ByteArray} (hM : M.length ≤ 64) (hsub : ∀ s ∈ o.ns, s ∈ M) {s : ByteArray} (hs : s ∈ M) : (o.know s).2 = true := by
  by_cases h : s ∈ o.ns
  · rw [Od.know_old h]
  · by_cases hl : o.ns.length = 64
    · have := nodup_le (l := s :: o.ns) (m := M) (List.nodup_cons.2 ⟨h, hw.nd⟩) (fun t ht => by
        rcases List.mem_cons.1 ht with rfl | ht
        · exact hs
        · exact hsub t ht)
      simp at this
      omega
    · rw [Od.know_new h hl]
theorem know_subM {o : Od} {M : List ByteArray} (hsub : ∀ s ∈ o.ns, s ∈ M) {s : ByteArray} (hs : s ∈ M) : ∀ t ∈ (o.know s).1.ns, t ∈ M := by
  intro t ht
  by_cases h : s ∈ o.ns
  · rw [Od.know_old h] at ht; exact hsub t ht
  · by_cases hl : o.ns.length = 64
    · rw [Od.know_full h hl] at ht; exact hsub t ht
    · rw [Od.know_new h hl] at ht
      rcases List.mem_append.1 ht with ht | ht
      · exact hsub t ht
      · rw [List.mem_singleton.1 ht]; exact hs
/-- Identifiers, at most 64: they make an order, or one that turns back. -/
theorem add_room {o : Od} (hw : o.Wf) {M : List ByteArray} (hM : M.length ≤ 64) (hsub : ∀ s ∈ o.ns, s ∈ M) {p : OPr} (hb : oBad p = false) (h1 : p.1 ∈ M) (h2 : p.2.size ≠ 0 → p.2 ∈ M) : (o.add p).2 = 0 ∧ ∀ s ∈ (o.add p).1.ns, s ∈ M := by
  unfold Od.add
  rw [if_neg (by rw [hb]; decide), if_neg (by rw [know_room hw hM hsub h1]; decide)]
  have s1 := know_subM hsub h1
  by_cases h0 : p.2.size = 0
  · rw [if_pos h0]
    exact ⟨rfl, s1⟩
  · rw [if_neg h0, if_neg (by rw [know_room (hw.know _) hM s1 (h2 h0)]; decide)]
    exact ⟨rfl, know_subM s1 (h2 h0)⟩
theorem adds_room {M : List ByteArray} (hM : M.length ≤ 64) : ∀ {r : List OPr} {o : Od} {i : Nat}, o.Wf → (∀ s ∈ o.ns, s ∈ M) → (∀ p ∈ r, oBad p = false) → (∀ s, Men r s → s ∈ M) → (o.adds r i).2.2 = 0
  | [], _, _, _, _, _, _ => rfl
  | p :: r, o, i, hw, hsub, hb, hm => by
    have := add_room hw hM hsub (hb p (by simp)) (hm _ ⟨p, by simp, .inl rfl⟩) (fun h0 => hm _ ⟨p, by simp, .inr ⟨h0, rfl⟩⟩)
    unfold Od.adds
    rw [if_neg (fun h => h this.1)]
    exact adds_room hM (hw.add p) this.2 (fun q hq => hb q (by simp [hq])) (fun s ⟨q, hq, h⟩ => hm s ⟨q, by simp [hq], h⟩)

/-! ### turned pairs -/
def oturn (p : OPr) : OPr := if p.2.size = 0 then p else (p.2, p.1)
section
variable {l : List OPr}
theorem oturn_men (h : ∀ p ∈ l, p.1.size ≠ 0) (s : ByteArray) : Men (l.map oturn) s ↔ Men l s := by
  unfold Men oturn
  constructor
  · rintro ⟨q, hq, hs⟩
    obtain ⟨p, hp, rfl⟩ := List.mem_map.1 hq
    refine ⟨p, hp, ?_⟩
    have := h p hp
    by_cases h0 : p.2.size = 0
    · rw [if_pos h0] at hs; exact hs
    · rw [if_neg h0] at hs
      rcases hs with hs | ⟨_, hs⟩
      · exact .inr ⟨h0, hs⟩
      · exact .inl hs
  · rintro ⟨p, hp, hs⟩
    refine ⟨_, List.mem_map.2 ⟨p, hp, rfl⟩, ?_⟩
    have := h p hp
    by_cases h0 : p.2.size = 0
    · rw [if_pos h0]; exact hs
    · rw [if_neg h0]
      rcases hs with hs | ⟨_, hs⟩
      · exact .inr ⟨this, hs⟩
      · exact .inl hs
theorem oturn_rch (h : ∀ p ∈ l, p.1.size ≠ 0) {s t : ByteArray} (hr : Rch (l.map oturn) s t) : Rch l t s := by
  induction hr with
  | refl => exact .refl _
  | step hq h2 _ ih =>
    obtain ⟨p, hp, rfl⟩ := List.mem_map.1 hq
    by_cases h0 : p.2.size = 0
    · unfold oturn at h2; rw [if_pos h0] at h2; exact absurd h0 h2
    · have e : oturn p = (p.2, p.1) := by unfold oturn; rw [if_neg h0]
      rw [e] at ih ⊢
      exact ih.trans (.edge hp h0)
theorem oturn_rch' (h : ∀ p ∈ l, p.1.size ≠ 0) {s t : ByteArray} (hr : Rch l s t) : Rch (l.map oturn) t s := by
  induction hr with
  | refl => exact .refl _
  | step hp h2 _ ih =>
    rename_i p b _
    have e : oturn p = (p.2, p.1) := by unfold oturn; rw [if_neg h2]
    have := Rch.edge (l := l.map oturn) (p := oturn p) (List.mem_map.2 ⟨p, hp, rfl⟩) (by rw [e]; exact h p hp)
    rw [e] at this
    exact ih.trans this
theorem oturn_two (h : ∀ p ∈ l, p.1.size ≠ 0) : (l.map oturn).map oturn = l := by
  rw [List.map_map]
  refine (List.map_congr_left fun p hp => ?_).trans (List.map_id _)
  show oturn (oturn p) = p
  by_cases h0 : p.2.size = 0
  · unfold oturn
    rw [if_pos h0, if_pos h0]
  · have e : oturn p = (p.2, p.1) := by unfold oturn; rw [if_neg h0]
    rw [e]
    unfold oturn
    rw [if_neg (h p hp)]
theorem oturn_ne (h : ∀ p ∈ l, p.1.size ≠ 0) : ∀ p ∈ l.map oturn, p.1.size ≠ 0 := by
  intro q hq
  obtain ⟨p, hp, rfl⟩ := List.mem_map.1 hq
  unfold oturn
  split
  · exact h p hp
  · rename_i h0; exact h0
theorem oturn_ok (h : ∀ p ∈ l, p.1.size ≠ 0) (ho : (Od.zero.adds l 0).2.2 = 0) : (Od.zero.adds (l.map oturn) 0).2.2 = 0 := by
  have hv := Oiv.adds Oiv.zero ho
  rw [List.nil_append] at hv
  refine adds_room hv.wf.len Od.Wf.zero (fun s hs => by cases hs) (fun q hq => ?_) (fun s hs => (hv.men s).2 ((oturn_men h s).1 hs))
  obtain ⟨p, hp, rfl⟩ := List.mem_map.1 hq
  have hg := oBad_false.1 (adds_good ho p hp)
  rw [oBad_false]
  unfold oturn
  by_cases h0 : p.2.size = 0
  · rw [if_pos h0]; exact hg
  · rw [if_neg h0]
    exact ⟨hg.2.resolve_left h0, .inr hg.1⟩
theorem oturn_iff (h : ∀ p ∈ l, p.1.size ≠ 0) : (Od.zero.adds l 0).2.2 = 0 ↔ (Od.zero.adds (l.map oturn) 0).2.2 = 0 :=
  ⟨oturn_ok h, fun k => by have := oturn_ok (oturn_ne h) k; rwa [oturn_two h] at this⟩
theorem bad_congr {o o' : Od} : ∀ {r r' : List OPr} {i : Nat}, r.length = r'.length → (∀ k (h : k < r.length) (h' : k < r'.length), (!(decide (r[k].2.size = 0)) && o.most (o.num r[k].2) (o.num r[k].1)) = (!(decide (r'[k].2.size = 0)) && o'.most (o'.num r'[k].2) (o'.num r'[k].1))) → o.bad r i = o'.bad r' i
  | [], [], _, _, _ => rfl
  | p :: r, q :: r', i, hl, h => by
    have h0 := h 0 (by simp) (by simp)
    simp only [List.getElem_cons_zero] at h0
    unfold Od.bad
    rw [h0, bad_congr (r := r) (r' := r') (by simpa using hl) (fun k h1 h2 => by
      have := h (k + 1) (by simpa using h1) (by simpa using h2)
      simpa only [List.getElem_cons_succ] using this)]
  | [], _ :: _, _, hl, _ => by cases hl
  | _ :: _, [], _, hl, _ => by cases hl
theorem oturn_bad (h : ∀ p ∈ l, p.1.size ≠ 0) (ho : (Od.zero.adds l 0).2.2 = 0) : (Od.zero.adds (l.map oturn) 0).1.fol.bad (l.map oturn) 0 = (Od.zero.adds l 0).1.fol.bad l 0 := by
  have hv := Oiv.adds Oiv.zero ho
  have hv' := Oiv.adds Oiv.zero (oturn_ok h ho)
  rw [List.nil_append] at hv hv'
  refine bad_congr (by simp) fun k h1 h2 => ?_
  have hp : l[k] ∈ l := List.getElem_mem _
  obtain ⟨p, hpe⟩ : ∃ p, l[k] = p := ⟨_, rfl⟩
  rw [List.getElem_map, hpe]
  rw [hpe] at hp
  have hn := h p hp
  by_cases h0 : p.2.size = 0
  · have e : oturn p = p := by unfold oturn; rw [if_pos h0]
    rw [e]
    simp [h0]
  · have e : oturn p = (p.2, p.1) := by unfold oturn; rw [if_neg h0]
    rw [e]
    have m1 : Men l p.1 := ⟨p, hp, .inl rfl⟩
    have m2 : Men l p.2 := ⟨p, hp, .inr ⟨h0, rfl⟩⟩
    have a := hv.most_num ((hv.men _).2 m2) ((hv.men _).2 m1)
    have b := hv'.most_num ((hv'.men _).2 ((oturn_men h _).2 m1)) ((hv'.men _).2 ((oturn_men h _).2 m2))
    have c : Rch (l.map oturn) p.1 p.2 ↔ Rch l p.2 p.1 := ⟨oturn_rch h, oturn_rch' h⟩
    have : (Od.zero.adds (l.map oturn) 0).1.fol.most ((Od.zero.adds (l.map oturn) 0).1.num p.1) ((Od.zero.adds (l.map oturn) 0).1.num p.2) = (Od.zero.adds l 0).1.fol.most ((Od.zero.adds l 0).1.num p.2) ((Od.zero.adds l 0).1.num p.1) := by
      rw [Bool.eq_iff_iff, b, c, a]
    simp [h0, hn]
    exact this
end

/-! ### what New says of both -/
theorem newO_err {l : List OPr} (h : (Od.zero.adds l 0).2.2 ≠ 0) : (newO l).1 = none ∧ ((newO l).2.2 = 1 ∨ (newO l).2.2 = 8) := by
  unfold newO
  rw [if_pos h]
  exact ⟨rfl, adds_err h⟩
theorem newO_good {l : List OPr} (h : (Od.zero.adds l 0).2.2 = 0) : (∃ k, (Od.zero.adds l 0).1.fol.bad l 0 = some k ∧ newO l = (none, k, 16)) ∨ ((Od.zero.adds l 0).1.fol.bad l 0 = none ∧ newO l = (some (Od.zero.adds l 0).1.fol, 0, 0)) := by
  unfold newO
  rw [if_neg (fun e => e h)]
  cases hb : (Od.zero.adds l 0).1.fol.bad l 0 with
  | some k => exact .inl ⟨k, rfl, rfl⟩
  | none => exact .inr ⟨rfl, rfl⟩
theorem newO_some {l : List OPr} {o : Od} (h : (newO l).1 = some o) : (Od.zero.adds l 0).2.2 = 0 ∧ newO l = (some o, 0, 0) ∧ o = (Od.zero.adds l 0).1.fol ∧ (Od.zero.adds l 0).1.fol.bad l 0 = none := by
  by_cases he : (Od.zero.adds l 0).2.2 = 0
  · rcases newO_good he with ⟨k, _, hn⟩ | ⟨hb, hn⟩
    · rw [hn] at h; cases h
    · rw [hn] at h
      have : (Od.zero.adds l 0).1.fol = o := Option.some.inj h
      exact ⟨he, by rw [hn, this], this.symm, hb⟩
  · rw [(newO_err he).1] at h; cases h
theorem newO_nat {l : List OPr} : (newO l).2.2 = 0 ↔ ∃ o, (newO l).1 = some o := by
  by_cases he : (Od.zero.adds l 0).2.2 = 0
  · rcases newO_good he with ⟨k, _, hn⟩ | ⟨hb, hn⟩
    · rw [hn]; simp
    · rw [hn]; simp
  · obtain ⟨h1, h2⟩ := newO_err he
    rw [h1]
    constructor
    · intro e; omega
    · rintro ⟨o, e⟩; cases e
theorem newO_left {l : List OPr} (h : ¬ ∀ p ∈ l, p.1.size ≠ 0) : (newO l).2.2 = 1 ∨ (newO l).2.2 = 8 := by
  refine (newO_err fun he => h fun p hp => ?_).2
  exact ident_size (oBad_false.1 (adds_good he p hp)).1
/-- All that OrderTurned asks. -/
theorem turned_both {l : List OPr} (h : ∀ p ∈ l, p.1.size ≠ 0) : ((newO l).2.2 = 0 ↔ (newO (l.map oturn)).2.2 = 0) ∧ ((newO l).2.2 = 16 → (newO (l.map oturn)).2.2 = 16 → (newO l).2.1 = (newO (l.map oturn)).2.1) := by
  by_cases he : (Od.zero.adds l 0).2.2 = 0
  · have he' := (oturn_iff h).1 he
    have hb := oturn_bad h he
    rcases newO_good he with ⟨k, hk, hn⟩ | ⟨hk, hn⟩
    · rcases newO_good he' with ⟨k', hk', hn'⟩ | ⟨hk', hn'⟩
      · rw [hb, hk] at hk'
        rw [hn, hn']
        exact ⟨by simp, fun _ _ => Option.some.inj hk'⟩
      · rw [hb, hk] at hk'; cases hk'
    · rcases newO_good he' with ⟨k', hk', hn'⟩ | ⟨hk', hn'⟩
      · rw [hb, hk] at hk'; cases hk'
      · rw [hn, hn']
        exact ⟨by simp, fun e => by cases e⟩
  · have he' : ¬ (Od.zero.adds (l.map oturn) 0).2.2 = 0 := fun e => he ((oturn_iff h).2 e)
    have a := (newO_err he).2
    have b := (newO_err he').2
    refine ⟨by omega, fun e => by omega⟩
theorem fol_ns (o : Od) : o.fol.ns = o.ns := rfl
theorem turned_same {l : List OPr} (h : ∀ p ∈ l, p.1.size ≠ 0) {x y : Od} (hx : (newO l).1 = some x) (hy : (newO (l.map oturn)).1 = some y) :
    x.ns.length = y.ns.length ∧ ∀ a b (ha : a < x.ns.length) (hb : b < x.ns.length), x.most a b = y.most (y.num x.ns[b]) (y.num x.ns[a]) := by
  obtain ⟨e1, _, rfl, _⟩ := newO_some hx
  obtain ⟨e2, _, rfl, _⟩ := newO_some hy
  have hv := Oiv.adds Oiv.zero e1
  have hv' := Oiv.adds Oiv.zero e2
  rw [List.nil_append] at hv hv'
  have hs : ∀ s, s ∈ (Od.zero.adds l 0).1.ns ↔ s ∈ (Od.zero.adds (l.map oturn) 0).1.ns := fun s => by rw [hv.men, hv'.men, oturn_men h]
  refine ⟨Nat.le_antisymm (nodup_le hv.wf.nd fun s hm => (hs s).1 hm) (nodup_le hv'.wf.nd fun s hm => (hs s).2 hm), fun a b ha hb => ?_⟩
  have ha' : a < (Od.zero.adds l 0).1.ns.length := ha
  have hb' : b < (Od.zero.adds l 0).1.ns.length := hb
  have ma : (Od.zero.adds l 0).1.ns[a] ∈ (Od.zero.adds (l.map oturn) 0).1.ns := (hs _).1 (List.getElem_mem _)
  have mb : (Od.zero.adds l 0).1.ns[b] ∈ (Od.zero.adds (l.map oturn) 0).1.ns := (hs _).1 (List.getElem_mem _)
  have r := hv'.most_num mb ma
  rw [Bool.eq_iff_iff]
  rw [hv.most a b]
  refine Iff.trans ?_ r.symm
  constructor
  · rintro ⟨_, _, hr⟩
    exact oturn_rch' h hr
  · intro hr
    exact ⟨ha', hb', oturn_rch h hr⟩
end Go.Proofs.Ytnbgaenajehbkaa
