/-
  SIXTY-FOUR ELEMENTS MAKE AN ORDER, one more doesn't.
-/
import Derived.Test.YthdfoahnkkkbmaaOrS
namespace Go.Proofs.Ythdfoahnkkkbmaa
set_option linter.unusedVariables false
set_option linter.unusedSimpArgs false

/-- The law's word of a number below 676. -/
def oword (i : Nat) : ByteArray := ⟨#[UInt8.ofNat (97 + i / 26), UInt8.ofNat (97 + i % 26)]⟩
def ofirst (up : Bool) (i : Nat) : OPr := if up = true ∧ 0 < i then (oword (i - 1), oword i) else (oword i, ⟨#[]⟩)
theorem oword_ident : ∀ i, i < 70 → idB (oword i) = true := by decide +kernel
theorem oword_inj : ∀ i, i < 70 → ∀ j, j < 70 → oword i = oword j → i = j := by decide +kernel
theorem owords_nodup : ∀ n, n ≤ 70 → ((List.range n).map oword).Nodup
  | 0, _ => List.nodup_nil
  | n + 1, h => by
    rw [List.range_succ, List.map_append, List.nodup_append]
    refine ⟨owords_nodup n (by omega), by simp, fun a ha b hb => ?_⟩
    obtain ⟨i, hi, rfl⟩ := List.mem_map.1 ha
    have hi := List.mem_range.1 hi
    simp at hb
    subst hb
    intro e
    have := oword_inj i (by omega) n (by omega) e
    omega
theorem oword_mem {n i : Nat} (hn : n ≤ 70) (hi : i < 70) : oword i ∈ (List.range n).map oword ↔ i < n := by
  constructor
  · intro h
    obtain ⟨j, hj, e⟩ := List.mem_map.1 h
    have hj := List.mem_range.1 hj
    have := oword_inj j (by omega) i hi e
    omega
  · intro h
    exact List.mem_map.2 ⟨i, List.mem_range.2 h, rfl⟩
theorem ofirst_good {up : Bool} {i : Nat} (hi : i < 70) : oBad (ofirst up i) = false := by
  rw [oBad_false]
  unfold ofirst
  split
  · exact ⟨oword_ident _ (by omega), .inr (oword_ident _ hi)⟩
  · exact ⟨oword_ident _ hi, .inl rfl⟩
theorem oword_size (i : Nat) : (oword i).size = 2 := rfl
theorem adds_cons {o : Od} {q : OPr} {r : List OPr} {i : Nat} (e : (o.add q).2 = 0) : o.adds (q :: r) i = (o.add q).1.adds r (i + 1) := by
  rw [Od.adds, if_neg (fun h => h e)]
theorem adds_cons_no {o : Od} {q : OPr} {r : List OPr} {i : Nat} (e : (o.add q).2 ≠ 0) : o.adds (q :: r) i = (o, i, (o.add q).2) := by
  rw [Od.adds, if_pos e]
theorem adds_app : ∀ {r : List OPr} {o : Od} {i : Nat} {s : List OPr}, (o.adds r i).2.2 = 0 → o.adds (r ++ s) i = (o.adds r i).1.adds s (i + r.length)
  | [], _, _, _, _ => rfl
  | q :: r, o, i, s, h => by
    by_cases e : (o.add q).2 = 0
    · rw [adds_cons e] at h ⊢
      rw [List.cons_append, adds_cons e, adds_app h, List.length_cons, show i + 1 + r.length = i + (r.length + 1) by omega]
    · rw [adds_cons_no e] at h
      exact absurd h e
theorem adds_snoc {r : List OPr} {o : Od} {i : Nat} {p : OPr} (h : (o.adds r i).2.2 = 0) : o.adds (r ++ [p]) i = (o.adds r i).1.adds [p] (i + r.length) := adds_app h
/-- The first k pairs, k at most 64: the names come in order. -/
theorem ofull (up : Bool) : ∀ k, k ≤ 64 → (Od.zero.adds ((List.range k).map (ofirst up)) 0).2.2 = 0 ∧ (Od.zero.adds ((List.range k).map (ofirst up)) 0).1.ns = (List.range k).map oword
  | 0, _ => ⟨rfl, rfl⟩
  | k + 1, hk => by
    obtain ⟨h1, h2⟩ := ofull up k (by omega)
    have hv := Oiv.adds Oiv.zero h1
    rw [List.nil_append] at hv
    rw [List.range_succ, List.map_append, List.map_append]
    show (Od.zero.adds ((List.range k).map (ofirst up) ++ [ofirst up k]) 0).2.2 = 0 ∧ (Od.zero.adds ((List.range k).map (ofirst up) ++ [ofirst up k]) 0).1.ns = (List.range k).map oword ++ [oword k]
    rw [adds_snoc h1]
    obtain ⟨q, hq⟩ : ∃ q, (Od.zero.adds ((List.range k).map (ofirst up)) 0).1 = q := ⟨_, rfl⟩
    rw [hq] at h2 hv ⊢
    have hl : q.ns.length = k := by rw [h2]; simp
    have hnew : oword k ∉ q.ns := by rw [h2, oword_mem (by omega) (by omega)]; omega
    have hadd : (q.add (ofirst up k)).2 = 0 ∧ (q.add (ofirst up k)).1.ns = q.ns ++ [oword k] := by
      unfold Od.add
      rw [if_neg (by rw [ofirst_good (by omega)]; decide)]
      by_cases hu : up = true ∧ 0 < k
      · have e : ofirst up k = (oword (k - 1), oword k) := by unfold ofirst; rw [if_pos hu]
        rw [e]
        have hold : oword (k - 1) ∈ q.ns := by rw [h2, oword_mem (by omega) (by omega)]; omega
        dsimp only
        rw [Od.know_old hold]
        rw [if_neg (by intro h; cases h), if_neg (by rw [oword_size]; decide), Od.know_new hnew (by omega), if_neg (by intro h; cases h)]
        exact ⟨rfl, rfl⟩
      · have e : ofirst up k = (oword k, ⟨#[]⟩) := by unfold ofirst; rw [if_neg hu]
        rw [e]
        dsimp only
        rw [Od.know_new hnew (by omega), if_neg (by intro h; cases h), if_pos (show (⟨#[]⟩ : ByteArray).size = 0 from rfl)]
        exact ⟨rfl, rfl⟩
    rw [adds_cons hadd.1]
    exact ⟨rfl, by show (q.add (ofirst up k)).1.ns = _; rw [hadd.2, h2]⟩
theorem ofull_more (up : Bool) : ∀ k, 64 < k → k ≤ 70 → (newO ((List.range k).map (ofirst up))).1 = none ∧ (newO ((List.range k).map (ofirst up))).2 = (64, 8) := by
  intro k h64 h70
  obtain ⟨h1, h2⟩ := ofull up 64 (Nat.le_refl _)
  have hv := Oiv.adds Oiv.zero h1
  rw [List.nil_append] at hv
  have hsplit : (List.range k).map (ofirst up) = (List.range 64).map (ofirst up) ++ ofirst up 64 :: ((List.range (k - 65)).map fun i => ofirst up (65 + i)) := by
    have e : k = 64 + (1 + (k - 65)) := by omega
    rw [e, List.range_add, List.map_append, List.map_map]
    congr 1
    rw [List.range_add, List.map_append]
    have e2 : 64 + (1 + (k - 65)) - 65 = k - 65 := by omega
    rw [e2]
    simp [List.map_map, Function.comp_def, Nat.add_assoc]
    intro a _
    rw [show 64 + (1 + a) = 65 + a by omega]
  have hadds : Od.zero.adds ((List.range k).map (ofirst up)) 0 = ((Od.zero.adds ((List.range 64).map (ofirst up)) 0).1, 64, 8) := by
    rw [hsplit, adds_app h1]
    obtain ⟨q, hq⟩ : ∃ q, (Od.zero.adds ((List.range 64).map (ofirst up)) 0).1 = q := ⟨_, rfl⟩
    rw [hq] at h2 hv ⊢
    have hl : q.ns.length = 64 := by rw [h2]; simp
    have hnew : oword 64 ∉ q.ns := by rw [h2, oword_mem (by omega) (by omega)]; omega
    have hadd : q.add (ofirst up 64) = (q, 8) := by
      unfold Od.add
      rw [if_neg (by rw [ofirst_good (by omega)]; decide)]
      by_cases hu : up = true ∧ 0 < 64
      · have e : ofirst up 64 = (oword 63, oword 64) := by unfold ofirst; rw [if_pos hu]
        rw [e]
        have hold : oword 63 ∈ q.ns := by rw [h2, oword_mem (by omega) (by omega)]; omega
        dsimp only
        rw [Od.know_old hold]
        rw [if_neg (by intro h; cases h), if_neg (by rw [oword_size]; decide), Od.know_full hnew hl, if_pos rfl]
      · have e : ofirst up 64 = (oword 64, ⟨#[]⟩) := by unfold ofirst; rw [if_neg hu]
        rw [e]
        dsimp only
        rw [Od.know_full hnew hl, if_pos rfl]
    rw [adds_cons_no (by rw [hadd]; show (8 : Nat) ≠ 0; decide), hadd]
    simp
  unfold newO
  rw [hadds]
  exact ⟨rfl, rfl⟩
/-- Along a chain numbers rise. -/
theorem orank {up : Bool} {k : Nat} (hk : k ≤ 70) {a b : ByteArray} (h : Rch ((List.range k).map (ofirst up)) a b) : a = b ∨ (up = true ∧ ∃ i j, i < j ∧ j < k ∧ a = oword i ∧ b = oword j) := by
  induction h with
  | refl => exact .inl rfl
  | step hp h2 _ ih =>
    obtain ⟨i, hi, rfl⟩ := List.mem_map.1 hp
    have hi := List.mem_range.1 hi
    by_cases hu : up = true ∧ 0 < i
    · have e : ofirst up i = (oword (i - 1), oword i) := by unfold ofirst; rw [if_pos hu]
      rw [e] at ih ⊢
      refine .inr ⟨hu.1, ?_⟩
      rcases ih with e2 | ⟨_, i', j', h1, h2, e1, e2⟩
      · exact ⟨i - 1, i, by omega, hi, rfl, e2.symm⟩
      · have : i = i' := oword_inj i (by omega) i' (by omega) e1
        exact ⟨i - 1, j', by omega, h2, rfl, e2⟩
    · have e : ofirst up i = (oword i, ⟨#[]⟩) := by unfold ofirst; rw [if_neg hu]
      rw [e] at h2
      exact absurd rfl h2
theorem ochain {k : Nat} (hk : k ≤ 70) : ∀ (d i : Nat), i + d < k → Rch ((List.range k).map (ofirst true)) (oword i) (oword (i + d))
  | 0, i, _ => .refl _
  | d + 1, i, h => by
    have hp : ofirst true (i + 1) ∈ (List.range k).map (ofirst true) := List.mem_map.2 ⟨i + 1, List.mem_range.2 (by omega), rfl⟩
    have e : ofirst true (i + 1) = (oword i, oword (i + 1)) := by unfold ofirst; rw [if_pos ⟨rfl, by omega⟩]; rfl
    have := Rch.step hp (by rw [e]; exact (by rw [oword_size]; decide)) (by rw [e]; exact ochain hk d (i + 1) (by omega))
    rw [e] at this
    rw [show i + (d + 1) = i + 1 + d by omega]
    exact this
theorem bad_nos {o : Od} : ∀ {r : List OPr} {i : Nat}, (∀ p ∈ r, p.2.size ≠ 0 → o.most (o.num p.2) (o.num p.1) = false) → o.bad r i = none
  | [], _, _ => rfl
  | q :: r, i, h => by
    unfold Od.bad
    rw [if_neg, bad_nos (fun p hp => h p (by simp [hp]))]
    by_cases h0 : q.2.size = 0
    · simp [h0]
    · rw [h q (by simp) h0]; simp
/-- Up to 64: an order of so many, the first at most the last just if they are chained, or one. -/
theorem ofull_some (up : Bool) {k : Nat} (hk : k ≤ 64) : ∃ o, (newO ((List.range k).map (ofirst up))).1 = some o ∧ o.ns.length = k ∧ (0 < k → o.most 0 (k - 1) = (up || decide (k = 1))) := by
  obtain ⟨h1, h2⟩ := ofull up k hk
  have hv := Oiv.adds Oiv.zero h1
  rw [List.nil_append] at hv
  obtain ⟨q, hq⟩ : ∃ q, (Od.zero.adds ((List.range k).map (ofirst up)) 0).1 = q := ⟨_, rfl⟩
  have hb : q.fol.bad ((List.range k).map (ofirst up)) 0 = none := by
    rw [hq] at hv h2
    refine bad_nos fun p hp h0 => ?_
    have m1 : p.1 ∈ q.ns := (hv.men _).2 ⟨p, hp, .inl rfl⟩
    have m2 : p.2 ∈ q.ns := (hv.men _).2 ⟨p, hp, .inr ⟨h0, rfl⟩⟩
    have hm := hv.most_num m2 m1
    cases hx : q.fol.most (q.fol.num p.2) (q.fol.num p.1) with
    | false => rfl
    | true =>
      have hr := hm.1 hx
      obtain ⟨i, hi, rfl⟩ := List.mem_map.1 hp
      have hi := List.mem_range.1 hi
      by_cases hu : up = true ∧ 0 < i
      · have e : ofirst up i = (oword (i - 1), oword i) := by unfold ofirst; rw [if_pos hu]
        rw [e] at hr
        rcases orank (by omega) hr with e2 | ⟨_, a, b, h1, h2, e1, e2⟩
        · have := oword_inj i (by omega) (i - 1) (by omega) e2
          omega
        · have a1 := oword_inj i (by omega) a (by omega) e1
          have a2 := oword_inj (i - 1) (by omega) b (by omega) e2
          omega
      · have e : ofirst up i = (oword i, ⟨#[]⟩) := by unfold ofirst; rw [if_neg hu]
        rw [e] at h0
        exact absurd rfl h0
  rcases newO_good h1 with ⟨j, hj, _⟩ | ⟨_, hn⟩
  · rw [hq, hb] at hj; cases hj
  · refine ⟨_, by rw [hn], ?_, fun h0 => ?_⟩
    · show (Od.zero.adds ((List.range k).map (ofirst up)) 0).1.ns.length = k
      rw [h2]; simp
    · rw [Bool.eq_iff_iff, hv.most 0 (k - 1)]
      have g : ∀ i (hi : i < (Od.zero.adds ((List.range k).map (ofirst up)) 0).1.ns.length), (Od.zero.adds ((List.range k).map (ofirst up)) 0).1.ns[i] = oword i := fun i hi => by
        simp only [h2]
        simp
      have hl : (Od.zero.adds ((List.range k).map (ofirst up)) 0).1.ns.length = k := by rw [h2]; simp
      constructor
      · rintro ⟨ha, hb', hr⟩
        rw [g, g] at hr
        rcases orank (by omega) hr with e | ⟨hu, _⟩
        · have := oword_inj 0 (by omega) (k - 1) (by omega) e
          have : k = 1 := by omega
          simp [this]
        · simp [hu]
      · intro h
        refine ⟨by omega, by omega, ?_⟩
        rw [g, g]
        by_cases h1 : k = 1
        · subst h1; exact .refl _
        · have hu : up = true := by simpa [h1] using h
          subst hu
          have := ochain (k := k) (by omega) (k - 1) 0 (by omega)
          rwa [Nat.zero_add] at this
end Go.Proofs.Ythdfoahnkkkbmaa
