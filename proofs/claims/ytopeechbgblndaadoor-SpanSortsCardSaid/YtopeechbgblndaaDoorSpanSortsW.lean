/-
  blazonlaw07.SpanSorts is true for every input: edits in any order are sorted as the document says, and stay themselves.
  Conditions: none beyond the statement's own (package-level variables start as the program's text lays them).
-/
import Derived.Test.YtopeechbgblndaaDoorSoS
import Derived.Test.YtopeechbgblndaaDoorSpW
import Derived.Test.YtopeechbgblndaaDoorSpS
import Derived.Test.YtopeechbgblndaaDoorSpG
import Derived.Test.YtopeechbgblndaaDoorSpO
namespace Go.Proofs.YtopeechbgblndaaDoor
set_option linter.unusedVariables false
set_option linter.unusedSimpArgs false
open Go.RowKit

section
variable {P : Program} {ops : Array Oper} {rest : List Oper} {o : Oper} {a : Act} {Q : Exit → Act → World → Prop}
/-- 'out = append(out, xs...)': out the call's own; xs shown, elements of any size; where the row lies behind it. -/
theorem wp_more_e {K : Act → World → Prop} (s x : Operand) (t : TypeId) (ho : o.op = .call { callee := .builtin .append, args := #[s, x], argTypes := #[t, t] })
    {e : TypeId} {size bytes : Nat} (hT : RowT P t e size bytes) (w : World) (B : Nat) (v : Value) (n : Nat) (xs us : List Value) (hs : a.eval s = v) (hown : Own w B e size v n xs)
    (A : Option Addr) (m c : Nat) (hx : a.eval x = .slice A m c) (hl : us.length = m * size) (hsh : 0 < m → ∃ b off, A = some ⟨b, off, none⟩ ∧ ∀ k u, us[k]? = some u → w.cell? ⟨b, off + k, none⟩ = some u) (h1 : ∀ u ∈ us, u.oneCell' = true)
    (hlen : n + m ≤ 1099511627776) (hby : bytes ≤ 64)
    (h : ∀ v' w', Own w' B e size v' (n + m) (xs ++ us) → w.grownBy w' v.ownBlock → K (a.put o.dst v') w') :
    o.wp P a w K Q := by
  obtain ⟨ht, i, z, hi, hz, hsize, hbytes, hzs, hpos⟩ := hT
  have hbb : (n + m) * bytes ≤ 140737488355328 := Nat.le_trans (Nat.mul_le_mul hlen hby) (by decide)
  have hful : ∀ ad : Addr, (∀ k u, us[k]? = some u → w.cell? (ad.add k) = some u) → a.eval x = .slice (some ad) m c → o.wp P a w K Q := by
    intro ad hc hx'
    refine wp_append_own _ s x t ho B e i z size bytes ht hi hz hsize hbytes hzs hpos v n xs hs hown.1 ad m c us hx' hl hc h1
      (by unfold maxLen; omega) hbb hown.2 ?_
    intro v' w' ho' hg' _
    exact h v' w' ⟨ho', Nat.le_trans hown.2 hg'.size⟩ hg'
  rcases Nat.eq_zero_or_pos m with h0 | h0
  · subst h0
    have hn : us = [] := List.eq_nil_of_length_eq_zero (by omega)
    subst hn
    rcases A with _ | ad
    · have hrun : (Builtin.append_ #[t, t] o.type #[v, .slice none 0 c]).run P w = .ok v w := by
        rcases hown.1.2 with ⟨rfl, rfl⟩ | ⟨g, cap, cur, rfl, _, _, hnc, _⟩
        · simp [Builtin.append_, run_underlying ht, sizeOf, typeInfo, hi, Builtin.lenOf, Builtin.firstCells]
        · simp [Builtin.append_, run_underlying ht, sizeOf, typeInfo, hi, Builtin.lenOf, Builtin.firstCells, hnc, storeCells]
      unfold Oper.wp
      simp [execOp, ho, resolve, invoke, builtin, hs, hx, hrun, Result.andThen]
      exact h v w (by simpa using hown) ⟨rfl, rfl, rfl, Nat.le_refl _, fun _ _ _ => rfl⟩
    · exact hful ad (by simp) hx
  · obtain ⟨b, off, rfl, hc⟩ := hsh h0
    refine hful ⟨b, off, none⟩ (fun k u hu => ?_) hx
    rw [Addr.add_lit]
    exact hc k u hu
theorem wpList_more_e (hgd : Region.wanted o (yielded ops a.tmps) = true) (s x : Operand) (t : TypeId) (ho : o.op = .call { callee := .builtin .append, args := #[s, x], argTypes := #[t, t] })
    {e : TypeId} {size bytes : Nat} (hT : RowT P t e size bytes) (w : World) (B : Nat) (v : Value) (n : Nat) (xs us : List Value) (hs : a.eval s = v) (hown : Own w B e size v n xs)
    (A : Option Addr) (m c : Nat) (hx : a.eval x = .slice A m c) (hl : us.length = m * size) (hsh : 0 < m → ∃ b off, A = some ⟨b, off, none⟩ ∧ ∀ k u, us[k]? = some u → w.cell? ⟨b, off + k, none⟩ = some u) (h1 : ∀ u ∈ us, u.oneCell' = true)
    (hlen : n + m ≤ 1099511627776) (hby : bytes ≤ 64)
    (h : ∀ v' w', Own w' B e size v' (n + m) (xs ++ us) → w.grownBy w' v.ownBlock → wpList P ops Q rest (a.put o.dst v') w') :
    wpList P ops Q (o :: rest) a w :=
  wpList_wanted hgd fun _ hK => wp_more_e s x t ho hT w B v n xs us hs hown A m c hx hl hsh h1 hlen hby fun v' w' h2 h3 => hK _ _ (h v' w' h2 h3)
end
theorem ecs_one (L : List Ed) : ∀ u ∈ ecs L, u.oneCell' = true := fun u hu => by
  obtain ⟨t, _, ht⟩ := List.mem_flatMap.1 hu
  exact ecell_one t u ht
theorem take_snocE' (L : List Ed) (k : Nat) (t : Ed) (h : L[k]? = some t) : L.take (k + 1) = L.take k ++ [t] := by
  obtain ⟨hlt, rfl⟩ := List.getElem?_eq_some_iff.1 h
  rw [List.take_succ_eq_append_getElem hlt]
theorem OwnformA {w : World} {B n c size : Nat} {e : TypeId} {A : Option Addr} {xs : List Value} (h : Own w B e size (.slice A n c) n xs) : c = 0 ∨ ∃ b off, A = some ⟨b, off, none⟩ := by
  rcases h.1.2 with ⟨h1, _⟩ | ⟨g, cap, cur, h1, _⟩
  · injection h1 with _ _ h1
    exact .inl h1
  · injection h1 with h1 _ _
    exact .inr ⟨g, 0, h1⟩
theorem ecs_app (A B : List Ed) : ecs (A ++ B) = ecs A ++ ecs B := by simp [ecs]

theorem spanSorts_great (P : Option Addr) (m d : Nat) (L : List Ed) (w : World) (hx : ShE w w.heap.size P m L) (hm : m ≤ maxLen) (hs : ∀ x ∈ L, x.2.2.length ≤ maxLen) (hg : greatB L = true) :
    Calls Tryd.prog 6 #[.slice P m d] w fun e w' => e = .returned (.bool true) ∧ Below w.heap.size w w' := by
  have HG := great_any P m d L w hx hm hs
  rw [hg] at HG
  have HG := Lib.hid HG
  clear hg hs hx
  go_enter Tryd.func6, Tryd.ntmps6
  go_wp2_with (first
    | (go_at_call 8; refine HG.out.mono ?_; rintro e w1 ⟨rfl, rfl⟩)
    | (go_at_call 9; refine (awake_any _).mono ?_; rintro e w1 ⟨rfl, b1⟩)
    | fail)
  go_ret
  exact ⟨rfl, b1⟩

set_option maxRecDepth 10000 in
set_option maxHeartbeats 4000000 in
theorem spanSorts_small (P : Option Addr) (m d : Nat) (L : List Ed) (w : World) (hx : ShE w w.heap.size P m L) (hm : m ≤ maxLen) (hg : greatB L = false) :
    Calls Tryd.prog 6 #[.slice P m d] w fun e w' => e = .returned (.bool true) ∧ Below w.heap.size w w' := by
  have hl : L.length = m := hx.1
  obtain ⟨hL6, hs⟩ := great_no hg
  have HG := great_any P m d L w hx hm (fun x hx => Nat.le_trans (hs x hx) (by decide))
  rw [hg] at HG
  have HG := Lib.hid HG
  have hm6 : m ≤ 600 := by omega
  have HL := Lib.hid hl
  have HX := Lib.hid (fun w' (b : Below w.heap.size w w') => hx.up b (Nat.le_refl _))
  have HEC : Hid (0 < m → ∃ b off, P = some ⟨b, off, none⟩ ∧ ∀ k u, (ecs L)[k]? = some u → (w.alloc (.cells #[] 38)).cell? ⟨b, off + k, none⟩ = some u) := Lib.hid fun h0 => by
    obtain ⟨b, off, e, hb, _⟩ := hx.2 h0
    exact ⟨b, off, e, fun k u hu => (World.cell?_alloc_past _ _ _ hb).trans (hx.cells e k u hu)⟩
  have HLE : Hid ((ecs L).length = m * 3) := Lib.hid (by rw [ecs_len, hl])
  clear hg hs hx hL6 hl hm
  go_enter Tryd.func6, Tryd.ntmps6
  go_wp2_with (first
    | (go_at_call 8; refine HG.out.mono ?_; rintro e w1 ⟨rfl, rfl⟩)
    | (at_builtin; refine wpList_more_e rfl (.tmp 12) (.tmp 13) 23 rfl rowEd (w.alloc (.cells #[] 38)) w.heap.size (.slice (some ⟨w.heap.size, 0, none⟩) 0 0) 0 [] (ecs L) rfl (Own.empty w w.heap.size 38 3 (Nat.le_refl _)) P m d rfl HLE.out HEC.out (ecs_one L) (by omega) (by omega) ?_; intro v1 w1 ho1 hg1)
    | fail)
  have ho1 := ho1.cast (Nat.zero_add _) (List.nil_append _)
  have hB1 : Below w.heap.size w w1 := ((Below.refl w.heap.size w).alloc (Nat.le_refl _) _).grown hg1 (by simp) (fun q hq => by
    have : w.heap.size = q := by simpa [Value.ownBlock] using hq
    omega)
  obtain ⟨A1, c1, rfl⟩ := ho1.form
  have hA1 : (A1 = none ∧ m = 0) ∨ ∃ b off, A1 = some ⟨b, off, none⟩ := by
    rcases ho1.1.2 with ⟨e, e2⟩ | ⟨g', cap', cur, e, _⟩
    · injection e with e e3 _; exact .inl ⟨e, e3⟩
    · injection e with e _ _; exact .inr ⟨g', 0, e⟩
  have HA1 := Lib.hid hA1
  have S1 := Lib.hid (ho1.ed (by rw [HL.out]))
  have B1 := Lib.hid hB1
  clear ho1 hg1 hB1 hA1
  go_wp2_with fail
  refine (sort_own A1 m c1 L w1 S1.out hm6 HA1.out).mono ?_
  rintro e w2 ⟨A2, c2, K, rfl, h2, k1, k2, b2⟩
  rw [HL.out] at h2 ⊢
  have B2 := Lib.hid (B1.out.trans (b2.mono B1.out.size))
  have S2 := Lib.hid ((S1.out.up b2 (Nat.le_refl _)).more b2.size)
  have K2 := Lib.hid h2
  have HK1 := Lib.hid k1
  have HK2 := Lib.hid k2
  clear h2 k1 k2 b2
  go_wp2
  go_loopw [5, 6, 7, 8] (fun v5 v6 v7 v8 wr => ∃ (v : Value) (i : Nat) (W : List Ed), v = v5 ∧ v6 = .int .i64 (i : Int) ∧ i ≤ m ∧ Own wr w2.heap.size 38 3 v i (ecs W) ∧ Hid (W.length = i ∧ Srt W ∧ Fl W (L.take i)) ∧ Below w2.heap.size w2 wr) (fun _ v6 _ _ _ => m - (intOf v6).toNat)
  case atStart => exact ⟨_, 0, [], rfl, rfl, Nat.zero_le _, Own.nil _ _ _ _ (Nat.le_refl _), Lib.hid ⟨rfl, List.Pairwise.nil, Fl.refl _⟩, Below.refl _ _⟩
  case round =>
    obtain ⟨v, i, W, rfl, rfl, hi, ho, HW, hb⟩ := hrel
    obtain ⟨AW, cW, rfl⟩ := ho.form
    have hcap := ho.cap
    have HO := Lib.hid ho
    have HFA := Lib.hid (OwnformA ho)
    have HB := Lib.hid hb
    have hge := ho.2
    have SW5 := Lib.hid (ho.ed HW.out.1)
    have BW := Lib.hid (B2.out.trans (hb.mono B2.out.size))
    clear ho hb
    by_cases hlt : i < m
    · obtain ⟨bl, ol, x, rfl, hbl, hx, c0, c1', c2'⟩ := (HX.out wr BW.out).at hlt
      have HXX := Lib.hid hx
      have hblr : bl < wr.heap.size := by have := BW.out.size; omega
      clear hx
      obtain ⟨hc1, hc2⟩ := hcap
      unfold maxLen at hc2
      go_wp2
      obtain ⟨wa, hwa⟩ : ∃ wa, wa = wr := ⟨_, rfl⟩
      rw [← hwa] at HO HB hge SW5 BW c0 c1' c2' hblr ⊢
      clear hwa
      go_loopw [7] (fun v7 wq => ∃ k : Nat, v7 = .int .i64 (k : Int) ∧ k ≤ i ∧ (∀ t y, k ≤ t → W[t]? = some y → x.1 < y.1) ∧ Quiet wa wq) (fun v7 _ => (intOf v7).toNat)
      case atStart => exact ⟨i, rfl, Nat.le_refl _, (fun t y h hy => by have := (List.getElem?_eq_some_iff.1 hy).1; have := HW.out.1; omega), Quiet.refl _⟩
      case round =>
        obtain ⟨k, rfl, hk, hgt, q, rfl⟩ := hrel
        have HGT := Lib.hid hgt
        clear hgt
        have hex : (∃ s y, k = s + 1 ∧ W[s]? = some y ∧ x.1 < y.1) ∨ (k = 0 ∨ ∃ s y, k = s + 1 ∧ W[s]? = some y ∧ ¬ x.1 < y.1) := by
          rcases Nat.eq_zero_or_pos k with h0 | h0
          · exact .inr (.inl h0)
          · obtain ⟨y, hy⟩ : ∃ y, W[k - 1]? = some y := ⟨_, List.getElem?_eq_getElem (by have := HW.out.1; omega)⟩
            by_cases h : x.1 < y.1
            · exact .inl ⟨k - 1, y, by omega, hy, h⟩
            · exact .inr (.inr ⟨k - 1, y, by omega, hy, h⟩)
        rcases hex with ⟨s, y, hks, hy, hxy⟩ | hstop
        · obtain ⟨bw, ow, y', rfl, hbw, hy', d0, d1, d2⟩ := SW5.out.at (show s < i by omega)
          rw [hy] at hy'
          cases hy'
          have HY := Lib.hid hy
          have t1 : (0 : Int) < (k : Int) := by omega
          have t1' : 0 < k := by omega
          have t1'' : decide (0 < k) = true := decide_eq_true t1'
          have t1a : decide ((0 : Int) < (k : Int)) = true := decide_eq_true t1
          have t2 : IntKind.i64.wrap ((k : Int) - 1) = (s : Int) := (IntWalk.i64_in _ (by omega)).trans (by omega)
          have t3 : (k : Int) - 1 = (s : Int) := by omega
          have t4 : (s : Int) < (i : Int) := by omega
          have t5 : (i : Int) < (m : Int) := by omega
          have HKS := Lib.hid hks
          clear hy hks
          go_wp2
          go_quiet (fail)
          go_wp2
          go_roundw
          case rel =>
            refine ⟨s, rfl, by omega, fun t z ht hz => ?_, Quiet.one _ _⟩
            rcases Nat.eq_or_lt_of_le ht with e | e
            · subst e
              have := HY.out
              rw [this] at hz
              cases hz
              exact hxy
            · exact HGT.out t z (by have := HKS.out; omega) hz
          case measure => simp [intOf]; have := HKS.out; omega
        · -- STOP
          have HSTOP : Hid (∀ t y, t < k → W[t]? = some y → y.1 ≤ x.1) := Lib.hid fun t z ht hz => by
            rcases hstop with h0 | ⟨s, y, hks, hy, hxy⟩
            · omega
            · have := srt_get HW.out.2.1 hz hy (by omega)
              omega
          have HFIN : Hid ((W.take k ++ x :: W.drop k).length = i + 1 ∧ Srt (W.take k ++ x :: W.drop k) ∧ Fl (W.take k ++ x :: W.drop k) (L.take (i + 1))) := Lib.hid (by
            obtain ⟨w1', w2', w3'⟩ := HW.out
            have hs := w2'
            rw [← List.take_append_drop k W] at hs
            refine ⟨?_, srt_insert hs (fun v hv => ?_) (fun v hv => ?_), ?_⟩
            · rw [List.length_append, List.length_cons, List.length_take, List.length_drop]; omega
            · obtain ⟨t, ht, hz⟩ := mem_take hv
              exact HSTOP.out t v ht hz
            · obtain ⟨t, ht, hz⟩ := mem_drop hv
              exact Int.le_of_lt (HGT.out t v ht hz)
            · rw [take_snocE' L i x HXX.out]
              refine Fl.trans ?_ (w3'.app (Fl.refl [x]))
              have e1 : W.take k ++ x :: W.drop k = W.take k ++ ([x] ++ W.drop k) := by simp
              have e2 : W ++ [x] = W.take k ++ (W.drop k ++ [x]) := by rw [← List.append_assoc, List.take_append_drop]
              rw [e1, e2]
              refine Fl.left (Fl.swap fun u hu v hv => ?_)
              obtain ⟨t, ht, hz⟩ := mem_drop hv
              have := HGT.out t v ht hz
              rw [List.mem_singleton.1 hu]
              omega)
          have HT1 : Hid ((ecs (W.take k)).length = k * 3) := Lib.hid (by rw [ecs_len, List.length_take]; have := HW.out.1; rw [Nat.min_eq_left (by omega)])
          have HT5 : Hid ((ecs (W.drop k)).length = (i - k) * 3) := Lib.hid (by rw [ecs_len, List.length_drop, HW.out.1])
          have HC0' := Lib.hid c0
          have HC1' := Lib.hid c1'
          have HC2' := Lib.hid c2'
          have HTA : Hid (∀ wz, Quiet wa wz → (0 < k → ∃ b off, AW = some ⟨b, off, none⟩ ∧ ∀ j u, (ecs (W.take k))[j]? = some u → (wz.alloc (.cells #[] 38)).cell? ⟨b, off + j, none⟩ = some u)) := Lib.hid fun wz hq h0 => by
            obtain ⟨b, off, e, hbb, _⟩ := SW5.out.2 (by omega)
            refine ⟨b, off, e, fun j u hu => ?_⟩
            have h2 : (ecs W)[j]? = some u := by
              have : ecs W = ecs (W.take k) ++ ecs (W.drop k) := by rw [← ecs_app, List.take_append_drop]
              rw [this, List.getElem?_append_left (List.getElem?_eq_some_iff.1 hu).1]
              exact hu
            have h3 := SW5.out.cells e j u h2
            rw [World.cell?_alloc_past _ _ _ (by rw [hq.size]; exact hbb)]
            exact ((hq.below wa.heap.size).cell (p := ⟨b, _, none⟩) hbb).trans h3
          have HTB : Hid (∀ wz, Quiet wa wz → ∀ w', Below wz.heap.size wz w' → ∀ T : Option Addr, (∀ b off, AW = some ⟨b, off, none⟩ → k < i → T = some ⟨b, off + k * 3, none⟩) → (0 < i - k → ∃ b off, T = some ⟨b, off, none⟩ ∧ ∀ j u, (ecs (W.drop k))[j]? = some u → w'.cell? ⟨b, off + j, none⟩ = some u)) := Lib.hid fun wz hq w' hbw T hT h0 => by
            obtain ⟨b, off, e, hbb, _⟩ := SW5.out.2 (by omega)
            refine ⟨b, off + k * 3, hT b off e (by omega), fun j u hu => ?_⟩
            have h2 : (ecs W)[k * 3 + j]? = some u := by
              have : ecs W = ecs (W.take k) ++ ecs (W.drop k) := by rw [← ecs_app, List.take_append_drop]
              rw [this, List.getElem?_append_right (by rw [HT1.out]; omega), HT1.out, Nat.add_sub_cancel_left]
              exact hu
            have h3 := SW5.out.cells e _ u h2
            rw [Nat.add_assoc]
            exact (hbw.cell (p := ⟨b, _, none⟩) (by rw [hq.size]; exact hbb)).trans (((hq.below wa.heap.size).cell (p := ⟨b, _, none⟩) hbb).trans h3)
          rcases hstop with h0 | ⟨s, y, hks, hy, hxy⟩
          · have t1 : ¬ (0 : Int) < (k : Int) := by omega
            have t1' : ¬ 0 < k := by omega
            have t1'' : decide (0 < k) = false := decide_eq_false t1'
            have t1a : decide ((0 : Int) < (k : Int)) = false := decide_eq_false t1
            have H0 := Lib.hid h0
            clear h0
            go_wp2
            go_quiet (fail)
            clear t1 t1' t1'' t1a
            have HQZ0 : Quiet wa ((wa.drewN q).drewN nq) := Quiet.two _ _ _
            try rw [World.drewN_drewN]
            try rw [World.drewN_drewN] at HQZ0
            obtain ⟨wz, hwz⟩ : ∃ wz, wa.drewN (q + nq) = wz := ⟨_, rfl⟩
            rw [hwz] at HQZ0 ⊢
            have HQZ := Lib.hid HQZ0
            have HT2 := Lib.hid (HTA.out wz HQZ0)
            have HT3 : Hid (∀ w', Below wz.heap.size wz w' → ∀ T : Option Addr, (∀ b off, AW = some ⟨b, off, none⟩ → k < i → T = some ⟨b, off + k * 3, none⟩) → (0 < i - k → ∃ b off, T = some ⟨b, off, none⟩ ∧ ∀ j u, (ecs (W.drop k))[j]? = some u → w'.cell? ⟨b, off + j, none⟩ = some u)) := Lib.hid (HTB.out wz HQZ0)
            have HC0 : Hid (wz.cell? ⟨bl, ol + i * 3, none⟩ = some (.int .i64 x.1)) := Lib.hid (((HQZ0.below wa.heap.size).cell (p := ⟨bl, _, none⟩) hblr).trans HC0'.out)
            have HC1 : Hid (wz.cell? ⟨bl, ol + i * 3 + 1, none⟩ = some (.int .i64 x.2.1)) := Lib.hid (((HQZ0.below wa.heap.size).cell (p := ⟨bl, _, none⟩) hblr).trans HC1'.out)
            have HC2 : Hid (wz.cell? ⟨bl, ol + i * 3 + 2, none⟩ = some (.string (strOfNums x.2.2))) := Lib.hid (((HQZ0.below wa.heap.size).cell (p := ⟨bl, _, none⟩) hblr).trans HC2'.out)
            clear hwz HQZ0 HTA HTB c0 c1' c2'
            by_cases hck : cW = k
            · obtain ⟨e1, e2⟩ : k = cW ∧ k = i := by omega
              clear hck
              subst e1
              subst e2
              have HZS := Lib.hid HQZ.out.size
              go_wp2_with (first
                | (at_builtin; refine wpList_more_e rfl (.tmp 43) (.tmp 46) 23 rfl rowEd (wz.alloc (.cells #[] 38)) wz.heap.size (.slice (some ⟨wz.heap.size, 0, none⟩) 0 0) 0 [] (ecs (W.take k)) rfl (Own.empty wz wz.heap.size 38 3 (Nat.le_refl _)) AW k k rfl HT1.out HT2.out (ecs_one _) (by omega) (by omega) ?_; intro v8 w8 ho8 hg8; refine Hid.out ?_)
                | fail)
              have ho8 := ho8.cast (Nat.zero_add _) (List.nil_append _)
              have hB8 : Below wz.heap.size wz w8 := ((Below.refl wz.heap.size wz).alloc (Nat.le_refl _) _).grown hg8 (by simp) (fun q hq => by
                have : wz.heap.size = q := by simpa [Value.ownBlock] using hq
                omega)
              have HO8 := Lib.hid ho8
              have HB8 := Lib.hid hB8
              have hs8 := hB8.size
              have e0 := (hB8.cell (p := ⟨bl, _, none⟩) (show bl < wz.heap.size by rw [HZS.out]; exact hblr)).trans (HC0.out)
              have e1 := (hB8.cell (p := ⟨bl, _, none⟩) (show bl < wz.heap.size by rw [HZS.out]; exact hblr)).trans (HC1.out)
              have e2 := (hB8.cell (p := ⟨bl, _, none⟩) (show bl < wz.heap.size by rw [HZS.out]; exact hblr)).trans (HC2.out)
              clear ho8 hg8 hB8
              refine Lib.hid ?_
              go_wp2_with (first
                | (at_builtin; refine wpList_push_g rfl (.tmp 48) (.tmp 53) 23 rfl rowEd w8 wz.heap.size _ k (ecs (W.take k)) [.int .i64 x.1, .int .i64 x.2.1, .string (strOfNums x.2.2)] rfl HO8.out rfl rfl rfl (by intro z hz; simp at hz; rcases hz with rfl | rfl | rfl <;> rfl) (by omega) (by omega) ?_; intro v9 w9 ho9 hg9; refine Hid.out ?_)
                | fail)
              have hB9 : Below wz.heap.size wz w9 := (HB8.out.alloc hs8 _).grown hg9 (by simp; omega) (fun q hq => (HO8.out.1.lt q hq).1)
              have HB9 := Lib.hid hB9
              have hs9 := hB9.size
              have HT4 := Lib.hid (HT3.out w9 hB9)
              obtain ⟨A9, c9, rfl⟩ := ho9.form
              have HO9 := Lib.hid ho9
              clear ho9 hg9 hB9 e0 e1 e2
              refine Lib.hid ?_
              go_wp2_with (first
                | (at_builtin; refine wpList_more_e rfl (.tmp 55) (.tmp 58) 23 rfl rowEd w9 wz.heap.size (.slice A9 (k + 1) c9) (k + 1) (ecs (W.take k) ++ [.int .i64 x.1, .int .i64 x.2.1, .string (strOfNums x.2.2)]) (ecs (W.drop k)) rfl HO9.out _ 0 0 rfl (by rw [HT5.out, Nat.sub_self, Nat.zero_mul]) (fun h => absurd h (by decide)) (ecs_one _) (by omega) (by omega) ?_; intro v10 w10 ho10 hg10; refine Hid.out ?_)
                | fail)
              have hB10 : Below wz.heap.size wz w10 := HB9.out.grown hg10 hs9 (fun q hq => (HO9.out.1.lt q hq).1)
              have HO10 := Lib.hid ho10
              have HB10 := Lib.hid hB10
              clear ho10 hg10 hB10
              refine Lib.hid ?_
              go_wp2
              go_roundw
              case rel =>
                refine ⟨_, k + 1, W.take k ++ x :: W.drop k, rfl, by go_num, by omega, ?_, Lib.hid HFIN.out, (HB.out.trans (HQZ.out.below _)).trans (HB10.out.mono (by rw [HZS.out]; exact hge))⟩
                refine (HO10.out.lower (by rw [HZS.out]; exact hge)).cast (by omega) ?_
                rw [ecs_app, ecs_cons]
                simp only [List.append_assoc, List.cons_append, List.nil_append]
              case measure => simp [intOf]; omega
            · have hAW : ∃ b off, AW = some ⟨b, off, none⟩ := by
                have := HFA.out
                rcases this with h | h
                · omega
                · exact h
              obtain ⟨bw, ow, rfl⟩ := hAW
              have HZS := Lib.hid HQZ.out.size
              go_wp2_with (first
                | (at_builtin; refine wpList_more_e rfl (.tmp 43) (.tmp 46) 23 rfl rowEd (wz.alloc (.cells #[] 38)) wz.heap.size (.slice (some ⟨wz.heap.size, 0, none⟩) 0 0) 0 [] (ecs (W.take k)) rfl (Own.empty wz wz.heap.size 38 3 (Nat.le_refl _)) _ k cW rfl HT1.out HT2.out (ecs_one _) (by omega) (by omega) ?_; intro v8 w8 ho8 hg8; refine Hid.out ?_)
                | fail)
              have ho8 := ho8.cast (Nat.zero_add _) (List.nil_append _)
              have hB8 : Below wz.heap.size wz w8 := ((Below.refl wz.heap.size wz).alloc (Nat.le_refl _) _).grown hg8 (by simp) (fun q hq => by
                have : wz.heap.size = q := by simpa [Value.ownBlock] using hq
                omega)
              have HO8 := Lib.hid ho8
              have HB8 := Lib.hid hB8
              have hs8 := hB8.size
              have e0 := (hB8.cell (p := ⟨bl, _, none⟩) (show bl < wz.heap.size by rw [HZS.out]; exact hblr)).trans (HC0.out)
              have e1 := (hB8.cell (p := ⟨bl, _, none⟩) (show bl < wz.heap.size by rw [HZS.out]; exact hblr)).trans (HC1.out)
              have e2 := (hB8.cell (p := ⟨bl, _, none⟩) (show bl < wz.heap.size by rw [HZS.out]; exact hblr)).trans (HC2.out)
              clear ho8 hg8 hB8
              refine Lib.hid ?_
              go_wp2_with (first
                | (at_builtin; refine wpList_push_g rfl (.tmp 48) (.tmp 53) 23 rfl rowEd w8 wz.heap.size _ k (ecs (W.take k)) [.int .i64 x.1, .int .i64 x.2.1, .string (strOfNums x.2.2)] rfl HO8.out rfl rfl rfl (by intro z hz; simp at hz; rcases hz with rfl | rfl | rfl <;> rfl) (by omega) (by omega) ?_; intro v9 w9 ho9 hg9; refine Hid.out ?_)
                | fail)
              have hB9 : Below wz.heap.size wz w9 := (HB8.out.alloc hs8 _).grown hg9 (by simp; omega) (fun q hq => (HO8.out.1.lt q hq).1)
              have HB9 := Lib.hid hB9
              have hs9 := hB9.size
              have HT4 := Lib.hid (HT3.out w9 hB9)
              obtain ⟨A9, c9, rfl⟩ := ho9.form
              have HO9 := Lib.hid ho9
              clear ho9 hg9 hB9 e0 e1 e2
              refine Lib.hid ?_
              go_wp2_with (first
                | (at_builtin; refine wpList_more_e rfl (.tmp 55) (.tmp 58) 23 rfl rowEd w9 wz.heap.size (.slice A9 (k + 1) c9) (k + 1) (ecs (W.take k) ++ [.int .i64 x.1, .int .i64 x.2.1, .string (strOfNums x.2.2)]) (ecs (W.drop k)) rfl HO9.out _ (i - k) (cW - k) rfl HT5.out (HT4.out _ (fun _ _ h _ => by cases h; rfl)) (ecs_one _) (by omega) (by omega) ?_; intro v10 w10 ho10 hg10; refine Hid.out ?_)
                | fail)
              have hB10 : Below wz.heap.size wz w10 := HB9.out.grown hg10 hs9 (fun q hq => (HO9.out.1.lt q hq).1)
              have HO10 := Lib.hid ho10
              have HB10 := Lib.hid hB10
              clear ho10 hg10 hB10
              refine Lib.hid ?_
              go_wp2
              go_roundw
              case rel =>
                refine ⟨_, i + 1, W.take k ++ x :: W.drop k, rfl, by go_num, by omega, ?_, Lib.hid HFIN.out, (HB.out.trans (HQZ.out.below _)).trans (HB10.out.mono (by rw [HZS.out]; exact hge))⟩
                refine (HO10.out.lower (by rw [HZS.out]; exact hge)).cast (by omega) ?_
                rw [ecs_app, ecs_cons]
                simp only [List.append_assoc, List.cons_append, List.nil_append]
              case measure => simp [intOf]; omega
          · obtain ⟨bw, ow, y', rfl, hbw, hy', d0, d1, d2⟩ := SW5.out.at (show s < i by omega)
            rw [hy] at hy'
            cases hy'
            have t1 : (0 : Int) < (k : Int) := by omega
            have t1' : 0 < k := by omega
            have t1'' : decide (0 < k) = true := decide_eq_true t1'
            have t1a : decide ((0 : Int) < (k : Int)) = true := decide_eq_true t1
            have t2 : IntKind.i64.wrap ((k : Int) - 1) = (s : Int) := (IntWalk.i64_in _ (by omega)).trans (by omega)
            have t3 : (k : Int) - 1 = (s : Int) := by omega
            have t4 : (s : Int) < (i : Int) := by omega
            have t5 : (i : Int) < (m : Int) := by omega
            clear hy hks
            go_wp2
            go_quiet (fail)
            clear t1 t1' t1'' t1a t2 t3 t4 t5 d0 d1 d2
            have HQZ0 : Quiet wa ((wa.drewN q).drewN nq) := Quiet.two _ _ _
            try rw [World.drewN_drewN]
            try rw [World.drewN_drewN] at HQZ0
            obtain ⟨wz, hwz⟩ : ∃ wz, wa.drewN (q + nq) = wz := ⟨_, rfl⟩
            rw [hwz] at HQZ0 ⊢
            have HQZ := Lib.hid HQZ0
            have HT2 := Lib.hid (HTA.out wz HQZ0)
            have HT3 : Hid (∀ w', Below wz.heap.size wz w' → ∀ T : Option Addr, (∀ b off, (some ⟨bw, ow, none⟩ : Option Addr) = some ⟨b, off, none⟩ → k < i → T = some ⟨b, off + k * 3, none⟩) → (0 < i - k → ∃ b off, T = some ⟨b, off, none⟩ ∧ ∀ j u, (ecs (W.drop k))[j]? = some u → w'.cell? ⟨b, off + j, none⟩ = some u)) := Lib.hid (HTB.out wz HQZ0)
            have HC0 : Hid (wz.cell? ⟨bl, ol + i * 3, none⟩ = some (.int .i64 x.1)) := Lib.hid (((HQZ0.below wa.heap.size).cell (p := ⟨bl, _, none⟩) hblr).trans HC0'.out)
            have HC1 : Hid (wz.cell? ⟨bl, ol + i * 3 + 1, none⟩ = some (.int .i64 x.2.1)) := Lib.hid (((HQZ0.below wa.heap.size).cell (p := ⟨bl, _, none⟩) hblr).trans HC1'.out)
            have HC2 : Hid (wz.cell? ⟨bl, ol + i * 3 + 2, none⟩ = some (.string (strOfNums x.2.2))) := Lib.hid (((HQZ0.below wa.heap.size).cell (p := ⟨bl, _, none⟩) hblr).trans HC2'.out)
            clear hwz HQZ0 HTA HTB c0 c1' c2'
            by_cases hck : cW = k
            · obtain ⟨e1, e2⟩ : k = cW ∧ k = i := by omega
              clear hck
              subst e1
              subst e2
              have HZS := Lib.hid HQZ.out.size
              go_wp2_with (first
                | (at_builtin; refine wpList_more_e rfl (.tmp 43) (.tmp 46) 23 rfl rowEd (wz.alloc (.cells #[] 38)) wz.heap.size (.slice (some ⟨wz.heap.size, 0, none⟩) 0 0) 0 [] (ecs (W.take k)) rfl (Own.empty wz wz.heap.size 38 3 (Nat.le_refl _)) _ k k rfl HT1.out HT2.out (ecs_one _) (by omega) (by omega) ?_; intro v8 w8 ho8 hg8; refine Hid.out ?_)
                | fail)
              have ho8 := ho8.cast (Nat.zero_add _) (List.nil_append _)
              have hB8 : Below wz.heap.size wz w8 := ((Below.refl wz.heap.size wz).alloc (Nat.le_refl _) _).grown hg8 (by simp) (fun q hq => by
                have : wz.heap.size = q := by simpa [Value.ownBlock] using hq
                omega)
              have HO8 := Lib.hid ho8
              have HB8 := Lib.hid hB8
              have hs8 := hB8.size
              have e0 := (hB8.cell (p := ⟨bl, _, none⟩) (show bl < wz.heap.size by rw [HZS.out]; exact hblr)).trans (HC0.out)
              have e1 := (hB8.cell (p := ⟨bl, _, none⟩) (show bl < wz.heap.size by rw [HZS.out]; exact hblr)).trans (HC1.out)
              have e2 := (hB8.cell (p := ⟨bl, _, none⟩) (show bl < wz.heap.size by rw [HZS.out]; exact hblr)).trans (HC2.out)
              clear ho8 hg8 hB8
              refine Lib.hid ?_
              go_wp2_with (first
                | (at_builtin; refine wpList_push_g rfl (.tmp 48) (.tmp 53) 23 rfl rowEd w8 wz.heap.size _ k (ecs (W.take k)) [.int .i64 x.1, .int .i64 x.2.1, .string (strOfNums x.2.2)] rfl HO8.out rfl rfl rfl (by intro z hz; simp at hz; rcases hz with rfl | rfl | rfl <;> rfl) (by omega) (by omega) ?_; intro v9 w9 ho9 hg9; refine Hid.out ?_)
                | fail)
              have hB9 : Below wz.heap.size wz w9 := (HB8.out.alloc hs8 _).grown hg9 (by simp; omega) (fun q hq => (HO8.out.1.lt q hq).1)
              have HB9 := Lib.hid hB9
              have hs9 := hB9.size
              have HT4 := Lib.hid (HT3.out w9 hB9)
              obtain ⟨A9, c9, rfl⟩ := ho9.form
              have HO9 := Lib.hid ho9
              clear ho9 hg9 hB9 e0 e1 e2
              refine Lib.hid ?_
              go_wp2_with (first
                | (at_builtin; refine wpList_more_e rfl (.tmp 55) (.tmp 58) 23 rfl rowEd w9 wz.heap.size (.slice A9 (k + 1) c9) (k + 1) (ecs (W.take k) ++ [.int .i64 x.1, .int .i64 x.2.1, .string (strOfNums x.2.2)]) (ecs (W.drop k)) rfl HO9.out _ 0 0 rfl (by rw [HT5.out, Nat.sub_self, Nat.zero_mul]) (fun h => absurd h (by decide)) (ecs_one _) (by omega) (by omega) ?_; intro v10 w10 ho10 hg10; refine Hid.out ?_)
                | fail)
              have hB10 : Below wz.heap.size wz w10 := HB9.out.grown hg10 hs9 (fun q hq => (HO9.out.1.lt q hq).1)
              have HO10 := Lib.hid ho10
              have HB10 := Lib.hid hB10
              clear ho10 hg10 hB10
              refine Lib.hid ?_
              go_wp2
              go_roundw
              case rel =>
                refine ⟨_, k + 1, W.take k ++ x :: W.drop k, rfl, by go_num, by omega, ?_, Lib.hid HFIN.out, (HB.out.trans (HQZ.out.below _)).trans (HB10.out.mono (by rw [HZS.out]; exact hge))⟩
                refine (HO10.out.lower (by rw [HZS.out]; exact hge)).cast (by omega) ?_
                rw [ecs_app, ecs_cons]
                simp only [List.append_assoc, List.cons_append, List.nil_append]
              case measure => simp [intOf]; omega
            · have HZS := Lib.hid HQZ.out.size
              go_wp2_with (first
                | (at_builtin; refine wpList_more_e rfl (.tmp 43) (.tmp 46) 23 rfl rowEd (wz.alloc (.cells #[] 38)) wz.heap.size (.slice (some ⟨wz.heap.size, 0, none⟩) 0 0) 0 [] (ecs (W.take k)) rfl (Own.empty wz wz.heap.size 38 3 (Nat.le_refl _)) _ k cW rfl HT1.out HT2.out (ecs_one _) (by omega) (by omega) ?_; intro v8 w8 ho8 hg8; refine Hid.out ?_)
                | fail)
              have ho8 := ho8.cast (Nat.zero_add _) (List.nil_append _)
              have hB8 : Below wz.heap.size wz w8 := ((Below.refl wz.heap.size wz).alloc (Nat.le_refl _) _).grown hg8 (by simp) (fun q hq => by
                have : wz.heap.size = q := by simpa [Value.ownBlock] using hq
                omega)
              have HO8 := Lib.hid ho8
              have HB8 := Lib.hid hB8
              have hs8 := hB8.size
              have e0 := (hB8.cell (p := ⟨bl, _, none⟩) (show bl < wz.heap.size by rw [HZS.out]; exact hblr)).trans (HC0.out)
              have e1 := (hB8.cell (p := ⟨bl, _, none⟩) (show bl < wz.heap.size by rw [HZS.out]; exact hblr)).trans (HC1.out)
              have e2 := (hB8.cell (p := ⟨bl, _, none⟩) (show bl < wz.heap.size by rw [HZS.out]; exact hblr)).trans (HC2.out)
              clear ho8 hg8 hB8
              refine Lib.hid ?_
              go_wp2_with (first
                | (at_builtin; refine wpList_push_g rfl (.tmp 48) (.tmp 53) 23 rfl rowEd w8 wz.heap.size _ k (ecs (W.take k)) [.int .i64 x.1, .int .i64 x.2.1, .string (strOfNums x.2.2)] rfl HO8.out rfl rfl rfl (by intro z hz; simp at hz; rcases hz with rfl | rfl | rfl <;> rfl) (by omega) (by omega) ?_; intro v9 w9 ho9 hg9; refine Hid.out ?_)
                | fail)
              have hB9 : Below wz.heap.size wz w9 := (HB8.out.alloc hs8 _).grown hg9 (by simp; omega) (fun q hq => (HO8.out.1.lt q hq).1)
              have HB9 := Lib.hid hB9
              have hs9 := hB9.size
              have HT4 := Lib.hid (HT3.out w9 hB9)
              obtain ⟨A9, c9, rfl⟩ := ho9.form
              have HO9 := Lib.hid ho9
              clear ho9 hg9 hB9 e0 e1 e2
              refine Lib.hid ?_
              go_wp2_with (first
                | (at_builtin; refine wpList_more_e rfl (.tmp 55) (.tmp 58) 23 rfl rowEd w9 wz.heap.size (.slice A9 (k + 1) c9) (k + 1) (ecs (W.take k) ++ [.int .i64 x.1, .int .i64 x.2.1, .string (strOfNums x.2.2)]) (ecs (W.drop k)) rfl HO9.out _ (i - k) (cW - k) rfl HT5.out (HT4.out _ (fun _ _ h _ => by cases h; rfl)) (ecs_one _) (by omega) (by omega) ?_; intro v10 w10 ho10 hg10; refine Hid.out ?_)
                | fail)
              have hB10 : Below wz.heap.size wz w10 := HB9.out.grown hg10 hs9 (fun q hq => (HO9.out.1.lt q hq).1)
              have HO10 := Lib.hid ho10
              have HB10 := Lib.hid hB10
              clear ho10 hg10 hB10
              refine Lib.hid ?_
              go_wp2
              go_roundw
              case rel =>
                refine ⟨_, i + 1, W.take k ++ x :: W.drop k, rfl, by go_num, by omega, ?_, Lib.hid HFIN.out, (HB.out.trans (HQZ.out.below _)).trans (HB10.out.mono (by rw [HZS.out]; exact hge))⟩
                refine (HO10.out.lower (by rw [HZS.out]; exact hge)).cast (by omega) ?_
                rw [ecs_app, ecs_cons]
                simp only [List.append_assoc, List.cons_append, List.nil_append]
              case measure => simp [intOf]; omega
    · obtain rfl : i = m := by omega
      have hWK : W = K := by
        obtain ⟨h1, h2, h3⟩ := HW.out
        rw [List.take_of_length_le (by rw [HL.out]; exact Nat.le_refl _)] at h3
        exact srt_one h2 HK1.out (h3.trans HK2.out.symm)
      have SW6 := SW5.out
      rw [hWK] at SW6
      have HSM := Lib.hid (sameE_yes A2 AW _ c2 cW K wr ((K2.out.up HB.out (Nat.le_refl _)).more hge) SW6 (by omega))
      have HSI := Lib.hid (fun w' (b : Below wr.heap.size wr w') (h : wr.heap.size ≤ w'.heap.size) => sameE_yes A1 P _ c1 d L w' ((S2.out.up (HB.out.trans (b.mono hge)) (Nat.le_refl _)).more (Nat.le_trans hge h)) ((HX.out w' (BW.out.trans (b.mono BW.out.size))).more (Nat.le_trans BW.out.size h)) (by omega))
      clear SW6 hWK
      go_wp2_with (first
        | (go_at_call 19; refine HSM.out.mono ?_; rintro e w3 ⟨rfl, q3⟩; have B3 := Lib.hid (q3.below wr.heap.size); clear q3; refine Hid.out ?_)
        | fail)
      have HSJ := Lib.hid (HSI.out _ B3.out B3.out.size)
      clear HSI HSM
      refine Lib.hid ?_
      go_wp2_with (first
        | (go_at_call 19; refine HSJ.out.mono ?_; rintro e w4 ⟨rfl, q4⟩; have B4 := Lib.hid (B3.out.trans (q4.below _)); clear q4)
        | (go_at_call 9; refine (awake_any _).mono ?_; rintro e w5 ⟨rfl, b5⟩)
        | fail)
      go_ret
      exact ⟨rfl, (BW.out.trans (B4.out.mono BW.out.size)).trans (b5.mono (Nat.le_trans BW.out.size B4.out.size))⟩

theorem spanSorts_walk (a1 : Option Addr) (len1 cap1 : Nat) (L : List Ed) (w : World) (hm : len1 ≤ maxLen) (hx : ShE w w.heap.size a1 len1 L) (hby : BytE L) (hs : ∀ x ∈ L, x.2.2.length ≤ maxLen) (hwf : ∀ x ∈ L, (Lit.int .i64 x.1).wf = true ∧ (Lit.int .i64 x.2.1).wf = true) :
    Calls Tryd.prog 6 #[.slice a1 len1 cap1] w fun e w' => e = .returned (.bool true) ∧ Below w.heap.size w w' := by
  cases hg : greatB L with
  | true => exact spanSorts_great _ _ _ L w hx hm hs hg
  | false => exact spanSorts_small _ _ _ L w hx hm hg
end Go.Proofs.YtopeechbgblndaaDoor
