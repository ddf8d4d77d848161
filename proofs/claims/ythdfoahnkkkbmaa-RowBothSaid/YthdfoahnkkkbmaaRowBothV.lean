/-
  blazonlaw16.RowBoth: the walk, over what is asked of tables.
-/
import Derived.Test.YthdfoahnkkkbmaaRowFullV
namespace Go.Proofs.Ythdfoahnkkkbmaa
set_option linter.unusedVariables false
set_option linter.unusedSimpArgs false
open Go.RowKit

section
variable {P : Program} {ops : Array Oper} {rest : List Oper} {o : Oper} {a : Act} {Q : Exit → Act → World → Prop}
/-- 'out = append(out, xs...)', elements of any size: out the call's own. -/
theorem wp_moreN {K : Act → World → Prop} (s x : Operand) (t : TypeId) (ho : o.op = .call { callee := .builtin .append, args := #[s, x], argTypes := #[t, t] })
    {e : TypeId} {size bytes : Nat} (hT : RowT P t e size bytes) (W0 w : World) (B : Nat) (v : Value) (n : Nat) (xs us : List Value) (hs : a.eval s = v) (hown : Own w B e size v n xs)
    (A : Option Addr) (m c : Nat) (hx : a.eval x = .slice A m c) (hl : us.length = m * size) (hsh : 0 < m → ∃ b off, A = some ⟨b, off, none⟩ ∧ ∀ k u, us[k]? = some u → w.cell? ⟨b, off + k, none⟩ = some u) (h1 : ∀ u ∈ us, u.oneCell' = true) (hb : Below B W0 w)
    (hlen : n + m ≤ 1099511627776) (hby : bytes ≤ 64)
    (h : ∀ v' w', Own w' B e size v' (n + m) (xs ++ us) → Below B W0 w' → K (a.put o.dst v') w') :
    o.wp P a w K Q := by
  obtain ⟨ht, i, z, hi, hz, hsize, hbytes, hzs, hpos⟩ := hT
  have hbb : (n + m) * bytes ≤ 140737488355328 := Nat.le_trans (Nat.mul_le_mul hlen hby) (by decide)
  have hful : ∀ ad : Addr, (∀ k u, us[k]? = some u → w.cell? (ad.add k) = some u) → a.eval x = .slice (some ad) m c → o.wp P a w K Q := by
    intro ad hc hx'
    refine wp_append_own _ s x t ho B e i z size bytes ht hi hz hsize hbytes hzs hpos v n xs hs hown.1 ad m c us hx' hl hc h1
      (by unfold maxLen; omega) hbb hown.2 ?_
    intro v' w' ho' hg' _
    exact h v' w' ⟨ho', Nat.le_trans hown.2 hg'.size⟩ (hb.grown hg' hown.2 (fun q hq => (hown.1.lt q hq).1))
  rcases Nat.eq_zero_or_pos m with h0 | h0
  · subst h0
    have hn : us = [] := List.eq_nil_of_length_eq_zero (by omega)
    subst hn
    rcases A with _ | ad
    · have hrun : (Builtin.append_ #[t, t] o.type #[v, .slice none 0 c]).run P w = .ok v w := by
        rcases hown.1.2 with ⟨rfl, rfl⟩ | ⟨g, cap, cur, rfl, _, _, hnc, _⟩
        · simp [Builtin.append_, run_underlying ht, sizeOf, typeInfo, hi, Builtin.lenOf, Builtin.firstCells]
        · simp [Builtin.append_, run_underlying ht, sizeOf, typeInfo, hi, Builtin.lenOf, Builtin.firstCells, hnc, storeCells]
      unfold Oper.wp
      simp [execOp, ho, resolve, invoke, builtin, hs, hx, hrun, Result.andThen]
      exact h v w (by simpa using hown) hb
    · exact hful ad (by simp) hx
  · obtain ⟨b, off, rfl, hc⟩ := hsh h0
    refine hful ⟨b, off, none⟩ (fun k u hu => ?_) hx
    rw [Addr.add_lit]
    exact hc k u hu
theorem wpList_moreN (hgd : Region.wanted o (yielded ops a.tmps) = true) (s x : Operand) (t : TypeId) (ho : o.op = .call { callee := .builtin .append, args := #[s, x], argTypes := #[t, t] })
    {e : TypeId} {size bytes : Nat} (hT : RowT P t e size bytes) (W0 w : World) (B : Nat) (v : Value) (n : Nat) (xs us : List Value) (hs : a.eval s = v) (hown : Own w B e size v n xs)
    (A : Option Addr) (m c : Nat) (hx : a.eval x = .slice A m c) (hl : us.length = m * size) (hsh : 0 < m → ∃ b off, A = some ⟨b, off, none⟩ ∧ ∀ k u, us[k]? = some u → w.cell? ⟨b, off + k, none⟩ = some u) (h1 : ∀ u ∈ us, u.oneCell' = true) (hb : Below B W0 w)
    (hlen : n + m ≤ 1099511627776) (hby : bytes ≤ 64)
    (h : ∀ v' w', Own w' B e size v' (n + m) (xs ++ us) → Below B W0 w' → wpList P ops Q rest (a.put o.dst v') w') :
    wpList P ops Q (o :: rest) a w :=
  wpList_wanted hgd fun _ hK => wp_moreN s x t ho hT W0 w B v n xs us hs hown A m c hx hl hsh h1 hb hlen hby fun v' w' h2 h3 => hK _ _ (h v' w' h2 h3)
end
theorem ncs_one {L : List OPn} : ∀ u ∈ ncs L, u.oneCell' = true := fun u hu => by
  unfold ncs at hu
  obtain ⟨t, _, h⟩ := List.mem_flatMap.1 hu
  simp at h
  rcases h with rfl | rfl <;> rfl
theorem ncs_get {L : List OPn} {k : Nat} {u : Value} (h : (ncs L)[k]? = some u) : ∃ t, L[k / 2]? = some t ∧ u = if k % 2 = 0 then .string t.1 else .int .i64 t.2 := by
  have hl : k < L.length * 2 := by rw [← ncs_len]; exact (List.getElem?_eq_some_iff.1 h).1
  have hg : L[k / 2]? = some (L[k / 2]'(by omega)) := List.getElem?_eq_getElem (by omega)
  refine ⟨_, hg, ?_⟩
  obtain ⟨h0, h1⟩ := ncs_at hg
  by_cases hk : k % 2 = 0
  · rw [if_pos hk]
    rw [show k / 2 * 2 = k by omega, h] at h0
    exact Option.some.inj h0
  · rw [if_neg hk]
    rw [show k / 2 * 2 + 1 = k by omega, h] at h1
    exact Option.some.inj h1
theorem ShW.cells {w : World} {B n : Nat} {A : Option Addr} {L : List OPn} (h : ShW w B A n L) : 0 < n → ∃ b off, A = some ⟨b, off, none⟩ ∧ ∀ k u, (ncs L)[k]? = some u → w.cell? ⟨b, off + k, none⟩ = some u := fun hn => by
  obtain ⟨b, off, e, _, hc⟩ := h.2 hn
  refine ⟨b, off, e, fun k u hu => ?_⟩
  obtain ⟨t, ht, rfl⟩ := ncs_get hu
  obtain ⟨h0, h1⟩ := hc _ _ ht
  by_cases hk : k % 2 = 0
  · rw [if_pos hk]
    rwa [show off + k / 2 * 2 = off + k by omega] at h0
  · rw [if_neg hk]
    rwa [show off + k / 2 * 2 + 1 = off + k by omega] at h1
set_option maxRecDepth 100000 in
set_option maxHeartbeats 1600000 in
theorem rowBoth_over (HI : RwAll) (A1 : Option Addr) (n1 c1 : Nat) (L1 : List OPn) (A2 : Option Addr) (n2 c2 : Nat) (L2 : List OPn) (A3 : Option Addr) (n3 c3 : Nat) (L3 : List OPn) (w : World) (hn1 : n1 ≤ maxLen) (hL1 : ShW w w.heap.size A1 n1 L1) (hs1 : ∀ t ∈ L1, t.1.size ≤ maxLen)
    (hn2 : n2 ≤ maxLen) (hL2 : ShW w w.heap.size A2 n2 L2) (hs2 : ∀ t ∈ L2, t.1.size ≤ maxLen) (hn3 : n3 ≤ maxLen) (hL3 : ShW w w.heap.size A3 n3 L3) (hs3 : ∀ t ∈ L3, t.1.size ≤ maxLen) :
    Calls Try.prog 8 #[.slice A1 n1 c1, .slice A2 n2 c2, .slice A3 n3 c3] w fun e w' => e = .returned (.bool true) ∧ Below w.heap.size w w' := by
  have HG1 := Lib.hid (show Calls Try.prog 29 #[.slice A1 n1 c1, .int .i64 80] w fun e w' => e = .returned (.bool (wGreat (L1.map (·.1)) 80)) ∧ Below w.heap.size w w' from wgreat_any A1 n1 c1 80 L1 w hL1 hn1 (by decide) hs1)
  have HG2 := Lib.hid (fun (w1 : World) (b : Below w.heap.size w w1) => (show Calls Try.prog 29 #[.slice A2 n2 c2, .int .i64 40] w1 fun e w' => e = .returned (.bool (wGreat (L2.map (·.1)) 40)) ∧ Below w1.heap.size w1 w' from wgreat_any A2 n2 c2 40 L2 w1 (hL2.up b) hn2 (by decide) hs2))
  have HG3 := Lib.hid (fun (w1 : World) (b : Below w.heap.size w w1) => (show Calls Try.prog 29 #[.slice A3 n3 c3, .int .i64 40] w1 fun e w' => e = .returned (.bool (wGreat (L3.map (·.1)) 40)) ∧ Below w1.heap.size w1 w' from wgreat_any A3 n3 c3 40 L3 w1 (hL3.up b) hn3 (by decide) hs3))
  cases hg1 : wGreat (L1.map (·.1)) 80 with
  | true =>
    rw [hg1] at HG1
    clear hg1 hL1 hs1 hL2 hs2 hL3 hs3
    go_enter Try.func8, Try.ntmps8
    go_wp2_with (first
      | (go_at_call 29; (with_reducible refine HG1.out.mono ?_); rintro e wx ⟨rfl, b⟩; have BB := Lib.hid b; clear b)
      | (go_at_call 24; (with_reducible refine (awake16_any HI _).mono ?_); rintro e wx ⟨rfl, b⟩; have BB := Lib.hid (BB.out.trans (b.mono BB.out.size)); clear b)
      | go_in)
    go_ret
    exact ⟨rfl, BB.out⟩
  | false =>
    rw [hg1] at HG1
    cases hg2 : wGreat (L2.map (·.1)) 40 with
    | true =>
      rw [hg2] at HG2
      clear hg1 hg2 hL1 hs1 hL2 hs2 hL3 hs3
      go_enter Try.func8, Try.ntmps8
      go_wp2_with (first
        | (go_at_call 29; (with_reducible refine HG1.out.mono ?_); rintro e wx ⟨rfl, b⟩; have BB := Lib.hid b; clear b)
        | (go_at_call 29; (with_reducible refine (HG2.out _ BB.out).mono ?_); rintro e wx ⟨rfl, b⟩; have BB := Lib.hid (BB.out.trans (b.mono BB.out.size)); clear b)
        | (go_at_call 24; (with_reducible refine (awake16_any HI _).mono ?_); rintro e wx ⟨rfl, b⟩; have BB := Lib.hid (BB.out.trans (b.mono BB.out.size)); clear b)
        | go_in)
      go_ret
      exact ⟨rfl, BB.out⟩
    | false =>
      rw [hg2] at HG2
      cases hg3 : wGreat (L3.map (·.1)) 40 with
      | true =>
        rw [hg3] at HG3
        clear hg1 hg2 hg3 hL1 hs1 hL2 hs2 hL3 hs3
        go_enter Try.func8, Try.ntmps8
        go_wp2_with (first
          | (go_at_call 29; (with_reducible refine HG1.out.mono ?_); rintro e wx ⟨rfl, b⟩; have BB := Lib.hid b; clear b)
          | (go_at_call 29; (with_reducible refine (HG2.out _ BB.out).mono ?_); rintro e wx ⟨rfl, b⟩; have BB := Lib.hid (BB.out.trans (b.mono BB.out.size)); clear b)
          | (go_at_call 29; (with_reducible refine (HG3.out _ BB.out).mono ?_); rintro e wx ⟨rfl, b⟩; have BB := Lib.hid (BB.out.trans (b.mono BB.out.size)); clear b)
          | (go_at_call 24; (with_reducible refine (awake16_any HI _).mono ?_); rintro e wx ⟨rfl, b⟩; have BB := Lib.hid (BB.out.trans (b.mono BB.out.size)); clear b)
          | go_in)
        go_ret
        exact ⟨rfl, BB.out⟩
      | false =>
        rw [hg3] at HG3
        obtain ⟨g1, k1⟩ := wGreat_no hg1
        obtain ⟨g2, k2⟩ := wGreat_no hg2
        obtain ⟨g3, k3⟩ := wGreat_no hg3
        rw [List.length_map, hL1.len] at g1
        rw [List.length_map, hL2.len] at g2
        rw [List.length_map, hL3.len] at g3
        have k1' : ∀ t ∈ L1, t.1.size ≤ 1000 := fun t ht => by have := k1 t.1 (List.mem_map_of_mem ht); omega
        have k2' : ∀ t ∈ L2, t.1.size ≤ 1000 := fun t ht => by have := k2 t.1 (List.mem_map_of_mem ht); omega
        have k3' : ∀ t ∈ L3, t.1.size ≤ 1000 := fun t ht => by have := k3 t.1 (List.mem_map_of_mem ht); omega
        have k23 : ∀ t ∈ L2 ++ L3, t.1.size ≤ 1000 := fun t ht => by
          rcases List.mem_append.1 ht with h | h
          · exact k2' t h
          · exact k3' t h
        clear hg1 hg2 hg3 hs1 hs2 hs3 k1 k2 k3
        rcases newT_cases (L1.map (·.1)) with ⟨h, hd, h64⟩ | ⟨i, x, h, hx⟩
        · have HNW := Lib.hid (fun (w1 : World) (b : Below w.heap.size w w1) => HI.yes (c := c1) (hL1.up b) (by omega) k1' h)
          by_cases hin : (∀ s ∈ L2.map (·.1), s ∈ L1.map (·.1)) ∧ ∀ s ∈ L3.map (·.1), s ∈ L1.map (·.1)
          · obtain ⟨x, hx, _⟩ := tset_ok hd (x := 0) 0 hin.1
            obtain ⟨y, hy, _⟩ := tset_ok hd (x := 0) 0 hin.2
            have HZ := Lib.hid (tset_both hd hin.1 hin.2 hx hy)
            have hxl := tset_lt h64 (l := L2.map (·.1)) (x := 0) 0 (by decide)
            have hyl := tset_lt h64 (l := L3.map (·.1)) (x := 0) 0 (by decide)
            rw [hx] at hxl
            rw [hy] at hyl
            dsimp only at hxl hyl
            have hzl : x ||| y < 2 ^ 64 := Nat.or_lt_two_pow hxl hyl
            have hor := u64_or_nat x y hxl hyl
            have HST2 := Lib.hid (fun (w1 : World) (b : Below w.heap.size w w1) (g : Nat) (P : World → Prop) (hc : RwC (L1.map (·.1)) g P) (hp : P w1) => (by
          have := hc.set A2 n2 c2 L2 hp (hL2.up b) (by omega) k2'
          unfold RSetTo at this
          rw [hx] at this
          exact this : Calls Try.prog 30 #[.pointer (some ⟨g, 0, none⟩), .slice A2 n2 c2] w1 fun e w' => e = .returned (.tuple #[.int .u64 (x : Int), .int .i64 0, .int .i64 0]) ∧ Below w1.heap.size w1 w'))
            have HST3 := Lib.hid (fun (w1 : World) (b : Below w.heap.size w w1) (g : Nat) (P : World → Prop) (hc : RwC (L1.map (·.1)) g P) (hp : P w1) => (by
          have := hc.set A3 n3 c3 L3 hp (hL3.up b) (by omega) k3'
          unfold RSetTo at this
          rw [hy] at this
          exact this : Calls Try.prog 30 #[.pointer (some ⟨g, 0, none⟩), .slice A3 n3 c3] w1 fun e w' => e = .returned (.tuple #[.int .u64 (y : Int), .int .i64 0, .int .i64 0]) ∧ Below w1.heap.size w1 w'))
            have W1 : decide (x &&& (x ||| y) = x) = true := decide_eq_true (within_iff.2 fun i hi => by rw [Nat.testBit_or, hi]; rfl)
            have W2 : decide (y &&& (x ||| y) = y) = true := decide_eq_true (within_iff.2 fun i hi => by rw [Nat.testBit_or, hi]; simp)
            have HW1 := Lib.hid (fun w1 => HI.within w1 x (x ||| y) hxl hzl)
            have HW2 := Lib.hid (fun w1 => HI.within w1 y (x ||| y) hyl hzl)
            rw [W1] at HW1
            rw [W2] at HW2
            have HK1 := Lib.hid (fun w1 => HI.count w1 x hxl)
            have HK2 := Lib.hid (fun w1 => HI.count w1 y hyl)
            have HK3 := Lib.hid (fun w1 => HI.count w1 (x ||| y) hzl)
            have p1 := popB_or_le 64 x y
            have p2 := popB_le 64 x
            have p3 := popB_le 64 y
            obtain ⟨z, hz⟩ : ∃ z, x ||| y = z := ⟨_, rfl⟩
            rw [hz] at HZ hor HW1 HW2 HK3 p1
            obtain ⟨px, hpx⟩ : ∃ q, popB 64 x = q := ⟨_, rfl⟩
            obtain ⟨py, hpy⟩ : ∃ q, popB 64 y = q := ⟨_, rfl⟩
            obtain ⟨pz, hpz⟩ : ∃ q, popB 64 z = q := ⟨_, rfl⟩
            rw [hpx] at HK1 p1 p2
            rw [hpy] at HK2 p1 p3
            rw [hpz] at HK3 p1
            have hwr : IntKind.i64.wrap ((px : Int) + (py : Int)) = (px : Int) + (py : Int) := IntWalk.i64_in _ (by omega)
            have hle : decide ((pz : Int) ≤ (px : Int) + (py : Int)) = true := decide_eq_true (by omega)
            have hzz : ((z : Int) == (z : Int)) = true := by simp
            clear hx hy hz hpx hpy hpz h hd h64 hin k1' W1 W2 hL1 hxl hyl hzl
            go_enter Try.func8, Try.ntmps8
            go_wp2_with (first
              | (go_at_call 29; (with_reducible refine HG1.out.mono ?_); rintro e wx ⟨rfl, b⟩; have BB := Lib.hid b; clear b)
              | (go_at_call 29; (with_reducible refine (HG2.out _ BB.out).mono ?_); rintro e wx ⟨rfl, b⟩; have BB := Lib.hid (BB.out.trans (b.mono BB.out.size)); clear b)
              | (go_at_call 29; (with_reducible refine (HG3.out _ BB.out).mono ?_); rintro e wx ⟨rfl, b⟩; have BB := Lib.hid (BB.out.trans (b.mono BB.out.size)); clear b)
              | (go_at_call 23; (with_reducible refine (HNW.out _ BB.out).mono ?_); rintro e wx ⟨b, g, P, rfl, hc, hp⟩; have BB := Lib.hid (BB.out.trans (b.mono BB.out.size)); have HC := Lib.hid hc; have HP := Lib.hid hp; clear hc hp; clear b)
              | (go_at_call 30; (with_reducible refine (HST2.out _ BB.out _ _ HC.out HP.out).mono ?_); rintro e wx ⟨rfl, b⟩; have BB := Lib.hid (BB.out.trans (b.mono BB.out.size)); have HP := Lib.hid (HC.out.stay HP.out b); clear b)
              | (go_at_call 30; (with_reducible refine (HST3.out _ BB.out _ _ HC.out HP.out).mono ?_); rintro e wx ⟨rfl, b⟩; have BB := Lib.hid (BB.out.trans (b.mono BB.out.size)); have HP := Lib.hid (HC.out.stay HP.out b); clear b)
              | (at_builtin; refine Hid.out ?_)
              | go_in)
            refine Lib.hid ?_
            have hbe := (Below.refl wx.heap.size wx).alloc (Nat.le_refl _) (.cells #[] 44)
            have hc2 := ((hL2.up BB.out).below hbe).cells
            refine wpList_moreN rfl (.tmp 52) (.tmp 53) 41 rfl rowN wx _ wx.heap.size _ _ _ (ncs L2) rfl (Own.empty wx wx.heap.size 44 2 (Nat.le_refl _)) A2 n2 c2 (by simp [Act.eval]) (by rw [ncs_len, hL2.len]) hc2 ncs_one hbe (by omega) (by omega) ?_
            intro v2 w6 ho2 hb6
            have hc3 := ((hL3.up BB.out).below hb6).cells
            go_wp2_with (first
              | (at_builtin; refine Hid.out ?_)
              | go_in)
            refine Lib.hid ?_
            refine wpList_moreN rfl (.tmp 54) (.tmp 55) 41 rfl rowN wx _ wx.heap.size _ _ _ (ncs L3) rfl ho2 A3 n3 c3 (by simp [Act.eval]) (by rw [ncs_len, hL3.len]) hc3 ncs_one hb6 (by omega) (by omega) ?_
            intro v3 w7 ho3 hb7
            rw [List.nil_append, ← ncs_app] at ho3
            obtain ⟨A5, c5, rfl⟩ := ho3.form
            have hS := ShW.of_own ho3 (by rw [List.length_append, hL2.len, hL3.len]; omega)
            rw [Nat.zero_add] at hS
            have BB := Lib.hid (BB.out.trans (hb7.mono BB.out.size))
            have hPx := HC.out.stay HP.out hb7
            have hSab := HC.out.set A5 (n2 + n3) c5 (L2 ++ L3) hPx hS (by omega) k23
            unfold RSetTo at hSab
            rw [List.map_append, HZ.out] at hSab
            have HSab := Lib.hid hSab
            clear hSab hS ho3 ho2 hc2 hc3
            go_wp2_with (first
              | (go_at_call 30; (with_reducible refine (HSab.out).mono ?_); rintro e wx ⟨rfl, b⟩; have BB := Lib.hid (BB.out.trans (b.mono BB.out.size)); clear b)
              | (go_at_call 27; (with_reducible refine (HW1.out _).mono ?_); rintro e wx ⟨rfl, b⟩; have BB := Lib.hid (BB.out.trans (b.mono BB.out.size)); clear b)
              | (go_at_call 27; (with_reducible refine (HW2.out _).mono ?_); rintro e wx ⟨rfl, b⟩; have BB := Lib.hid (BB.out.trans (b.mono BB.out.size)); clear b)
              | (go_at_call 28; (with_reducible refine (HK3.out _).mono ?_); rintro e wx ⟨rfl, b⟩; have BB := Lib.hid (BB.out.trans (b.mono BB.out.size)); clear b)
              | (go_at_call 28; (with_reducible refine (HK1.out _).mono ?_); rintro e wx ⟨rfl, b⟩; have BB := Lib.hid (BB.out.trans (b.mono BB.out.size)); clear b)
              | (go_at_call 28; (with_reducible refine (HK2.out _).mono ?_); rintro e wx ⟨rfl, b⟩; have BB := Lib.hid (BB.out.trans (b.mono BB.out.size)); clear b)
              | (go_at_call 24; (with_reducible refine (awake16_any HI _).mono ?_); rintro e wx ⟨rfl, b⟩; have BB := Lib.hid (BB.out.trans (b.mono BB.out.size)); clear b)
              | go_in)
            go_ret
            exact ⟨rfl, BB.out⟩
          · obtain ⟨i, hi, hil, hia⟩ := tset_both_no hin
            have HZ := Lib.hid hi
            by_cases ha : ∀ s ∈ L2.map (·.1), s ∈ L1.map (·.1)
            · obtain ⟨x, hx, _⟩ := tset_ok hd (x := 0) 0 ha
              obtain ⟨y, _, hy, _⟩ := tset_no (l := L3.map (·.1)) (x := 0) 0 (fun hb => hin ⟨ha, hb⟩)
              rw [Nat.zero_add] at hy
              have hia := hia ha
              rw [List.length_map, hL2.len] at hia
              have HST2 := Lib.hid (fun (w1 : World) (b : Below w.heap.size w w1) (g : Nat) (P : World → Prop) (hc : RwC (L1.map (·.1)) g P) (hp : P w1) => (by
          have := hc.set A2 n2 c2 L2 hp (hL2.up b) (by omega) k2'
          unfold RSetTo at this
          rw [hx] at this
          exact this : Calls Try.prog 30 #[.pointer (some ⟨g, 0, none⟩), .slice A2 n2 c2] w1 fun e w' => e = .returned (.tuple #[.int .u64 (x : Int), .int .i64 0, .int .i64 0]) ∧ Below w1.heap.size w1 w'))
              have HST3 := Lib.hid (fun (w1 : World) (b : Below w.heap.size w w1) (g : Nat) (P : World → Prop) (hc : RwC (L1.map (·.1)) g P) (hp : P w1) => (by
          have := hc.set A3 n3 c3 L3 hp (hL3.up b) (by omega) k3'
          unfold RSetTo at this
          rw [hy] at this
          exact this : Calls Try.prog 30 #[.pointer (some ⟨g, 0, none⟩), .slice A3 n3 c3] w1 fun e w' => e = .returned (.tuple #[.int .u64 0, .int .i64 (y : Int), .int .i64 13]) ∧ Below w1.heap.size w1 w'))
              have hge : decide ((n2 : Int) ≤ (i : Int)) = true := decide_eq_true (by omega)
              clear hx hy h hd h64 hin k1' hi hil ha hL1
              go_enter Try.func8, Try.ntmps8
              go_wp2_with (first
                | (go_at_call 29; (with_reducible refine HG1.out.mono ?_); rintro e wx ⟨rfl, b⟩; have BB := Lib.hid b; clear b)
                | (go_at_call 29; (with_reducible refine (HG2.out _ BB.out).mono ?_); rintro e wx ⟨rfl, b⟩; have BB := Lib.hid (BB.out.trans (b.mono BB.out.size)); clear b)
                | (go_at_call 29; (with_reducible refine (HG3.out _ BB.out).mono ?_); rintro e wx ⟨rfl, b⟩; have BB := Lib.hid (BB.out.trans (b.mono BB.out.size)); clear b)
                | (go_at_call 23; (with_reducible refine (HNW.out _ BB.out).mono ?_); rintro e wx ⟨b, g, P, rfl, hc, hp⟩; have BB := Lib.hid (BB.out.trans (b.mono BB.out.size)); have HC := Lib.hid hc; have HP := Lib.hid hp; clear hc hp; clear b)
                | (go_at_call 30; (with_reducible refine (HST2.out _ BB.out _ _ HC.out HP.out).mono ?_); rintro e wx ⟨rfl, b⟩; have BB := Lib.hid (BB.out.trans (b.mono BB.out.size)); have HP := Lib.hid (HC.out.stay HP.out b); clear b)
                | (go_at_call 30; (with_reducible refine (HST3.out _ BB.out _ _ HC.out HP.out).mono ?_); rintro e wx ⟨rfl, b⟩; have BB := Lib.hid (BB.out.trans (b.mono BB.out.size)); have HP := Lib.hid (HC.out.stay HP.out b); clear b)
                | (at_builtin; refine Hid.out ?_)
                | go_in)
              refine Lib.hid ?_
              have hbe := (Below.refl wx.heap.size wx).alloc (Nat.le_refl _) (.cells #[] 44)
              have hc2 := ((hL2.up BB.out).below hbe).cells
              refine wpList_moreN rfl (.tmp 52) (.tmp 53) 41 rfl rowN wx _ wx.heap.size _ _ _ (ncs L2) rfl (Own.empty wx wx.heap.size 44 2 (Nat.le_refl _)) A2 n2 c2 (by simp [Act.eval]) (by rw [ncs_len, hL2.len]) hc2 ncs_one hbe (by omega) (by omega) ?_
              intro v2 w6 ho2 hb6
              have hc3 := ((hL3.up BB.out).below hb6).cells
              go_wp2_with (first
                | (at_builtin; refine Hid.out ?_)
                | go_in)
              refine Lib.hid ?_
              refine wpList_moreN rfl (.tmp 54) (.tmp 55) 41 rfl rowN wx _ wx.heap.size _ _ _ (ncs L3) rfl ho2 A3 n3 c3 (by simp [Act.eval]) (by rw [ncs_len, hL3.len]) hc3 ncs_one hb6 (by omega) (by omega) ?_
              intro v3 w7 ho3 hb7
              rw [List.nil_append, ← ncs_app] at ho3
              obtain ⟨A5, c5, rfl⟩ := ho3.form
              have hS := ShW.of_own ho3 (by rw [List.length_append, hL2.len, hL3.len]; omega)
              rw [Nat.zero_add] at hS
              have BB := Lib.hid (BB.out.trans (hb7.mono BB.out.size))
              have hPx := HC.out.stay HP.out hb7
              have hSab := HC.out.set A5 (n2 + n3) c5 (L2 ++ L3) hPx hS (by omega) k23
              unfold RSetTo at hSab
              rw [List.map_append, HZ.out] at hSab
              have HSab := Lib.hid hSab
              clear hSab hS ho3 ho2 hc2 hc3
              go_wp2_with (first
                | (go_at_call 30; (with_reducible refine (HSab.out).mono ?_); rintro e wx ⟨rfl, b⟩; have BB := Lib.hid (BB.out.trans (b.mono BB.out.size)); clear b)
                | (go_at_call 24; (with_reducible refine (awake16_any HI _).mono ?_); rintro e wx ⟨rfl, b⟩; have BB := Lib.hid (BB.out.trans (b.mono BB.out.size)); clear b)
                | go_in)
              go_ret
              exact ⟨rfl, BB.out⟩
            · obtain ⟨x, _, hx, _⟩ := tset_no (l := L2.map (·.1)) (x := 0) 0 ha
              rw [Nat.zero_add] at hx
              obtain ⟨y, hy⟩ : ∃ y, tset (L1.map (·.1)) (L3.map (·.1)) 0 0 = y := ⟨_, rfl⟩
              obtain ⟨y, yi, ye⟩ := y
              have HST2 := Lib.hid (fun (w1 : World) (b : Below w.heap.size w w1) (g : Nat) (P : World → Prop) (hc : RwC (L1.map (·.1)) g P) (hp : P w1) => (by
          have := hc.set A2 n2 c2 L2 hp (hL2.up b) (by omega) k2'
          unfold RSetTo at this
          rw [hx] at this
          exact this : Calls Try.prog 30 #[.pointer (some ⟨g, 0, none⟩), .slice A2 n2 c2] w1 fun e w' => e = .returned (.tuple #[.int .u64 0, .int .i64 (x : Int), .int .i64 13]) ∧ Below w1.heap.size w1 w'))
              have HST3 := Lib.hid (fun (w1 : World) (b : Below w.heap.size w w1) (g : Nat) (P : World → Prop) (hc : RwC (L1.map (·.1)) g P) (hp : P w1) => (by
          have := hc.set A3 n3 c3 L3 hp (hL3.up b) (by omega) k3'
          unfold RSetTo at this
          rw [hy] at this
          exact this : Calls Try.prog 30 #[.pointer (some ⟨g, 0, none⟩), .slice A3 n3 c3] w1 fun e w' => e = .returned (.tuple #[.int .u64 (y : Int), .int .i64 (yi : Int), .int .i64 (ye : Int)]) ∧ Below w1.heap.size w1 w'))
              clear hx hy h hd h64 hin k1' hi hil hia ha hL1
              go_enter Try.func8, Try.ntmps8
              go_wp2_with (first
                | (go_at_call 29; (with_reducible refine HG1.out.mono ?_); rintro e wx ⟨rfl, b⟩; have BB := Lib.hid b; clear b)
                | (go_at_call 29; (with_reducible refine (HG2.out _ BB.out).mono ?_); rintro e wx ⟨rfl, b⟩; have BB := Lib.hid (BB.out.trans (b.mono BB.out.size)); clear b)
                | (go_at_call 29; (with_reducible refine (HG3.out _ BB.out).mono ?_); rintro e wx ⟨rfl, b⟩; have BB := Lib.hid (BB.out.trans (b.mono BB.out.size)); clear b)
                | (go_at_call 23; (with_reducible refine (HNW.out _ BB.out).mono ?_); rintro e wx ⟨b, g, P, rfl, hc, hp⟩; have BB := Lib.hid (BB.out.trans (b.mono BB.out.size)); have HC := Lib.hid hc; have HP := Lib.hid hp; clear hc hp; clear b)
                | (go_at_call 30; (with_reducible refine (HST2.out _ BB.out _ _ HC.out HP.out).mono ?_); rintro e wx ⟨rfl, b⟩; have BB := Lib.hid (BB.out.trans (b.mono BB.out.size)); have HP := Lib.hid (HC.out.stay HP.out b); clear b)
                | (go_at_call 30; (with_reducible refine (HST3.out _ BB.out _ _ HC.out HP.out).mono ?_); rintro e wx ⟨rfl, b⟩; have BB := Lib.hid (BB.out.trans (b.mono BB.out.size)); have HP := Lib.hid (HC.out.stay HP.out b); clear b)
                | (at_builtin; refine Hid.out ?_)
                | go_in)
              refine Lib.hid ?_
              have hbe := (Below.refl wx.heap.size wx).alloc (Nat.le_refl _) (.cells #[] 44)
              have hc2 := ((hL2.up BB.out).below hbe).cells
              refine wpList_moreN rfl (.tmp 52) (.tmp 53) 41 rfl rowN wx _ wx.heap.size _ _ _ (ncs L2) rfl (Own.empty wx wx.heap.size 44 2 (Nat.le_refl _)) A2 n2 c2 (by simp [Act.eval]) (by rw [ncs_len, hL2.len]) hc2 ncs_one hbe (by omega) (by omega) ?_
              intro v2 w6 ho2 hb6
              have hc3 := ((hL3.up BB.out).below hb6).cells
              go_wp2_with (first
                | (at_builtin; refine Hid.out ?_)
                | go_in)
              refine Lib.hid ?_
              refine wpList_moreN rfl (.tmp 54) (.tmp 55) 41 rfl rowN wx _ wx.heap.size _ _ _ (ncs L3) rfl ho2 A3 n3 c3 (by simp [Act.eval]) (by rw [ncs_len, hL3.len]) hc3 ncs_one hb6 (by omega) (by omega) ?_
              intro v3 w7 ho3 hb7
              rw [List.nil_append, ← ncs_app] at ho3
              obtain ⟨A5, c5, rfl⟩ := ho3.form
              have hS := ShW.of_own ho3 (by rw [List.length_append, hL2.len, hL3.len]; omega)
              rw [Nat.zero_add] at hS
              have BB := Lib.hid (BB.out.trans (hb7.mono BB.out.size))
              have hPx := HC.out.stay HP.out hb7
              have hSab := HC.out.set A5 (n2 + n3) c5 (L2 ++ L3) hPx hS (by omega) k23
              unfold RSetTo at hSab
              rw [List.map_append, HZ.out] at hSab
              have HSab := Lib.hid hSab
              clear hSab hS ho3 ho2 hc2 hc3
              go_wp2_with (first
                | (go_at_call 30; (with_reducible refine (HSab.out).mono ?_); rintro e wx ⟨rfl, b⟩; have BB := Lib.hid (BB.out.trans (b.mono BB.out.size)); clear b)
                | (go_at_call 24; (with_reducible refine (awake16_any HI _).mono ?_); rintro e wx ⟨rfl, b⟩; have BB := Lib.hid (BB.out.trans (b.mono BB.out.size)); clear b)
                | go_in)
              go_ret
              exact ⟨rfl, BB.out⟩
        · have HNW := Lib.hid (fun (w1 : World) (b : Below w.heap.size w w1) => HI.no (c := c1) (hL1.up b) (by omega) k1' h)
          have HS2 := Lib.hid (fun (w1 : World) (b : Below w.heap.size w w1) => HI.nset w1 A2 n2 c2 L2 (hL2.up b) (by omega) k2')
          have HS3 := Lib.hid (fun (w1 : World) (b : Below w.heap.size w w1) => HI.nset w1 A3 n3 c3 L3 (hL3.up b) (by omega) k3')
          obtain ⟨z2, hz2⟩ : ∃ z : Int, (if n2 = 0 then (0 : Int) else 13) = z := ⟨_, rfl⟩
          obtain ⟨z3, hz3⟩ : ∃ z : Int, (if n3 = 0 then (0 : Int) else 13) = z := ⟨_, rfl⟩
          rw [hz2] at HS2
          rw [hz3] at HS3
          have hx0 : ((x : Int) == 0) = false := by simpa using hx
          have hx1 : ((x : Int) != 0) = true := by simpa using hx
          clear hz2 hz3 h hx k1' hL1
          go_enter Try.func8, Try.ntmps8
          go_wp2_with (first
            | (go_at_call 29; (with_reducible refine HG1.out.mono ?_); rintro e wx ⟨rfl, b⟩; have BB := Lib.hid b; clear b)
            | (go_at_call 29; (with_reducible refine (HG2.out _ BB.out).mono ?_); rintro e wx ⟨rfl, b⟩; have BB := Lib.hid (BB.out.trans (b.mono BB.out.size)); clear b)
            | (go_at_call 29; (with_reducible refine (HG3.out _ BB.out).mono ?_); rintro e wx ⟨rfl, b⟩; have BB := Lib.hid (BB.out.trans (b.mono BB.out.size)); clear b)
            | (go_at_call 23; (with_reducible refine (HNW.out _ BB.out).mono ?_); rintro e wx ⟨b, rfl⟩; have BB := Lib.hid (BB.out.trans (b.mono BB.out.size)); clear b)
            | (go_at_call 30; (with_reducible refine (HS2.out _ BB.out).mono ?_); rintro e wx ⟨rfl, b⟩; have BB := Lib.hid (BB.out.trans (b.mono BB.out.size)); clear b)
            | (go_at_call 30; (with_reducible refine (HS3.out _ BB.out).mono ?_); rintro e wx ⟨rfl, b⟩; have BB := Lib.hid (BB.out.trans (b.mono BB.out.size)); clear b)
            | (at_builtin; refine Hid.out ?_)
            | go_in)
          refine Lib.hid ?_
          have hbe := (Below.refl wx.heap.size wx).alloc (Nat.le_refl _) (.cells #[] 44)
          have hc2 := ((hL2.up BB.out).below hbe).cells
          refine wpList_moreN rfl (.tmp 52) (.tmp 53) 41 rfl rowN wx _ wx.heap.size _ _ _ (ncs L2) rfl (Own.empty wx wx.heap.size 44 2 (Nat.le_refl _)) A2 n2 c2 (by simp [Act.eval]) (by rw [ncs_len, hL2.len]) hc2 ncs_one hbe (by omega) (by omega) ?_
          intro v2 w6 ho2 hb6
          have hc3 := ((hL3.up BB.out).below hb6).cells
          go_wp2_with (first
            | (at_builtin; refine Hid.out ?_)
            | go_in)
          refine Lib.hid ?_
          refine wpList_moreN rfl (.tmp 54) (.tmp 55) 41 rfl rowN wx _ wx.heap.size _ _ _ (ncs L3) rfl ho2 A3 n3 c3 (by simp [Act.eval]) (by rw [ncs_len, hL3.len]) hc3 ncs_one hb6 (by omega) (by omega) ?_
          intro v3 w7 ho3 hb7
          rw [List.nil_append, ← ncs_app] at ho3
          obtain ⟨A5, c5, rfl⟩ := ho3.form
          have hS := ShW.of_own ho3 (by rw [List.length_append, hL2.len, hL3.len]; omega)
          rw [Nat.zero_add] at hS
          have BB := Lib.hid (BB.out.trans (hb7.mono BB.out.size))
          have hSab := HI.nset _ A5 (n2 + n3) c5 (L2 ++ L3) hS (by omega) k23
          obtain ⟨z, hz⟩ : ∃ z : Int, (if n2 + n3 = 0 then (0 : Int) else 13) = z := ⟨_, rfl⟩
          rw [hz] at hSab
          have HSab := Lib.hid hSab
          clear hz hSab
          clear hS ho3 ho2 hc2 hc3
          go_wp2_with (first
            | (go_at_call 30; (with_reducible refine (HSab.out).mono ?_); rintro e wx ⟨rfl, b⟩; have BB := Lib.hid (BB.out.trans (b.mono BB.out.size)); clear b)
            | (go_at_call 24; (with_reducible refine (awake16_any HI _).mono ?_); rintro e wx ⟨rfl, b⟩; have BB := Lib.hid (BB.out.trans (b.mono BB.out.size)); clear b)
            | go_in)
          go_ret
          exact ⟨rfl, BB.out⟩
end Go.Proofs.Ythdfoahnkkkbmaa
