/-
  CONTRACT OF blazonref09.Deep; the words of two texts with a line's end between.
-/
import Derived.Test.YtpllkjfdaenalaaDoorStDp
import Derived.Test.YtpllkjfdaenalaaDoorStPa
import Derived.Test.YtpllkjfdaenalaaDoorEpX
import Derived.Test.YtpllkjfdaenalaaDoorEpD
namespace Go.Proofs.YtpllkjfdaenalaaDoor
set_option linter.unusedVariables false
set_option linter.unusedSimpArgs false
open Go.RowKit

theorem max2_int (a b : Int) (w : World) : (Builtin.max2 (.int .i64 a) (.int .i64 b)).run Tryd.prog w = .ok (.int .i64 (max a b)) w := by
  unfold Builtin.max2
  by_cases h : a < b
  · simp [h, Sem.run_pure]; omega
  · simp [h, Sem.run_pure]; omega
theorem max3_int (ts : Array TypeId) (t : TypeId) (a b c : Int) (w : World) : (Builtin.max_ ts t #[.int .i64 a, .int .i64 b, .int .i64 c]).run Tryd.prog w = .ok (.int .i64 (max (max a b) c)) w := by
  unfold Builtin.max_
  simp [Sem.run_bind, max2_int, Result.andThen_ok]
def DepS (l : List St) : Prop := ∀ (lv : Value) (w : World) (S : Nat → Prop), ShS w S lv l →
    Calls Tryd.prog 7 #[lv] w fun r w' => r = .returned (.int .i64 (dps l : Int)) ∧ Below w.heap.size w w'
set_option maxRecDepth 100000 in
set_option maxHeartbeats 1000000 in
theorem depS_any (l : List St) (hl : l.length ≤ 1000000) (hd : dps l ≤ 1000000) (IHl : ∀ x ∈ l, (x.k = 2 ∨ x.k = 3) → DepS x.l ∧ DepS x.r) : DepS l := by
  intro lv w S h
  have IH := Lib.hid IHl
  have HLE : Hid (∀ i x, l[i]? = some x → dps (l.take i) ≤ 1000000 ∧ x.dp ≤ 1000000 ∧ dps (l.take (i + 1)) = max (dps (l.take i)) x.dp) := Lib.hid fun i x hx => by
    have h1 := dps_take_le l i
    have h2 := dps_mem (List.mem_of_getElem? hx)
    exact ⟨by omega, by omega, dps_take hx⟩
  obtain ⟨A, c, rfl, _⟩ := h.len
  obtain ⟨n, hn⟩ : ∃ n, l.length = n := ⟨_, rfl⟩
  rw [hn] at h hl ⊢
  have HX := Lib.hid h
  have HN : Hid (dps (l.take n) = dps l) := Lib.hid (by rw [← hn, List.take_length])
  obtain ⟨D, hD⟩ : ∃ D, dps l = D := ⟨_, rfl⟩
  rw [hD] at HN hd ⊢
  clear h hn IHl hD
  go_enter Tryd.func7, Tryd.ntmps7
  go_wp2
  go_loopw [3, 4] (fun nv iv wr => ∃ i q : Nat, nv = .int .i64 (q : Int) ∧ iv = .int .i64 (i : Int) ∧ i ≤ n ∧ Hid (q = dps (l.take i)) ∧ Below w.heap.size w wr) (fun _ iv _ => n - (intOf iv).toNat)
  case atStart => exact ⟨0, 0, rfl, rfl, Nat.zero_le _, Lib.hid rfl, Below.refl _ _⟩
  case round =>
    obtain ⟨i, q, rfl, rfl, hi, HQ, hb⟩ := hrel
    have HB := Lib.hid hb
    clear hb
    by_cases hin : i < n
    · obtain ⟨b, off, x, tv, hA, hxi, _, hrg, htr, _, hbl⟩ := (HX.out.under HB.out).at hin
      subst hA
      obtain ⟨hq1, hx1, hq2⟩ := HLE.out i x hxi
      rw [← HQ.out] at hq1 hq2
      obtain ⟨ve, vl, vr⟩ := tv
      obtain ⟨Al, cl, rfl, _⟩ := htr.l.len
      obtain ⟨Ar, cr, rfl, _⟩ := htr.r.len
      have KS : Hid (∀ W, Below wr.heap.size wr W → W.cell? ⟨b, off + i * 17, none⟩ = some (.int .i64 x.k) ∧ W.cell? ⟨b, off + i * 17 + 15, none⟩ = some (.slice Al x.l.length cl) ∧ W.cell? ⟨b, off + i * 17 + 16, none⟩ = some (.slice Ar x.r.length cr)) := Lib.hid fun W hW => by
        have hb1 := hW.block b hbl
        exact ⟨(World.cell?_of_block (a := ⟨b, _, none⟩) hb1).trans (hrg 0 _ rfl), (World.cell?_of_block (a := ⟨b, _, none⟩) hb1).trans (hrg 15 _ rfl), (World.cell?_of_block (a := ⟨b, _, none⟩) hb1).trans (hrg 16 _ rfl)⟩
      obtain ⟨c0, c15, c16⟩ := KS.out wr (Below.refl _ _)
      by_cases hk : x.k = 2 ∨ x.k = 3
      · obtain ⟨IA, IB⟩ := IH.out x (List.mem_of_getElem? hxi) hk
        have hdp : x.dp = max (dps x.l) (dps x.r) + 1 := by rw [St.dp_eq, if_pos hk]
        have HTR := Lib.hid htr
        have HIA : Hid (∀ W, Below wr.heap.size wr W → Calls Tryd.prog 7 #[.slice Al x.l.length cl] W fun r w' => r = .returned (.int .i64 (dps x.l : Int)) ∧ Below W.heap.size W w') := Lib.hid fun W hW => IA _ W _ (htr.l.under hW)
        have HIB : Hid (∀ W, Below wr.heap.size wr W → Calls Tryd.prog 7 #[.slice Ar x.r.length cr] W fun r w' => r = .returned (.int .i64 (dps x.r : Int)) ∧ Below W.heap.size W w') := Lib.hid fun W hW => IB _ W _ (htr.r.under hW)
        obtain ⟨dl, hdl⟩ : ∃ d, dps x.l = d := ⟨_, rfl⟩
        obtain ⟨dr, hdr⟩ : ∃ d, dps x.r = d := ⟨_, rfl⟩
        rw [hdl] at HIA hdp
        rw [hdr] at HIB hdp
        have HD := Lib.hid hdp
        have hdl1 : dl ≤ 1000000 := by omega
        have hdr1 : dr ≤ 1000000 := by omega
        have HQ2 := Lib.hid hq2
        have HBD := Lib.hid (below_drew wr wr.heap.size)
        have hin2 : (i : Int) < (n : Int) := by omega
        have hx3 := fun ts t W => max3_int ts t (q : Int) ((1 : Int) + (dl : Int)) ((1 : Int) + (dr : Int)) W
        have hw1 : IntKind.i64.wrap ((1 : Int) + (dl : Int)) = (1 : Int) + (dl : Int) := IntWalk.i64_in _ (by omega)
        have hw2 : IntKind.i64.wrap ((1 : Int) + (dr : Int)) = (1 : Int) + (dr : Int) := IntWalk.i64_in _ (by omega)
        have hm1 : IntKind.i64.wrap (max (max (q : Int) ((1 : Int) + (dl : Int))) ((1 : Int) + (dr : Int))) = max (max (q : Int) ((1 : Int) + (dl : Int))) ((1 : Int) + (dr : Int)) := IntWalk.i64_in _ (by omega)
        clear htr hrg hxi hdl hdr hdp hq2 IA IB hx1
        have hks : (x.k == 2) = true ∨ ((x.k == 2) = false ∧ (x.k == 3) = true) := by
          rcases hk with h | h
          · left; simp [h]
          · right; simp [h]
        clear hk
        rcases hks with h2 | ⟨h2, h3⟩
        · have h2' : x.k = 2 := by simpa using h2
          have h2n : ¬ (x.k = 3) := by omega
          go_wp2_with fail
          go_region_held3 (fun W => W.cell? ⟨b, off + i * 17, none⟩ = some (.int .i64 x.k) ∧ W.cell? ⟨b, off + i * 17 + 15, none⟩ = some (.slice Al x.l.length cl) ∧ W.cell? ⟨b, off + i * 17 + 16, none⟩ = some (.slice Ar x.r.length cr)) (((try dsimp only); first | (with_reducible exact KS.out _ HBD.out) | ((repeat' apply And.intro) <;> first | (with_reducible assumption) | go_keep))) (first
            | (go_at_call 7; first
                | ((with_reducible refine (HIA.out _ HBD.out).mono ?_); rintro e w5 ⟨rfl, b5⟩; have HBD := Lib.hid (HBD.out.trans (b5.mono HBD.out.size)); clear b5)
                | ((with_reducible refine (HIB.out _ HBD.out).mono ?_); rintro e w5 ⟨rfl, b5⟩; have HBD := Lib.hid (HBD.out.trans (b5.mono HBD.out.size)); clear b5))
            | fail)
          go_wp2
          go_roundw
          case rel => exact ⟨i + 1, max q x.dp, by rw [HD.out]; congr 1; omega, by go_num, hin, Lib.hid HQ2.out.symm, HB.out.trans (HBD.out.mono HB.out.size)⟩
          case measure => simp [intOf]; omega
        · have h2' : ¬ x.k = 2 := by simpa using h2
          have h3' : x.k = 3 := by simpa using h3
          go_wp2_with fail
          go_region_held3 (fun W => W.cell? ⟨b, off + i * 17, none⟩ = some (.int .i64 x.k) ∧ W.cell? ⟨b, off + i * 17 + 15, none⟩ = some (.slice Al x.l.length cl) ∧ W.cell? ⟨b, off + i * 17 + 16, none⟩ = some (.slice Ar x.r.length cr)) (((try dsimp only); first | (with_reducible exact KS.out _ HBD.out) | ((repeat' apply And.intro) <;> first | (with_reducible assumption) | go_keep))) (first
            | (go_at_call 7; first
                | ((with_reducible refine (HIA.out _ HBD.out).mono ?_); rintro e w5 ⟨rfl, b5⟩; have HBD := Lib.hid (HBD.out.trans (b5.mono HBD.out.size)); clear b5)
                | ((with_reducible refine (HIB.out _ HBD.out).mono ?_); rintro e w5 ⟨rfl, b5⟩; have HBD := Lib.hid (HBD.out.trans (b5.mono HBD.out.size)); clear b5))
            | fail)
          go_wp2
          go_roundw
          case rel => exact ⟨i + 1, max q x.dp, by rw [HD.out]; congr 1; omega, by go_num, hin, Lib.hid HQ2.out.symm, HB.out.trans (HBD.out.mono HB.out.size)⟩
          case measure => simp [intOf]; omega
      · have h2' : ¬ x.k = 2 := fun h => hk (.inl h)
        have h3' : ¬ x.k = 3 := fun h => hk (.inr h)
        have h2 : (x.k == 2) = false := by simp [h2']
        have h3 : (x.k == 3) = false := by simp [h3']
        have hdp : x.dp = 0 := by rw [St.dp_eq, if_neg hk]
        have hin2 : (i : Int) < (n : Int) := by omega
        rw [hdp, Nat.max_eq_left (Nat.zero_le _)] at hq2
        have HQ2 := Lib.hid hq2
        clear htr hrg hxi hdp hq2 hx1 hk
        go_wp2
        go_roundw
        case rel => exact ⟨i + 1, q, rfl, by go_num, hin, Lib.hid HQ2.out.symm, HB.out⟩
        case measure => simp [intOf]; omega
    · obtain rfl : i = n := by omega
      have hq : q = D := by rw [HQ.out, HN.out]
      subst hq
      go_wp2
      go_ret
      exact ⟨rfl, HB.out⟩
theorem depT_any : ∀ s : St, s.wfs → s.dp ≤ 1000000 → (s.k = 2 ∨ s.k = 3) → DepS s.l ∧ DepS s.r := by
  refine St.ind fun k a nm ty an e l r ihl ihr => ?_
  intro h hd hk
  obtain ⟨h1, h2, h3, h4, h5⟩ := (St.wfs_eq _).1 h
  rw [St.dp_eq, if_pos hk] at hd
  have hdl : dps l ≤ 1000000 := by have : max (dps l) (dps r) + 1 ≤ 1000000 := hd; omega
  have hdr : dps r ≤ 1000000 := by have : max (dps l) (dps r) + 1 ≤ 1000000 := hd; omega
  exact ⟨depS_any l h2 hdl fun x hx hk => ihl x hx (h4 x hx) (Nat.le_trans (dps_mem hx) hdl) hk, depS_any r h3 hdr fun x hx hk => ihr x hx (h5 x hx) (Nat.le_trans (dps_mem hx) hdr) hk⟩
/-- How deep a row is. -/
theorem deep_any (l : List St) (hl : l.length ≤ 1000000) (hd : dps l ≤ 1000000) (h : ∀ x ∈ l, x.wfs) : DepS l := depS_any l hl hd fun x hx hk => depT_any x (h x hx) (Nat.le_trans (dps_mem hx) hd) hk

/-- What Parse's answer is like. -/
theorem parseS_facts {bs : List Int} (hb : Byt8 bs) (hn : bs.length ≤ 1000000) (F f : Nat) :
    dps (parseS (rowT (strOfNums bs) (live bs 0)) (live bs 0) F f).1 ≤ 32 ∧ (∀ x ∈ (parseS (rowT (strOfNums bs) (live bs 0)) (live bs 0) F f).1, x.wfs) ∧ (parseS (rowT (strOfNums bs) (live bs 0)) (live bs 0) F f).1.length ≤ bs.length := by
  have hok := row_ok (strOfNums bs) (live bs 0)
  have hll := live_len bs
  have hnil : dps ([] : List St) ≤ 32 ∧ (∀ x ∈ ([] : List St), x.wfs) ∧ ([] : List St).length ≤ bs.length := ⟨Nat.zero_le _, (fun x hx => by cases hx), Nat.zero_le _⟩
  have h1 := rs_dp (R := rowT (strOfNums bs) (live bs 0)) (F := F) f (.row []) 0 0 32 (by omega) (by omega)
  have h2 := rs_wf hok (by show (live bs 0).length ≤ 1000000; omega) (F := F) f (.row []) 0 0 (Nat.zero_le _)
  have hRn : (rowT (strOfNums bs) (live bs 0)).n = (live bs 0).length := rfl
  unfold parseS
  generalize rs (rowT (strOfNums bs) (live bs 0)) F f (.row []) 0 0 = g at h1 h2 ⊢
  split
  · exact hnil
  split
  · rename_i h0
    obtain ⟨w1, w2⟩ := h2 h0 (fun x hx => by cases hx) (Nat.le_refl _)
    split
    · exact ⟨h1 h0 (Nat.zero_le _), w1, by show g.l.length ≤ _; omega⟩
    · exact hnil
  · exact hnil
/-- A row's beginning. -/
theorem ShS.take {w : World} {S : Nat → Prop} {A : Option Addr} {n c : Nat} {l k : List St} (h : ShS w S (.slice A n c) (l ++ k)) : ShS w S (.slice A l.length c) l := by
  obtain ⟨lv, hlv⟩ : ∃ lv, lv = Value.slice A n c := ⟨_, rfl⟩
  obtain ⟨L, hL⟩ : ∃ L, L = l ++ k := ⟨_, rfl⟩
  rw [← hlv, ← hL] at h
  cases h with
  | emp A' c' =>
    have : l = [] := by cases l with | nil => rfl | cons a l => cases hL
    subst this
    exact .emp A c
  | row b off n' c' l' vs hl hn hnc hb hlt hc he hs hr =>
    injection hlv with e1 e2 e3
    subst e1 e2 e3
    subst hL
    cases l with
    | nil => exact .emp _ _
    | cons a l =>
      have hg : ∀ (j : Nat) (x : St), (a :: l)[j]? = some x → ((a :: l) ++ k)[j]? = some x := fun j x hx => by rw [List.getElem?_append_left (List.getElem?_eq_some_iff.1 hx).1]; exact hx
      have hle : (a :: l).length ≤ ((a :: l) ++ k).length := by rw [List.length_append]; omega
      exact .row b off (a :: l).length c' (a :: l) vs rfl (by simp) (by omega) hb hlt (fun j x hx => hc j x (hg j x hx)) (fun j x hx => he j x (hg j x hx)) (fun j x hx => hs j x (hg j x hx)) (fun j x hx => hr j x (hg j x hx))
end Go.Proofs.YtpllkjfdaenalaaDoor
