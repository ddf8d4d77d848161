/-
  CONTRACT OF 'record.All'.
-/
import Derived.Test.YthfhhgjjnpcmgaaRecGet
import Derived.Test.YthfhhgjjnpcmgaaPush
import Derived.WalkMore
namespace Go.Proofs.Ythfhhgjjnpcmgaa
set_option linter.unusedVariables false
set_option linter.unusedSimpArgs false
open Go.RowKit

theorem rowR : RowT Try.prog 45 30 2 32 := RowT.mk (z := .agg #[.int .i64 0, .slice none 0 0]) Try.underlying45 (by kernel_rfl) rfl (by omega)

/-- A record that was read: its kind, its payload. -/
abbrev Qc := Int × Pc
def Qc.cells (q : Qc) : List Value := [.int .i64 q.1, q.2.val]
def rcs (L : List Qc) : List Value := L.flatMap Qc.cells
def pays (L : List Qc) : List (Int × List Int) := L.map fun q => (q.1, q.2.2.2.2)
theorem rcs_snoc (L : List Qc) (q : Qc) : rcs (L ++ [q]) = rcs L ++ q.cells := by simp [rcs]
theorem pays_snoc (L : List Qc) (q : Qc) : pays (L ++ [q]) = pays L ++ [(q.1, q.2.2.2.2)] := by simp [pays]
theorem rcs_at {L : List Qc} {j : Nat} {q : Qc} (h : L[j]? = some q) : (rcs L)[2 * j]? = some (.int .i64 q.1) ∧ (rcs L)[2 * j + 1]? = some q.2.val := by
  induction L generalizing j with
  | nil => simp at h
  | cons p L ih =>
    have e : rcs (p :: L) = .int .i64 p.1 :: p.2.val :: rcs L := by simp [rcs, Qc.cells]
    cases j with
    | zero => cases h; rw [e]; exact ⟨rfl, rfl⟩
    | succ j =>
      have := ih (j := j) (by simpa using h)
      rw [e, show 2 * (j + 1) = 2 * j + 1 + 1 by omega]
      simpa using this
/-- Their payloads lie in blocks of their own, from B on. -/
def Shown (w : World) (B : Nat) (L : List Qc) : Prop := ∀ q ∈ L, Own w B 5 1 q.2.val q.2.2.1 (by8 q.2.2.2.2)
theorem Shown.upon {w w' : World} {g B : Nat} {L : List Qc} (h : Shown w B L) (u : Upon g w w') (hg : g < B) : Shown w' B L := fun q hq => (h q hq).upon u hg
theorem Shown.alloc {w : World} {B : Nat} {L : List Qc} (h : Shown w B L) (o : Obj) : Shown (w.alloc o) B L := fun q hq => (h q hq).alloc o
theorem Shown.other {w w' : World} {B B' n' size' : Nat} {e' : TypeId} {v' : Value} {xs' : List Value} {L : List Qc} (h : Shown w B L) (h' : Own w B' e' size' v' n' xs') (hne : 5 ≠ e') (hg : w.grownBy w' v'.ownBlock) : Shown w' B L := fun q hq => (h q hq).other h' hne hg
theorem Shown.snoc {w : World} {B : Nat} {L : List Qc} {q : Qc} (h : Shown w B L) (h1 : Own w B 5 1 q.2.val q.2.2.1 (by8 q.2.2.2.2)) : Shown w B (L ++ [q]) := fun p hp => by
  rcases List.mem_append.1 hp with hp | hp
  · exact h p hp
  · simp at hp
    subst hp
    exact h1

/-- What All answers. -/
def AllTo (g k n : Nat) (bs : List Int) (w : World) (e : Ending) (w' : World) : Prop :=
  ∃ (v : Value) (L : List Qc) (u : Nat) (d' : Bool) (k' : Nat), e = .returned (.tuple #[v, .int .i64 (u : Int)]) ∧ Own w' w.heap.size 30 2 v L.length (rcs L) ∧ Reads bs (pays L) u ∧ (rget (bs.drop u)).err ≠ 0 ∧ u ≤ n ∧ 9 * L.length ≤ u ∧ Shown w' w.heap.size L ∧ Smr w' g d' k' ∧ k' ≤ k + 2 * n + 2 ∧ Upon g w w'

set_option maxRecDepth 10000 in
set_option maxHeartbeats 1600000 in
theorem all_any (g k : Nat) (d : Bool) (A : Option Addr) (n c : Nat) (bs : List Int) (w : World) (U : Nat) (h : Smr w g d k) (hk : k ≤ 700000000) (hnc : n ≤ c) (hn : n ≤ 1000000) (hcA : c = 0 ∨ ∃ b off, A = some ⟨b, off, none⟩) (hcm : c ≤ maxLen) (hb : Byt bs) (hU : U ≤ w.heap.size) (hx : Sh w U A n (by8 bs)) (hA : Off A n g) :
    Calls Try.prog 17 #[.pointer (some ⟨g, 0, none⟩), .slice A n c] w (AllTo g k n bs w) := by
  have hg := h.lt
  have hl : bs.length = n := by have := hx.len; rwa [by8_len] at this
  have hz := zeroRec
  have HL := Lib.hid hl
  unfold maxLen at hcm
  go_enter Try.func17, Try.ntmps17
  go_wp2
  go_step3
  go_wp2
  go_step3
  go_wp2
  go_loopw [4, 5] (fun v i wr => ∃ (L : List Qc) (u : Nat) (d' : Bool) (k' : Nat), i = .int .i64 (u : Int) ∧ u ≤ n ∧ Own wr w.heap.size 30 2 v L.length (rcs L) ∧ Reads bs (pays L) u ∧ 9 * L.length ≤ u ∧ Shown wr w.heap.size L ∧ Smr wr g d' k' ∧ k' ≤ k + 2 * u ∧ Upon g w wr) (fun _ i _ => n - (intOf i).toNat)
  case atStart => exact ⟨[], 0, d, k, rfl, Nat.zero_le _, Own.nil _ _ _ _ (Nat.le_refl _), .nil, by simp, fun q hq => by simp at hq, h, by omega, Upon.refl _ _⟩
  case round =>
    obtain ⟨L, u, d', k', rfl, hu, ho, hrd, h9, hsh, hs, hk', hup⟩ := hrel
    have HO := Lib.hid ho
    have HRD := Lib.hid hrd
    have HSH := Lib.hid hsh
    have HS := Lib.hid hs
    have HUP := Lib.hid hup
    have hgr := hs.lt
    have hgood := rget_good (l := bs.drop u)
    obtain ⟨R, hR⟩ : ∃ R, rget (bs.drop u) = R := ⟨_, rfl⟩
    rw [hR] at hgood
    have HR := Lib.hid hR
    have HG : Hid (∀ T c', n - u ≤ c' → (u < n → ∃ b off, A = some ⟨b, off, none⟩ ∧ T = some ⟨b, off + u, none⟩) → Calls Try.prog 13 #[.pointer (some ⟨g, 0, none⟩), .slice T (n - u) c'] wr (GetsTo g k' wr R)) := Lib.hid fun T c' hc' hT => by
      have hwr := hx.upon hup hU hA
      have hp := hwr.piece (lo := u) (hi := n) hu (Nat.le_refl _) (A' := T) (fun b off e hlt => by
        obtain ⟨b', off', e', rfl⟩ := hT hlt
        rw [e] at e'
        cases e'
        rfl)
      rw [by8_take, by8_drop, List.take_of_length_le (by omega)] at hp
      rw [← hR]
      refine getr_any g k' d' T (n - u) c' (bs.drop u) wr U hs (by omega) hc' (by omega) (hb.drop u) (by have := hup.size; omega) hp ?_
      intro hn' a ha
      obtain ⟨b, off, e', rfl⟩ := hT (by omega)
      cases ha
      exact hA (by omega) ⟨b, off, none⟩ e'
    clear ho hrd hsh hs hup hR
    by_cases he : R.err = 0
    · obtain ⟨hu1, hu2⟩ := hgood he
      rw [List.length_drop, hl] at hu2
      have HGU := Lib.hid hu1
      have HNX := Lib.hid (HRD.out.next HR.out he)
      obtain ⟨b, off, rfl⟩ : ∃ b off, A = some ⟨b, off, none⟩ := by
        rcases hcA with h0 | h0
        · omega
        · exact h0
      have hcu : ¬ c = u := by omega
      have hun : u + R.used ≤ n := by omega
      clear hx hA hcA h hgood hu1
      go_wp2_with (first
        | (go_at_call 13; refine (HG.out _ _ (by omega) (fun _ => ⟨b, off, rfl, rfl⟩)).mono ?_; rintro e w1 ⟨v1, d1, k1, rfl, ho1, hs1, hk1, hu1⟩; obtain ⟨P1, c1, rfl⟩ := ho1.form; have O1 := Lib.hid (ho1.lower HUP.out.size); have S1 := Lib.hid hs1; have U1 := Lib.hid hu1; clear ho1 hs1 hu1)
        | (at_builtin; refine wpList_push_g rfl (.tmp 21) (.tmp 23) 45 rfl rowR _ w.heap.size _ L.length (rcs L) [.int .i64 R.kind, .slice P1 R.pay.length c1] rfl ((HO.out.upon U1.out hg).alloc _) rfl (by simp) rfl (by intro z hz; simp at hz; rcases hz with rfl | rfl <;> rfl) (by omega) (by omega) ?_; intro v2 w2 ho2 hg2)
        | fail)
      have OW := ((HO.out.upon U1.out hg).alloc (.cells #[.int .i64 R.kind, .slice P1 R.pay.length c1] 30)).alloc (.cells #[.int .i64 R.kind, .slice P1 R.pay.length c1] 30)
      have hge := OW.block_ge
      have hlen : (L ++ [((R.kind, P1, R.pay.length, c1, R.pay) : Qc)]).length = L.length + 1 := by simp
      go_roundw
      case rel =>
        refine ⟨L ++ [(R.kind, P1, R.pay.length, c1, R.pay)], u + R.used, d1, k1, by go_num, hun, ho2.cast hlen.symm (rcs_snoc L (R.kind, P1, R.pay.length, c1, R.pay)).symm, ?_, by rw [hlen, HGU.out]; omega, ?_, ((S1.out.alloc _).alloc _).grown hg2 (fun j hj => Nat.lt_of_lt_of_le hg (hge j hj)), by rw [HGU.out]; omega, ((HUP.out.trans U1.out).alloc _).alloc _ |>.grown hg2 hge⟩
        · rw [pays_snoc]; exact HNX.out
        · exact (((HSH.out.upon U1.out hg).alloc _).alloc _).other OW (by decide) hg2 |>.snoc (((O1.out.alloc _).alloc _).other OW (by decide) hg2)
      case measure => have := HGU.out; simp [intOf]; omega
    · have hne : (R.err == 0) = false := by simpa using he
      have HNE := Lib.hid he
      by_cases hcu : c = u
      · have HT : Hid (u = n) := Lib.hid (by omega)
        have HC : Hid (n - u ≤ 0) := Lib.hid (by omega)
        clear hx hA hcA h he
        go_wp2_with (first | (go_at_call 13; refine (HG.out _ _ HC.out (fun h => absurd h (by rw [HT.out]; exact Nat.lt_irrefl _))).mono ?_; rintro e w1 ⟨v1, d1, k1, rfl, ho1, hs1, hk1, hu1⟩; obtain ⟨P1, c1, rfl⟩ := ho1.form; have S1 := Lib.hid hs1; have U1 := Lib.hid hu1; clear ho1 hs1 hu1) | fail)
        rw [Exit.noGoto_ret]
        go_ret2
        exact ⟨_, L, u, d1, k1, rfl, (HO.out.upon U1.out hg).alloc _, HRD.out, (by rw [HR.out]; exact HNE.out), hu, h9, (HSH.out.upon U1.out hg).alloc _, S1.out.alloc _, (by omega), (HUP.out.trans U1.out).alloc _⟩
      · obtain ⟨b, off, rfl⟩ : ∃ b off, A = some ⟨b, off, none⟩ := by
          rcases hcA with h0 | h0
          · omega
          · exact h0
        clear hx hA hcA h he
        go_wp2_with (first | (go_at_call 13; refine (HG.out _ _ (by omega) (fun _ => ⟨b, off, rfl, rfl⟩)).mono ?_; rintro e w1 ⟨v1, d1, k1, rfl, ho1, hs1, hk1, hu1⟩; obtain ⟨P1, c1, rfl⟩ := ho1.form; have S1 := Lib.hid hs1; have U1 := Lib.hid hu1; clear ho1 hs1 hu1) | fail)
        rw [Exit.noGoto_ret]
        go_ret2
        exact ⟨_, L, u, d1, k1, rfl, (HO.out.upon U1.out hg).alloc _, HRD.out, (by rw [HR.out]; exact HNE.out), hu, h9, (HSH.out.upon U1.out hg).alloc _, S1.out.alloc _, (by omega), (HUP.out.trans U1.out).alloc _⟩
end Go.Proofs.Ythfhhgjjnpcmgaa
