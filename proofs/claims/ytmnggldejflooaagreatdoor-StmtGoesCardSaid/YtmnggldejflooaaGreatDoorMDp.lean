import Derived.Test.YtmnggldejflooaaGreatDoorStSm
import Derived.Test.YtmnggldejflooaaGreatDoorMSs
import Derived.Test.YtmnggldejflooaaGreatDoorMPa
import Derived.Test.YtmnggldejflooaaGreatDoorMEi
namespace Go.Proofs.YtmnggldejflooaaGreatDoor
set_option linter.unusedVariables false
set_option linter.unusedSimpArgs false
open Go.RowKit
def St.dp : St → Nat
 | .mk k a nm ty an e l r => if k = 2 ∨ k = 3 then max ((l.attach.map fun x => x.1.dp).foldr max 0) ((r.attach.map fun x => x.1.dp).foldr max 0) + 1 else 0
termination_by s => SizeOf.sizeOf s
decreasing_by
 ·exact St.lt_l x.2
 ·exact St.lt_r x.2
def dps (l : List St) : Nat := (l.map St.dp).foldr max 0
theorem St.dp_eq (s : St) : s.dp = if s.k = 2 ∨ s.k = 3 then max (dps s.l) (dps s.r) + 1 else 0 := by
 cases s
 rw [St.dp, List.attach_map_val (f := St.dp), List.attach_map_val (f := St.dp)]
 rfl
theorem dps_cons (x : St) (l : List St) : dps (x :: l) = max x.dp (dps l) := rfl
theorem dps_snoc (l : List St) (x : St) : dps (l ++ [x]) = max (dps l) x.dp := by
 induction l with
 | nil => show max x.dp 0 = max 0 x.dp; omega
 | cons y l ih => rw [List.cons_append, dps_cons, dps_cons, ih]; omega
theorem rs_dp {R : Rw} {F : Nat} : ∀ (f : Nat) (m : Ms) (p : Nat) (d : Int) (M : Nat), 0 ≤ d → (M : Int) + d = 32 → (rs R F f m p d).r = 0 → match m with
  | .row acc => dps acc ≤ M → dps (rs R F f m p d).l ≤ M
  | .st => (rs R F f m p d).s.dp ≤ M
  | .blk => dps (rs R F f m p d).l + 1 ≤ M := by
 intro f
 induction f with
 | zero =>
  intro m p d M _ _ h
  have : rs R F 0 m p d = bads p 99 := by cases m <;> rfl
  rw [this] at h; cases h
 | succ f ih =>
  intro m p d M hd hM h
  cases m with
  | row acc =>
   intro ha
   rw [rs_row] at h ⊢
   by_cases he : endsB R p = true
   ·rw [if_pos he]; exact ha
   ·rw [if_neg he] at h ⊢
    have h1 := ih .st p d M hd hM
    have h2 := fun acc q => ih (.row acc) q d M hd hM
    generalize rs R F f .st p d = g at h h1 ⊢
    by_cases h0 : g.r = 0
    ·rw [if_pos h0] at h ⊢
     exact h2 (acc ++ [g.s]) g.p h (by rw [dps_snoc]; have h1' : g.s.dp ≤ M := h1 h0; omega)
    ·rw [if_neg h0] at h; exact absurd h h0
  | blk =>
   show dps (rs R F (f + 1) .blk p d).l + 1 ≤ M
   rw [rs_blk] at h ⊢
   by_cases hb : R.is p [123] = true
   ·rw [if_pos hb] at h ⊢
    by_cases h32 : 32 ≤ d
    ·rw [if_pos h32] at h; cases h
    ·rw [if_neg h32] at h ⊢
     have h1 := ih (.row []) (p + 1) (d + 1) (M - 1) (by omega) (by omega)
     generalize rs R F f (.row []) (p + 1) (d + 1) = g at h h1 ⊢
     by_cases h0 : g.r = 0
     ·rw [if_pos h0] at h ⊢
      by_cases hk : R.is g.p [125] = true
      ·rw [if_pos hk]
       have h1' : dps g.l ≤ M - 1 := h1 h0 (Nat.zero_le _)
       show dps g.l + 1 ≤ M
       omega
      ·rw [if_neg hk] at h; cases h
     ·rw [if_neg h0] at h; exact absurd h h0
   ·rw [if_neg hb] at h; cases h
  | st =>
   show (rs R F (f + 1) .st p d).s.dp ≤ M
   rw [rs_st] at h ⊢
   have hn := hdS_nil R F p
   by_cases hr : (hdS R F p).2.2 = 0
   ·rw [if_pos hr] at h ⊢
    generalize (hdS R F p).1 = s at h hn ⊢
    generalize (hdS R F p).2.1 = q at h ⊢
    by_cases hk : s.k = 2 ∨ s.k = 3
    ·rw [if_pos hk] at h ⊢
     have h1 := ih .blk q d M hd hM
     have h2 := fun q => ih .blk q d M hd hM
     generalize rs R F f .blk q d = g at h h1 ⊢
     by_cases h0 : g.r = 0
     ·rw [if_pos h0] at h ⊢
      have h1' : dps g.l + 1 ≤ M := h1 h0
      by_cases he : s.k = 2 ∧ R.is g.p lElse = true
      ·rw [if_pos he] at h ⊢
       have h3 := h2 (g.p + 1)
       generalize rs R F f .blk (g.p + 1) d = g2 at h h3 ⊢
       by_cases h00 : g2.r = 0
       ·rw [if_pos h00]
        have h3' : dps g2.l + 1 ≤ M := h3 h00
        show ((s.setL g.l).setR g2.l).dp ≤ M
        rw [St.dp_eq]
        have e1 : ((s.setL g.l).setR g2.l).l = g.l := rfl
        have e2 : ((s.setL g.l).setR g2.l).r = g2.l := rfl
        have e3 : ((s.setL g.l).setR g2.l).k = s.k := rfl
        rw [e1, e2, e3, if_pos hk]
        omega
       ·rw [if_neg h00] at h; exact absurd h h00
      ·rw [if_neg he]
       show (s.setL g.l).dp ≤ M
       rw [St.dp_eq]
       have e1 : (s.setL g.l).l = g.l := rfl
       have e2 : (s.setL g.l).r = s.r := rfl
       have e3 : (s.setL g.l).k = s.k := rfl
       rw [e1, e2, e3, if_pos hk, hn.2]
       have : dps ([] : List St) = 0 := rfl
       omega
     ·rw [if_neg h0] at h; exact absurd h h0
    ·rw [if_neg hk]
     show s.dp ≤ M
     rw [St.dp_eq, if_neg hk]
     omega
   ·rw [if_neg hr] at h; exact absurd h hr
theorem pex_fine {R : Rw} (hR : R.Ok) (hn : R.n ≤ 1000000) {F : Nat} {p : Nat} {v : Ex} {q : Nat} (hp : p ≤ R.n) (h : pex R F (p, 0) = (v, q, 0)) : v.wfx := by
 unfold pex exS at h
 rw [if_pos rfl] at h
 dsimp only at h
 injection h with h1 h2
 injection h2 with _ h3
 have := rd_fine hR hn F (.lev 1) p 0 hp (fun h => by cases h) trivial h3
 rw [← h1]
 exact this.1.1
theorem hdS_wf {R : Rw} (hR : R.Ok) (hn : R.n ≤ 1000000) {F p : Nat} (hp : p ≤ R.n) (h : (hdS R F p).2.2 = 0) : (hdS R F p).1.e.wfx := by
 have nul : Ex.nul.wfx := by
  rw [Ex.wfx_eq]
  exact ⟨fun _ => rfl, by show 0 ≤ 1000000; omega, fun x hx => by cases hx⟩
 unfold hdS at h ⊢
 split at h
 ·rename_i c
  obtain ⟨q1, v2, q2, q3, v4, q4, v5, q5, q6, v7, q7, q8, e1, e2, e3, e4, e5, e6, e7, e8, e9, _⟩ := let_inv hR hp h
  rw [if_pos c, e9]
  exact pex_fine hR hn (by omega) e7
 rename_i c1
 rw [if_neg c1]
 split at h
 ·rename_i c
  obtain ⟨q0, q1, v2, q2, q3, e0, e1, e2, e3, e4, _⟩ := ask_inv (kk := 2) (x := 105) (t := [102]) hR hp h
  rw [if_pos c]
  show (askS R F 2 (R.ps p) ⟨#[105, 102]⟩ (p, 0)).1.e.wfx
  rw [show (⟨#[105, 102]⟩ : ByteArray) = ⟨([105, 102] : List UInt8).toArray⟩ from rfl, e4]
  exact pex_fine hR hn (by omega) e2
 rename_i c2
 rw [if_neg c2]
 split at h
 ·rename_i c
  obtain ⟨q0, q1, v2, q2, q3, e0, e1, e2, e3, e4, _⟩ := ask_inv (kk := 3) (x := 119) (t := [104, 105, 108, 101]) hR hp h
  rw [if_pos c]
  show (askS R F 3 (R.ps p) ⟨#[119, 104, 105, 108, 101]⟩ (p, 0)).1.e.wfx
  rw [show (⟨#[119, 104, 105, 108, 101]⟩ : ByteArray) = ⟨([119, 104, 105, 108, 101] : List UInt8).toArray⟩ from rfl, e4]
  exact pex_fine hR hn (by omega) e2
 rename_i c3
 rw [if_neg c3]
 split at h
 ·rename_i c
  obtain ⟨q1, v2, q2, q3, e1, e2, e3, e4, _⟩ := do_inv hR hp h
  rw [if_pos c, e4]
  exact nul
 ·rename_i c
  rw [if_neg c]
  obtain ⟨v1, q1, q2, e1, l1, l2, ⟨h2, v3, q3, q4, e2, e3, e4, e5, l3, l4, l5⟩ | ⟨h2, h3, e2, e5, l3⟩⟩ := pl_inv hR hp h
  ·rw [e5]
   exact pex_fine hR hn (by omega) e3
  ·rw [e5]
   exact pex_fine hR hn hp e1
theorem rs_wf {R : Rw} (hR : R.Ok) (hn : R.n ≤ 1000000) {F : Nat} : ∀ (f : Nat) (m : Ms) (p : Nat) (d : Int), p ≤ R.n → (rs R F f m p d).r = 0 → match m with
  | .row acc => (∀ x ∈ acc, x.wfs) → acc.length ≤ p → (∀ x ∈ (rs R F f m p d).l, x.wfs) ∧ (rs R F f m p d).l.length ≤ R.n
  | .st => (rs R F f m p d).s.wfs
  | .blk => (∀ x ∈ (rs R F f m p d).l, x.wfs) ∧ (rs R F f m p d).l.length ≤ R.n := by
 intro f
 induction f with
 | zero =>
  intro m p d _ h
  have : rs R F 0 m p d = bads p 99 := by cases m <;> rfl
  rw [this] at h; cases h
 | succ f ih =>
  intro m p d hp h
  cases m with
  | row acc =>
   intro ha hl
   rw [rs_row] at h ⊢
   by_cases he : endsB R p = true
   ·rw [if_pos he]; exact ⟨ha, Nat.le_trans hl hp⟩
   ·rw [if_neg he] at h ⊢
    have h1 := ih .st p d hp
    have i1 := rs_in (F := F) hR f .st p d hp
    have h2 := fun acc q hq => ih (.row acc) q d hq
    generalize rs R F f .st p d = g at h h1 i1 ⊢
    by_cases h0 : g.r = 0
    ·rw [if_pos h0] at h ⊢
     obtain ⟨a1, a2, a3⟩ := i1 h0
     have a3 := a3 rfl
     exact h2 (acc ++ [g.s]) g.p a2 h (fun x hx => by
      rcases List.mem_append.1 hx with hx | hx
      ·exact ha x hx
      ·rw [List.mem_singleton.1 hx]; exact h1 h0) (by rw [List.length_append]; simp; omega)
    ·rw [if_neg h0] at h; exact absurd h h0
  | blk =>
   show (∀ x ∈ (rs R F (f + 1) .blk p d).l, x.wfs) ∧ (rs R F (f + 1) .blk p d).l.length ≤ R.n
   rw [rs_blk] at h ⊢
   by_cases hb : R.is p [123] = true
   ·rw [if_pos hb] at h ⊢
    by_cases h32 : 32 ≤ d
    ·rw [if_pos h32] at h; cases h
    ·rw [if_neg h32] at h ⊢
     have h1 := ih (.row []) (p + 1) (d + 1) (hR.is_lt hb)
     generalize rs R F f (.row []) (p + 1) (d + 1) = g at h h1 ⊢
     by_cases h0 : g.r = 0
     ·rw [if_pos h0] at h ⊢
      by_cases hk : R.is g.p [125] = true
      ·rw [if_pos hk]
       exact h1 h0 (fun x hx => by cases hx) (Nat.zero_le _)
      ·rw [if_neg hk] at h; cases h
     ·rw [if_neg h0] at h; exact absurd h h0
   ·rw [if_neg hb] at h; cases h
  | st =>
   show (rs R F (f + 1) .st p d).s.wfs
   rw [rs_st] at h ⊢
   have hnn := hdS_nil R F p
   have hu := hdS_up hR F hp
   by_cases hr : (hdS R F p).2.2 = 0
   ·rw [if_pos hr] at h ⊢
    have hwf := hdS_wf hR hn hp hr
    have hqn : (hdS R F p).2.1 ≤ R.n := hu.n
    generalize (hdS R F p).1 = s at h hnn hwf ⊢
    generalize (hdS R F p).2.1 = q at h hqn ⊢
    by_cases hk : s.k = 2 ∨ s.k = 3
    ·rw [if_pos hk] at h ⊢
     have h1 := ih .blk q d hqn
     have h2 := fun q hq => ih .blk q d hq
     generalize rs R F f .blk q d = g at h h1 ⊢
     by_cases h0 : g.r = 0
     ·rw [if_pos h0] at h ⊢
      obtain ⟨w1, w2⟩ := h1 h0
      by_cases he : s.k = 2 ∧ R.is g.p lElse = true
      ·rw [if_pos he] at h ⊢
       have h3 := h2 (g.p + 1) (hR.is_lt he.2)
       generalize rs R F f .blk (g.p + 1) d = g2 at h h3 ⊢
       by_cases h00 : g2.r = 0
       ·rw [if_pos h00]
        obtain ⟨w3, w4⟩ := h3 h00
        show ((s.setL g.l).setR g2.l).wfs
        exact (St.wfs_eq _).2 ⟨hwf, by show g.l.length ≤ _; omega, by show g2.l.length ≤ _; omega, w1, w3⟩
       ·rw [if_neg h00] at h; exact absurd h h00
      ·rw [if_neg he]
       show (s.setL g.l).wfs
       refine (St.wfs_eq _).2 ⟨hwf, by show g.l.length ≤ _; omega, ?_, w1, ?_⟩
       ·show s.r.length ≤ _; rw [hnn.2]; exact Nat.zero_le _
       ·intro x hx
        have hx : x ∈ s.r := hx
        rw [hnn.2] at hx; cases hx
     ·rw [if_neg h0] at h; exact absurd h h0
    ·rw [if_neg hk]
     show s.wfs
     refine (St.wfs_eq _).2 ⟨hwf, (by rw [hnn.1]; exact Nat.zero_le _), (by rw [hnn.2]; exact Nat.zero_le _), (fun x hx => by rw [hnn.1] at hx; cases hx), (fun x hx => by rw [hnn.2] at hx; cases hx)⟩
   ·rw [if_neg hr] at h; exact absurd h hr
end Go.Proofs.YtmnggldejflooaaGreatDoor
