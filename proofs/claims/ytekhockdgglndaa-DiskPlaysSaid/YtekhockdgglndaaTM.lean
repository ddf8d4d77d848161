/-
  AN ACT, DONE WITH THE DISK AND WITH THE DOCUMENT'S: both answer the same.
  AN ACT, WHATEVER IT IS, DONE WITH BOTH DISKS.
-/
import Derived.Test.YtekhockdgglndaaSM
import Derived.Test.YtekhockdgglndaaDAwake
import Derived.Test.YtekhockdgglndaaDM5
import Derived.Test.YtekhockdgglndaaActs
import Derived.Test.YtekhockdgglndaaOpen
import Derived.OpenShut
namespace Go.Proofs.Ytekhockdgglndaa
set_option linter.unusedVariables false
set_option linter.unusedSimpArgs false
open Go.RowKit

section
variable {w : World} {X : Nat → Prop} {g : Nat} {L : Lay} {S : St}
theorem inv_dl (I : Inv S) (hc : S.calls ≤ 1000) : ∀ f ∈ S.fs, f.data.length ≤ 1048576 := fun f hf => by
  have := I.dl f hf
  unfold most at this
  omega
theorem inv_ul (I : Inv S) (hc : S.calls ≤ 1000) : ∀ f ∈ S.fs, f.unsure ≤ 1048576 := fun f hf => by
  have := I.ul f hf
  unfold most at this
  omega
theorem boot_J (h : DAt w X g L S) (I : Inv S) (hc : S.calls ≤ 1000) (turns : Int) (B : Option Addr) (m c : Nat) (nums : List Int) (hx : ShX w X B m (by64 nums)) (hm : m ≤ 100) :
    Calls Try.prog 21 #[ptrTo g, .int .i64 turns, .slice B m c] w fun e w' => e = .returned (.int .i64 (S.boot turns nums).2) ∧ (∃ L', DAt w' X g L' (S.boot turns nums).1) ∧ Keeps X w w' := by
  by_cases hd : S.dead = true
  · exact boot_any h hd (by have := I.fl; omega) (by have := I.wl; omega) (inv_ul I hc) (inv_dl I hc) I.good I.sound turns B m c nums hx (by omega)
  · have hd : S.dead = false := by simpa using hd
    refine (boot_alive h hd turns _).mono ?_
    rintro e w' ⟨rfl, rfl⟩
    have hb : S.boot turns nums = (S, 1) := by unfold St.boot; rw [if_neg (by rw [hd]; simp)]
    rw [hb]
    exact ⟨rfl, ⟨L, h⟩, Keeps.refl X w⟩
theorem shX_in {U : Nat} {A : Option Addr} {n : Nat} {xs : List Value} (h : Sh w U A n xs) (hX : ∀ k, k < U → X k) : ShX w X A n xs :=
  ⟨h.1, fun hn => by
    obtain ⟨b, off, e, hb, hc⟩ := h.2 hn
    exact ⟨b, off, e, hX b hb, hc⟩⟩
theorem sx_in {U x : Nat} {A : Option Addr} {n : Nat} {xs : List Value} (h : Sh w U A n xs) (hX : ∀ k, k < U → X k) (hx : U ≤ x) : SX w (out X x) A n 1 xs :=
  ⟨by rw [h.1]; omega, fun hn => by
    obtain ⟨b, off, e, hb, hc⟩ := h.2 hn
    exact ⟨b, off, e, ⟨hX b hb, by omega⟩, hc⟩⟩
end
theorem create_ans (S : St) (k : Nm) (b c : Nat) : (S.create k b).2 = (S.create k c).2 := by
  unfold St.create
  split
  · rfl
  · split
    · rfl
    · split
      · rfl
      · split <;> rfl
/-- What the contracts of the document's disk ask. -/
structure RFits (R : RS) : Prop where
  calls : R.calls ≤ 1000000
  now : R.now.length ≤ 64
  files : R.files.length ≤ 300
  waits : R.waits.length ≤ 200
  sure : R.sure.length ≤ 200
  at_ : ∀ q ∈ R.now, q.2 < R.files.length
  n : ∀ f ∈ R.files, f.n ≤ 1100000 ∧ f.sure ≤ f.n
  cap : 0 ≤ R.cap ∧ R.cap ≤ 1048576
/-- The two disks are one, and not too great. -/
structure Fine (S : St) (R : RS) (n : Nat) : Prop where
  inv : Inv S
  keys : Keys S
  sim : ∃ ι, Sim ι S R
  wb : WB R S.calls
  calls : S.calls ≤ n
theorem Fine.fits {S : St} {R : RS} {n : Nat} (h : Fine S R n) (hn : n ≤ 150) : RFits R := by
  obtain ⟨ι, s⟩ := h.sim
  have hc := h.calls
  have hm : most S.calls ≤ 1100000 := by unfold most; omega
  have l1 : R.now.length = S.names.length := by have := congrArg List.length s.now; rw [nl_len] at this; simpa [mapI] using this
  have l2 : R.sure.length = S.sure.length := by have := congrArg List.length s.sure; rw [nl_len] at this; simpa [mapI] using this
  have l3 := s.waits.len
  have h1 := h.inv.len
  have h2 := h.inv.wl
  have h3 : S.sure.length ≤ 64 := by
    have := (h.inv.good.at (Nat.zero_le _)).1
    simpa [acts] using this
  refine ⟨by rw [s.calls]; omega, by omega, by have := h.wb.len; omega, by omega, by omega, fun q hq => ?_, fun f hf => ⟨Nat.le_trans (h.wb.n f hf) hm, s.fr.sure_le f hf⟩, by rw [s.cap]; exact h.inv.cap⟩
  have h4 : (q.1.data.toList, q.2) ∈ mapI ι S.names := by rw [← s.now]; exact mem_nl.2 ⟨q, hq, rfl⟩
  obtain ⟨p, hp, e⟩ := List.mem_map.1 h4
  obtain ⟨f, hf, hfb⟩ := live_in h.inv (live_now h.inv hp)
  have := s.fr.range f hf
  simp only [Prod.mk.injEq] at e
  rw [hfb] at this
  omega
def BoxAt (w' : World) (b : Nat) (vs : List Value) : Prop := ∀ j v, vs[j]? = some v → w'.cell? ⟨b, j, none⟩ = some v
/-- Where the two stand. -/
def Tw (X : Nat → Prop) (U g x b : Nat) (vs : List Value) (w : World) (D0 : St → Prop) (R0 : RS → Prop) (W : World) : Prop :=
  ∃ (Y : Nat → Prop) (L : Lay) (V : RL) (S : St) (R : RS), (∀ k, X k → Y k) ∧ DAt W Y g L S ∧ RAt W Y x V R ∧ D0 S ∧ R0 R ∧ BoxAt W b vs ∧ Y b ∧ b ≠ x ∧ b < W.heap.size ∧ Below U w W
section
variable {X : Nat → Prop} {U g x b : Nat} {vs : List Value} {w W : World} {D0 DS : St → Prop} {R0 RP : RS → Prop} {S : St} {R : RS}
theorem Tw.drew (P : Tw X U g x b vs w D0 R0 W) : Tw X U g x b vs w D0 R0 W.drew := by
  obtain ⟨Y, L, V, S, R, h1, h2, h3, h4, h5, h6, h7, h8, h9, h10⟩ := P
  exact ⟨Y, L, V, S, R, h1, h2.drewN 1, h3.drew, h4, h5, h6, h7, h8, h9, h10.drew⟩
theorem Tw.d {F : FuncId} {args : Array Value} {a0 : Int} (P : Tw X U g x b vs w (fun T => T = S) R0 W) (hU : ∀ k, k < U → X k)
    (h : ∀ Y L, (∀ k, X k → Y k) → Below U w W → DAt W Y g L S → Calls Try.prog F args W fun e w' => e = .returned (.int .i64 a0) ∧ (∃ L' S', DS S' ∧ DAt w' Y g L' S') ∧ Keeps Y W w') :
    Calls Try.prog F args W fun e w' => e = .returned (.int .i64 a0) ∧ BoxAt w' b vs ∧ Tw X U g x b vs w DS R0 w' := by
  obtain ⟨Y, L, V, S1, R1, h1, h2, h3, rfl, h5, h6, h7, h8, h9, h10⟩ := P
  refine (h Y L h1 h10 h2).mono ?_
  rintro e w' ⟨he, ⟨L', S', hs, hD⟩, hK⟩
  have hbox : BoxAt w' b vs := fun j v hv => (World.cell?_of_block (w := W) (a := ⟨b, j, none⟩) (hK.block b h7)).trans (h6 j v hv)
  exact ⟨he, hbox, Y, L', V, S', R1, h1, hD, h3.stay hK.block hK.size, hs, h5, hbox, h7, h8, Nat.lt_of_lt_of_le h9 hK.size, h10.trans (hK.below fun k hk => h1 k (hU k hk))⟩
theorem Tw.r {F : FuncId} {args : Array Value} {a0 : Int} (P : Tw X U g x b vs w D0 (fun T => T = R) W) (hx : U ≤ x)
    (h : ∀ Y V, (∀ k, X k → Y k) → Below U w W → RAt W Y x V R → Calls Try.prog F args W fun e w' => e = .returned (.int .i64 a0) ∧ (∃ V' R', RP R' ∧ RAt w' (wid Y W w') x V' R') ∧ W.grownBy w' (some x)) :
    Calls Try.prog F args W fun e w' => e = .returned (.int .i64 a0) ∧ BoxAt w' b vs ∧ Tw X U g x b vs w D0 RP w' := by
  obtain ⟨Y, L, V, S1, R1, h1, h2, h3, h4, rfl, h6, h7, h8, h9, h10⟩ := P
  refine (h Y V h1 h10 h3).mono ?_
  rintro e w' ⟨he, ⟨V', R', hs, hR⟩, hg⟩
  have hbox : BoxAt w' b vs := fun j v hv => (World.cell?_of_block (w := W) (a := ⟨b, j, none⟩) (hg.block b h9 (fun e => h8 (by injection e)))).trans (h6 j v hv)
  exact ⟨he, hbox, wid Y W w', L, V', S1, R', fun k hk => .inl (h1 k hk), h2.wider hg (fun j e => by cases e; exact h3.xX), hR, h4, hs, hbox, .inl h7, h8, Nat.lt_of_lt_of_le h9 hg.size,
    h10.trans ⟨hg.os, hg.tape, hg.output, hg.size, fun k hk => hg.block k (Nat.lt_of_lt_of_le (Nat.lt_of_lt_of_le hk hx) (Nat.le_of_lt h3.lt)) (fun e => by injection e with e; omega)⟩⟩
/-- What is left in the end. -/
def Done (X : Nat → Prop) (U g x : Nat) (w : World) (n : Nat) (e : Ending) (w' : World) : Prop :=
  e = .returned (.bool true) ∧ ∃ (Y : Nat → Prop) (L : Lay) (V : RL) (S' : St) (R' : RS), (∀ k, X k → Y k) ∧ DAt w' Y g L S' ∧ RAt w' Y x V R' ∧ Fine S' R' n ∧ Below U w w'
theorem Tw.done {n : Nat} {w0 : World} (P : Tw X U g x b vs w D0 R0 W) (h0 : Below U w0 w) (hf : ∀ S' R' Y L, DAt W Y g L S' → D0 S' → R0 R' → Fine S' R' n) {X0 : Nat → Prop} (hX : ∀ k, X0 k → X k) : Done X0 U g x w0 n (.returned (.bool true)) W := by
  obtain ⟨Y, L, V, S1, R1, h1, h2, h3, h4, h5, h6, h7, h8, h9, h10⟩ := P
  exact ⟨rfl, Y, L, V, S1, R1, fun k hk => h1 k (hX k hk), h2, h3, hf S1 R1 Y L h2 h4 h5, h0.trans h10⟩
theorem Fine.of {n : Nat} {A : St × Int} {B : Int × RS} (hI : Inv A.1) (hK : Keys A.1) (h : Both A B) (hc : A.1.calls ≤ n) : Fine A.1 B.2 n := by
  obtain ⟨_, ι, hs, hw⟩ := h
  exact ⟨hI, hK, ⟨ι, hs⟩, hw, hc⟩
end
theorem create_le (S : St) (k : Nm) (b : Nat) : (S.create k b).1.calls ≤ S.calls + 1 := by
  have h := (begun_le S).2
  unfold St.create
  (repeat' split) <;> exact h
theorem append_le (S : St) (k : Nm) (b : List Int) : (S.append k b).1.calls ≤ S.calls + 1 := by
  have h := (begun_le S).2
  unfold St.append
  (repeat' split) <;> exact h
theorem sync_le (S : St) (k : Nm) : (S.sync k).1.calls ≤ S.calls + 1 := by
  have h := (begun_le S).2
  unfold St.sync
  (repeat' split) <;> exact h
theorem syncDir_le (S : St) : S.syncDir.1.calls ≤ S.calls + 1 := by
  have h := (begun_le S).2
  unfold St.syncDir
  split <;> exact h
theorem rename_le (S : St) (k m : Nm) : (S.rename k m).1.calls ≤ S.calls + 1 := by
  have h := (begun_le S).2
  unfold St.rename
  (repeat' split) <;> exact h
theorem remove_le (S : St) (k : Nm) : (S.remove k).1.calls ≤ S.calls + 1 := by
  have h := (begun_le S).2
  unfold St.remove
  (repeat' split) <;> exact h
theorem boot_le (S : St) (z : Int) (nums : List Int) : (S.boot z nums).1.calls ≤ S.calls + 1 := by
  unfold St.boot
  split <;> exact Nat.le_succ _
def fresh (S : St) : Nat := (S.fs.map fun f => f.blk).sum + 1
theorem fresh_ne (S : St) : ∀ f ∈ S.fs, f.blk ≠ fresh S := by
  have key : ∀ (l : List Fl), ∀ f ∈ l, f.blk ≤ (l.map fun f => f.blk).sum := by
    intro l
    induction l with
    | nil => intro f hf; cases hf
    | cons a l ih =>
      intro f hf
      rw [List.map_cons, List.sum_cons]
      rcases List.mem_cons.1 hf with rfl | hf
      · omega
      · have := ih f hf; omega
  intro f hf
  have := key S.fs f hf
  unfold fresh
  omega
theorem create_free {w : World} {X : Nat → Prop} {g : Nat} {L : Lay} {S : St} {k : Nm} {c : Nat} (h : DAt w X g L (S.create k c).1) (h0 : (S.create k c).2 = 0) : ∀ f ∈ S.fs, f.blk ≠ c := by
  unfold St.create at h h0
  split at h0
  · rename_i he; exact absurd h0 he
  · rename_i he
    rw [if_neg he] at h
    split at h0
    · cases h0
    · rename_i hn
      rw [if_neg hn] at h
      split at h0
      · cases h0
      · rename_i hk
        rw [hk] at h
        simp only at h
        split at h0
        · cases h0
        · rename_i hl
          rw [if_neg hl] at h
          have hp := h.nd
          have hp : (S.fs ++ [newFl c]).Pairwise (Apart L) := hp
          rw [List.pairwise_append] at hp
          exact fun f hf => (hp.2.2 f hf (newFl c) (by simp)).1
theorem u8_wf {y : Int} (h : (Lit.int .u8 y).wf = true) : 0 ≤ y ∧ y < 256 := by
  have := bounds_u8 h
  omega

set_option maxRecDepth 100000 in
set_option maxHeartbeats 3200000 in
theorem two_0 {U : Nat} {X : Nat → Prop} {w : World} {g x : Nat} {L : Lay} {V : RL} {S : St} {R : RS} {N : Nat} (s r' : ByteArray) (A : Option Addr) (n c : Nat) (b : List Int) (z e : Int) (K : Option Addr) (m d : Nat) (nums : List Int)
    (hx : Ac.ok w U ⟨0, s, r', A, n, c, b, z, e, K, m, d, nums⟩) (h : DAt w X g L S) (hr : RAt w X x V R) (F : Fine S R N) (hN : N ≤ 100) (hX : ∀ k, k < U → X k) (hrU : U ≤ x) (hU : U ≤ w.heap.size) (hn : n ≤ 500) (hm : m ≤ 60) :
    Calls Try.prog 9 #[.pointer (some ⟨g, 0, none⟩), .pointer (some ⟨x, 0, none⟩), .agg #[.int .i64 0, .string s, .string r', .slice A n c, .int .i64 z, .int .i64 e, .slice K m d]] w (Done X U g x w (N + 1)) := by
  have hs : s.size ≤ maxLen := hx.s
  have RF := F.fits (by omega)
  have hcs : S.calls ≤ 100 := Nat.le_trans F.calls hN
  obtain ⟨ι, hsim⟩ := F.sim
  have hbl : b.length ≤ 500 := by
    have := hx.b.len
    rw [by8_len] at this
    exact Nat.le_trans (Nat.le_of_eq this) hn
  have hbyt : ∀ y ∈ b, 0 ≤ y ∧ y < 256 := fun y hy => u8_wf (hx.byt y hy)
  have hboth : ∀ c, ((S.create s.data.toList c).2 = 0 → ∀ f ∈ S.fs, f.blk ≠ c) → Both (S.create s.data.toList c) (R.create s) := fun c hc => hsim.create F.inv F.wb s c hc
  obtain ⟨a0, ha0⟩ : ∃ a0, a0 = (S.create s.data.toList 0).2 := ⟨_, rfl⟩
  have HANS : (R.create s).1 = a0 := by rw [ha0, create_ans S _ 0 (fresh S)]; exact (hboth (fresh S) (fun _ => fresh_ne S)).1
  obtain ⟨vs, hvs⟩ : ∃ vs : List Value, vs = [.int .i64 0, .string s, .string r', .slice A n c, .int .i64 z, .int .i64 e, .slice K m d] := ⟨_, rfl⟩
  obtain ⟨w1, hw1⟩ : ∃ w1, w1 = w.alloc (.cells #[.int .i64 0, .string s, .string r', .slice A n c, .int .i64 z, .int .i64 e, .slice K m d] 36) := ⟨_, rfl⟩
  obtain ⟨bx, hbx⟩ : ∃ bx, bx = w.heap.size := ⟨_, rfl⟩
  have hlow : Hid (Below U w w1) := Lib.hid (by rw [hw1]; exact (Below.refl _ _).alloc hU _)
  have hba : Below w.heap.size w w1 := by rw [hw1]; exact (Below.refl _ _).alloc (Nat.le_refl _) _
  have hs1 : w1.heap.size = w.heap.size + 1 := by rw [hw1]; simp
  have hbox : BoxAt w1 bx vs := fun j v hv => by
    rw [hw1, hbx, World.cell?_alloc_at _ _ _ _ rfl]
    rw [hvs] at hv
    simpa using hv
  have P : Tw X U g x bx vs w1 (fun T => T = S) (fun T => T = R) w1 := ⟨wid X w w1, L, V, S, R, fun k hk => .inl hk, h.wider (grown_of_below hba none) (fun j e => by cases e), hr.wider hba, rfl, rfl, hbox, .inr ⟨by omega, by omega⟩, by have := hr.lt; omega, by omega, Below.refl _ _⟩
  have hXU := Lib.hid hX
  have HAT : Hid (∀ w', BoxAt w' bx vs → w'.cell? ⟨bx, 0, none⟩ = some (.int .i64 0) ∧ w'.cell? ⟨bx, 1, none⟩ = some (.string s)) := Lib.hid fun w' hb => by
    rw [hvs] at hb
    exact ⟨hb 0 _ rfl, hb 1 _ rfl⟩
  obtain ⟨D1, hD1⟩ : ∃ D1 : St → Prop, D1 = fun T => T = S := ⟨_, rfl⟩
  obtain ⟨R1, hR1⟩ : ∃ R1 : RS → Prop, R1 = fun T => T = R := ⟨_, rfl⟩
  obtain ⟨D2, hD2⟩ : ∃ D2 : St → Prop, D2 = fun S' => ∃ c, S' = (S.create s.data.toList c).1 := ⟨_, rfl⟩
  obtain ⟨R2, hR2⟩ : ∃ R2 : RS → Prop, R2 = fun R' => R' = (R.create s).2 := ⟨_, rfl⟩
  have HD : Hid (∀ (R0 : RS → Prop) (W : World), Tw X U g x bx vs w1 D1 R0 W → Calls Try.prog 16 #[.pointer (some ⟨g, 0, none⟩), .string s] W (fun e w' => e = .returned (.int .i64 a0) ∧ w'.cell? ⟨bx, 0, none⟩ = some (.int .i64 0) ∧ w'.cell? ⟨bx, 1, none⟩ = some (.string s) ∧ Tw X U g x bx vs w1 D2 R0 w')) := Lib.hid fun R0 W P => by
    rw [hD1] at P
    refine (P.d (DS := D2) (a0 := a0) hX fun Y L hY hB hD => ?_).mono fun e w' ⟨h1, h2, h3⟩ => ?_
    · rw [hD2, ha0]
      exact (create_any hD (by omega) s hs (by have := F.inv.len; omega) (by have := F.inv.wl; omega) (by have := F.inv.fl; omega)).mono fun e w' ⟨b, _, _, h1, ⟨L', h2⟩, h3⟩ => ⟨by rw [h1, create_ans S _ b 0], ⟨L', _, ⟨b, rfl⟩, h2⟩, h3⟩
    · obtain ⟨k0, k1⟩ := HAT.out w' h2
      exact ⟨h1, k0, k1, h3⟩
  have HX : Hid (∀ (D0 : St → Prop) (W : World), Tw X U g x bx vs w1 D0 R1 W → Calls Try.prog 27 #[.pointer (some ⟨x, 0, none⟩), .string s] W (fun e w' => e = .returned (.int .i64 a0) ∧ w'.cell? ⟨bx, 0, none⟩ = some (.int .i64 0) ∧ w'.cell? ⟨bx, 1, none⟩ = some (.string s) ∧ Tw X U g x bx vs w1 D0 R2 w')) := Lib.hid fun D0 W P => by
    rw [hR1] at P
    refine (P.r (RP := R2) (a0 := a0) hrU fun Y V hY hB hR => ?_).mono fun e w' ⟨h1, h2, h3⟩ => ?_
    · rw [hR2]
      exact (rcreate_any Y x V R s W hR RF.calls F.wb.fuse F.wb.fault (by have := RF.now; omega) (by have := RF.waits; omega) (by have := RF.files; omega) hs).mono fun e w' ⟨h1, ⟨V', h2⟩, h3⟩ => ⟨by rw [h1, HANS], ⟨V', _, rfl, h2⟩, h3⟩
    · obtain ⟨k0, k1⟩ := HAT.out w' h2
      exact ⟨h1, k0, k1, h3⟩
  have FIN : Hid (∀ S' R' Y L W, DAt W Y g L S' → D2 S' → R2 R' → Fine S' R' (N + 1)) := Lib.hid (by
    rw [hD2, hR2]
    intro S' R' Y L W
    revert S' R' Y L
    rintro S' R' Y L hD ⟨c, rfl⟩ rfl
    refine Fine.of (A := S.create s.data.toList c) (F.inv.create _ c) (F.keys.create F.inv _ c) (hboth c fun h0 f hf e0 => ?_) (by have := create_le S s.data.toList c; have := F.calls; omega)
    exact create_free hD h0 f hf e0)
  have HW := Lib.hid hw1.symm
  have HBX := Lib.hid hbx.symm
  rw [← hD1, ← hR1] at P
  have hbox0 := hbox
  rw [hvs] at hbox
  have k0 : w1.cell? ⟨bx, 0, none⟩ = some (.int .i64 0) := hbox 0 _ rfl
  have k1 : w1.cell? ⟨bx, 1, none⟩ = some (.string s) := hbox 1 _ rfl
  clear hbox hbox0 h hr hX hrU hU hw1 hbx hvs hx hs hn hm hba hs1 hboth HANS ha0 hsim hD1 hD2 hR1 hR2 F RF hcs hbl hbyt
  go_enter Try.func9, Try.ntmps9
  go_wp2_with fail
  rw [HW.out, HBX.out]
  have P0 := P.drew
  go_region_held3 (fun w' => w'.cell? ⟨bx, 0, none⟩ = some (.int .i64 0) ∧ w'.cell? ⟨bx, 1, none⟩ = some (.string s)) (((try dsimp only); (repeat' apply And.intro) <;> first | assumption | go_keep)) (first
    | (go_at_call 16; first
      | (refine (HD.out _ _ P0).mono ?_; rintro e w2 ⟨rfl, k0, k1, Pd⟩)
      | (refine (HD.out _ _ Px).mono ?_; rintro e w3 ⟨rfl, k0, k1, PP⟩))
    | (go_at_call 27; first
      | (refine (HX.out _ _ P0).mono ?_; rintro e w2 ⟨rfl, k0, k1, Px⟩)
      | (refine (HX.out _ _ Pd).mono ?_; rintro e w3 ⟨rfl, k0, k1, PP⟩))
    | fail)
  all_goals
    go_wp2
    go_ret
    exact PP.done hlow.out (fun S' R' Y L => FIN.out S' R' Y L _) (fun k hk => hk)

set_option maxRecDepth 100000 in
set_option maxHeartbeats 3200000 in
theorem two_1 {U : Nat} {X : Nat → Prop} {w : World} {g x : Nat} {L : Lay} {V : RL} {S : St} {R : RS} {N : Nat} (s r' : ByteArray) (A : Option Addr) (n c : Nat) (b : List Int) (z e : Int) (K : Option Addr) (m d : Nat) (nums : List Int)
    (hx : Ac.ok w U ⟨1, s, r', A, n, c, b, z, e, K, m, d, nums⟩) (h : DAt w X g L S) (hr : RAt w X x V R) (F : Fine S R N) (hN : N ≤ 100) (hX : ∀ k, k < U → X k) (hrU : U ≤ x) (hU : U ≤ w.heap.size) (hn : n ≤ 500) (hm : m ≤ 60) :
    Calls Try.prog 9 #[.pointer (some ⟨g, 0, none⟩), .pointer (some ⟨x, 0, none⟩), .agg #[.int .i64 1, .string s, .string r', .slice A n c, .int .i64 z, .int .i64 e, .slice K m d]] w (Done X U g x w (N + 1)) := by
  have hs : s.size ≤ maxLen := hx.s
  have RF := F.fits (by omega)
  have hcs : S.calls ≤ 100 := Nat.le_trans F.calls hN
  obtain ⟨ι, hsim⟩ := F.sim
  have hbl : b.length ≤ 500 := by
    have := hx.b.len
    rw [by8_len] at this
    exact Nat.le_trans (Nat.le_of_eq this) hn
  have hbyt : ∀ y ∈ b, 0 ≤ y ∧ y < 256 := fun y hy => u8_wf (hx.byt y hy)
  have hboth : ∀ A' c', Both (S.append s.data.toList b) (R.append s b A' c') := fun A' c' => hsim.append F.inv F.wb s b hbl A' c'
  obtain ⟨a0, ha0⟩ : ∃ a0, a0 = (S.append s.data.toList b).2 := ⟨_, rfl⟩
  have HANS : ∀ A' c', (R.append s b A' c').1 = a0 := fun A' c' => by rw [ha0]; exact (hboth A' c').1
  obtain ⟨vs, hvs⟩ : ∃ vs : List Value, vs = [.int .i64 1, .string s, .string r', .slice A n c, .int .i64 z, .int .i64 e, .slice K m d] := ⟨_, rfl⟩
  obtain ⟨w1, hw1⟩ : ∃ w1, w1 = w.alloc (.cells #[.int .i64 1, .string s, .string r', .slice A n c, .int .i64 z, .int .i64 e, .slice K m d] 36) := ⟨_, rfl⟩
  obtain ⟨bx, hbx⟩ : ∃ bx, bx = w.heap.size := ⟨_, rfl⟩
  have hlow : Hid (Below U w w1) := Lib.hid (by rw [hw1]; exact (Below.refl _ _).alloc hU _)
  have hba : Below w.heap.size w w1 := by rw [hw1]; exact (Below.refl _ _).alloc (Nat.le_refl _) _
  have hs1 : w1.heap.size = w.heap.size + 1 := by rw [hw1]; simp
  have hbox : BoxAt w1 bx vs := fun j v hv => by
    rw [hw1, hbx, World.cell?_alloc_at _ _ _ _ rfl]
    rw [hvs] at hv
    simpa using hv
  have P : Tw X U g x bx vs w1 (fun T => T = S) (fun T => T = R) w1 := ⟨wid X w w1, L, V, S, R, fun k hk => .inl hk, h.wider (grown_of_below hba none) (fun j e => by cases e), hr.wider hba, rfl, rfl, hbox, .inr ⟨by omega, by omega⟩, by have := hr.lt; omega, by omega, Below.refl _ _⟩
  have hXU := Lib.hid hX
  have HAT : Hid (∀ w', BoxAt w' bx vs → w'.cell? ⟨bx, 0, none⟩ = some (.int .i64 1) ∧ w'.cell? ⟨bx, 1, none⟩ = some (.string s) ∧ w'.cell? ⟨bx, 3, none⟩ = some (.slice A n c)) := Lib.hid fun w' hb => by
    rw [hvs] at hb
    exact ⟨hb 0 _ rfl, hb 1 _ rfl, hb 3 _ rfl⟩
  obtain ⟨D1, hD1⟩ : ∃ D1 : St → Prop, D1 = fun T => T = S := ⟨_, rfl⟩
  obtain ⟨R1, hR1⟩ : ∃ R1 : RS → Prop, R1 = fun T => T = R := ⟨_, rfl⟩
  obtain ⟨D2, hD2⟩ : ∃ D2 : St → Prop, D2 = fun S' => S' = (S.append s.data.toList b).1 := ⟨_, rfl⟩
  obtain ⟨R2, hR2⟩ : ∃ R2 : RS → Prop, R2 = fun R' => ∃ A' c', R' = (R.append s b A' c').2 := ⟨_, rfl⟩
  have HD : Hid (∀ (R0 : RS → Prop) (W : World), Tw X U g x bx vs w1 D1 R0 W → Calls Try.prog 17 #[.pointer (some ⟨g, 0, none⟩), .string s, .slice A n c] W (fun e w' => e = .returned (.int .i64 a0) ∧ w'.cell? ⟨bx, 0, none⟩ = some (.int .i64 1) ∧ w'.cell? ⟨bx, 1, none⟩ = some (.string s) ∧ w'.cell? ⟨bx, 3, none⟩ = some (.slice A n c) ∧ Tw X U g x bx vs w1 D2 R0 w')) := Lib.hid fun R0 W P => by
    rw [hD1] at P
    refine (P.d (DS := D2) (a0 := a0) hX fun Y L hY hB hD => ?_).mono fun e w' ⟨h1, h2, h3⟩ => ?_
    · rw [hD2, ha0]
      exact (append_any hD (by omega) s hs F.inv.closed (by have := F.inv.len; omega) (inv_dl F.inv (by omega)) (inv_ul F.inv (by omega)) F.inv.cap A n c b (shX_in (hx.b.below (hlow.out.trans hB)) (fun k hk => hY k (hXU.out k hk))) (by omega)).mono fun e w' ⟨h1, ⟨L', h2⟩, h3⟩ => ⟨h1, ⟨L', _, rfl, h2⟩, h3⟩
    · obtain ⟨k0, k1, k3⟩ := HAT.out w' h2
      exact ⟨h1, k0, k1, k3, h3⟩
  have HX : Hid (∀ (D0 : St → Prop) (W : World), Tw X U g x bx vs w1 D0 R1 W → Calls Try.prog 28 #[.pointer (some ⟨x, 0, none⟩), .string s, .slice A n c] W (fun e w' => e = .returned (.int .i64 a0) ∧ w'.cell? ⟨bx, 0, none⟩ = some (.int .i64 1) ∧ w'.cell? ⟨bx, 1, none⟩ = some (.string s) ∧ w'.cell? ⟨bx, 3, none⟩ = some (.slice A n c) ∧ Tw X U g x bx vs w1 D0 R2 w')) := Lib.hid fun D0 W P => by
    rw [hR1] at P
    refine (P.r (RP := R2) (a0 := a0) hrU fun Y V hY hB hR => ?_).mono fun e w' ⟨h1, h2, h3⟩ => ?_
    · rw [hR2]
      exact (rappend_any Y x V R s W hR RF.calls F.wb.fuse F.wb.fault (by have := RF.now; omega) (by have := RF.files; omega) RF.at_ (fun f hf => (RF.n f hf).1) RF.cap A n c b (sx_in (hx.b.below (hlow.out.trans hB)) (fun k hk => hY k (hXU.out k hk)) hrU) hbyt (by omega)).mono fun e w' ⟨A', c', h1, ⟨V', h2⟩, h3⟩ => ⟨by rw [h1, HANS A' c'], ⟨V', _, ⟨A', c', rfl⟩, h2⟩, h3⟩
    · obtain ⟨k0, k1, k3⟩ := HAT.out w' h2
      exact ⟨h1, k0, k1, k3, h3⟩
  have FIN : Hid (∀ S' R' Y L W, DAt W Y g L S' → D2 S' → R2 R' → Fine S' R' (N + 1)) := Lib.hid (by
    rw [hD2, hR2]
    intro S' R' Y L W
    revert S' R' Y L
    rintro S' R' Y L hD rfl ⟨A', c', rfl⟩
    exact Fine.of (F.inv.append _ b hbl) (F.keys.append _ b) (hboth A' c') (by have := append_le S s.data.toList b; have := F.calls; omega))
  have HW := Lib.hid hw1.symm
  have HBX := Lib.hid hbx.symm
  rw [← hD1, ← hR1] at P
  have hbox0 := hbox
  rw [hvs] at hbox
  have k0 : w1.cell? ⟨bx, 0, none⟩ = some (.int .i64 1) := hbox 0 _ rfl
  have k1 : w1.cell? ⟨bx, 1, none⟩ = some (.string s) := hbox 1 _ rfl
  have k3 : w1.cell? ⟨bx, 3, none⟩ = some (.slice A n c) := hbox 3 _ rfl
  clear hbox hbox0 h hr hX hrU hU hw1 hbx hvs hx hs hn hm hba hs1 hboth HANS ha0 hsim hD1 hD2 hR1 hR2 F RF hcs hbl hbyt
  go_enter Try.func9, Try.ntmps9
  go_wp2_with fail
  rw [HW.out, HBX.out]
  have P0 := P.drew
  go_region_held3 (fun w' => w'.cell? ⟨bx, 0, none⟩ = some (.int .i64 1) ∧ w'.cell? ⟨bx, 1, none⟩ = some (.string s) ∧ w'.cell? ⟨bx, 3, none⟩ = some (.slice A n c)) (((try dsimp only); (repeat' apply And.intro) <;> first | assumption | go_keep)) (first
    | (go_at_call 17; first
      | (refine (HD.out _ _ P0).mono ?_; rintro e w2 ⟨rfl, k0, k1, k3, Pd⟩)
      | (refine (HD.out _ _ Px).mono ?_; rintro e w3 ⟨rfl, k0, k1, k3, PP⟩))
    | (go_at_call 28; first
      | (refine (HX.out _ _ P0).mono ?_; rintro e w2 ⟨rfl, k0, k1, k3, Px⟩)
      | (refine (HX.out _ _ Pd).mono ?_; rintro e w3 ⟨rfl, k0, k1, k3, PP⟩))
    | fail)
  all_goals
    go_wp2
    go_ret
    exact PP.done hlow.out (fun S' R' Y L => FIN.out S' R' Y L _) (fun k hk => hk)

set_option maxRecDepth 100000 in
set_option maxHeartbeats 3200000 in
theorem two_2 {U : Nat} {X : Nat → Prop} {w : World} {g x : Nat} {L : Lay} {V : RL} {S : St} {R : RS} {N : Nat} (s r' : ByteArray) (A : Option Addr) (n c : Nat) (b : List Int) (z e : Int) (K : Option Addr) (m d : Nat) (nums : List Int)
    (hx : Ac.ok w U ⟨2, s, r', A, n, c, b, z, e, K, m, d, nums⟩) (h : DAt w X g L S) (hr : RAt w X x V R) (F : Fine S R N) (hN : N ≤ 100) (hX : ∀ k, k < U → X k) (hrU : U ≤ x) (hU : U ≤ w.heap.size) (hn : n ≤ 500) (hm : m ≤ 60) :
    Calls Try.prog 9 #[.pointer (some ⟨g, 0, none⟩), .pointer (some ⟨x, 0, none⟩), .agg #[.int .i64 2, .string s, .string r', .slice A n c, .int .i64 z, .int .i64 e, .slice K m d]] w (Done X U g x w (N + 1)) := by
  have hs : s.size ≤ maxLen := hx.s
  have RF := F.fits (by omega)
  have hcs : S.calls ≤ 100 := Nat.le_trans F.calls hN
  obtain ⟨ι, hsim⟩ := F.sim
  have hbl : b.length ≤ 500 := by
    have := hx.b.len
    rw [by8_len] at this
    exact Nat.le_trans (Nat.le_of_eq this) hn
  have hbyt : ∀ y ∈ b, 0 ≤ y ∧ y < 256 := fun y hy => u8_wf (hx.byt y hy)
  have hboth : Both (S.sync s.data.toList) (R.syncd s) := hsim.sync F.inv F.wb s
  obtain ⟨a0, ha0⟩ : ∃ a0, a0 = (S.sync s.data.toList).2 := ⟨_, rfl⟩
  have HANS : (R.syncd s).1 = a0 := by rw [ha0]; exact hboth.1
  obtain ⟨vs, hvs⟩ : ∃ vs : List Value, vs = [.int .i64 2, .string s, .string r', .slice A n c, .int .i64 z, .int .i64 e, .slice K m d] := ⟨_, rfl⟩
  obtain ⟨w1, hw1⟩ : ∃ w1, w1 = w.alloc (.cells #[.int .i64 2, .string s, .string r', .slice A n c, .int .i64 z, .int .i64 e, .slice K m d] 36) := ⟨_, rfl⟩
  obtain ⟨bx, hbx⟩ : ∃ bx, bx = w.heap.size := ⟨_, rfl⟩
  have hlow : Hid (Below U w w1) := Lib.hid (by rw [hw1]; exact (Below.refl _ _).alloc hU _)
  have hba : Below w.heap.size w w1 := by rw [hw1]; exact (Below.refl _ _).alloc (Nat.le_refl _) _
  have hs1 : w1.heap.size = w.heap.size + 1 := by rw [hw1]; simp
  have hbox : BoxAt w1 bx vs := fun j v hv => by
    rw [hw1, hbx, World.cell?_alloc_at _ _ _ _ rfl]
    rw [hvs] at hv
    simpa using hv
  have P : Tw X U g x bx vs w1 (fun T => T = S) (fun T => T = R) w1 := ⟨wid X w w1, L, V, S, R, fun k hk => .inl hk, h.wider (grown_of_below hba none) (fun j e => by cases e), hr.wider hba, rfl, rfl, hbox, .inr ⟨by omega, by omega⟩, by have := hr.lt; omega, by omega, Below.refl _ _⟩
  have hXU := Lib.hid hX
  have HAT : Hid (∀ w', BoxAt w' bx vs → w'.cell? ⟨bx, 0, none⟩ = some (.int .i64 2) ∧ w'.cell? ⟨bx, 1, none⟩ = some (.string s)) := Lib.hid fun w' hb => by
    rw [hvs] at hb
    exact ⟨hb 0 _ rfl, hb 1 _ rfl⟩
  obtain ⟨D1, hD1⟩ : ∃ D1 : St → Prop, D1 = fun T => T = S := ⟨_, rfl⟩
  obtain ⟨R1, hR1⟩ : ∃ R1 : RS → Prop, R1 = fun T => T = R := ⟨_, rfl⟩
  obtain ⟨D2, hD2⟩ : ∃ D2 : St → Prop, D2 = fun S' => S' = (S.sync s.data.toList).1 := ⟨_, rfl⟩
  obtain ⟨R2, hR2⟩ : ∃ R2 : RS → Prop, R2 = fun R' => R' = (R.syncd s).2 := ⟨_, rfl⟩
  have HD : Hid (∀ (R0 : RS → Prop) (W : World), Tw X U g x bx vs w1 D1 R0 W → Calls Try.prog 18 #[.pointer (some ⟨g, 0, none⟩), .string s] W (fun e w' => e = .returned (.int .i64 a0) ∧ w'.cell? ⟨bx, 0, none⟩ = some (.int .i64 2) ∧ w'.cell? ⟨bx, 1, none⟩ = some (.string s) ∧ Tw X U g x bx vs w1 D2 R0 w')) := Lib.hid fun R0 W P => by
    rw [hD1] at P
    refine (P.d (DS := D2) (a0 := a0) hX fun Y L hY hB hD => ?_).mono fun e w' ⟨h1, h2, h3⟩ => ?_
    · rw [hD2, ha0]
      exact (sync_any hD (by omega) s hs F.inv.closed).mono fun e w' ⟨h1, ⟨L', h2⟩, h3⟩ => ⟨h1, ⟨L', _, rfl, h2⟩, h3⟩
    · obtain ⟨k0, k1⟩ := HAT.out w' h2
      exact ⟨h1, k0, k1, h3⟩
  have HX : Hid (∀ (D0 : St → Prop) (W : World), Tw X U g x bx vs w1 D0 R1 W → Calls Try.prog 29 #[.pointer (some ⟨x, 0, none⟩), .string s] W (fun e w' => e = .returned (.int .i64 a0) ∧ w'.cell? ⟨bx, 0, none⟩ = some (.int .i64 2) ∧ w'.cell? ⟨bx, 1, none⟩ = some (.string s) ∧ Tw X U g x bx vs w1 D0 R2 w')) := Lib.hid fun D0 W P => by
    rw [hR1] at P
    refine (P.r (RP := R2) (a0 := a0) hrU fun Y V hY hB hR => ?_).mono fun e w' ⟨h1, h2, h3⟩ => ?_
    · rw [hR2]
      exact (rsync_any Y x V R s W hR RF.calls F.wb.fuse F.wb.fault (by have := RF.now; omega) (by have := RF.files; omega) RF.at_).mono fun e w' ⟨h1, ⟨V', h2⟩, h3⟩ => ⟨by rw [h1, HANS], ⟨V', _, rfl, h2⟩, h3⟩
    · obtain ⟨k0, k1⟩ := HAT.out w' h2
      exact ⟨h1, k0, k1, h3⟩
  have FIN : Hid (∀ S' R' Y L W, DAt W Y g L S' → D2 S' → R2 R' → Fine S' R' (N + 1)) := Lib.hid (by
    rw [hD2, hR2]
    intro S' R' Y L W
    revert S' R' Y L
    rintro S' R' Y L hD rfl rfl
    exact Fine.of (F.inv.sync _) (F.keys.sync _) hboth (by have := sync_le S s.data.toList; have := F.calls; omega))
  have HW := Lib.hid hw1.symm
  have HBX := Lib.hid hbx.symm
  rw [← hD1, ← hR1] at P
  have hbox0 := hbox
  rw [hvs] at hbox
  have k0 : w1.cell? ⟨bx, 0, none⟩ = some (.int .i64 2) := hbox 0 _ rfl
  have k1 : w1.cell? ⟨bx, 1, none⟩ = some (.string s) := hbox 1 _ rfl
  clear hbox hbox0 h hr hX hrU hU hw1 hbx hvs hx hs hn hm hba hs1 hboth HANS ha0 hsim hD1 hD2 hR1 hR2 F RF hcs hbl hbyt
  go_enter Try.func9, Try.ntmps9
  go_wp2_with fail
  rw [HW.out, HBX.out]
  have P0 := P.drew
  go_region_held3 (fun w' => w'.cell? ⟨bx, 0, none⟩ = some (.int .i64 2) ∧ w'.cell? ⟨bx, 1, none⟩ = some (.string s)) (((try dsimp only); (repeat' apply And.intro) <;> first | assumption | go_keep)) (first
    | (go_at_call 18; first
      | (refine (HD.out _ _ P0).mono ?_; rintro e w2 ⟨rfl, k0, k1, Pd⟩)
      | (refine (HD.out _ _ Px).mono ?_; rintro e w3 ⟨rfl, k0, k1, PP⟩))
    | (go_at_call 29; first
      | (refine (HX.out _ _ P0).mono ?_; rintro e w2 ⟨rfl, k0, k1, Px⟩)
      | (refine (HX.out _ _ Pd).mono ?_; rintro e w3 ⟨rfl, k0, k1, PP⟩))
    | fail)
  all_goals
    go_wp2
    go_ret
    exact PP.done hlow.out (fun S' R' Y L => FIN.out S' R' Y L _) (fun k hk => hk)

set_option maxRecDepth 100000 in
set_option maxHeartbeats 3200000 in
theorem two_3 {U : Nat} {X : Nat → Prop} {w : World} {g x : Nat} {L : Lay} {V : RL} {S : St} {R : RS} {N : Nat} (s r' : ByteArray) (A : Option Addr) (n c : Nat) (b : List Int) (z e : Int) (K : Option Addr) (m d : Nat) (nums : List Int)
    (hx : Ac.ok w U ⟨3, s, r', A, n, c, b, z, e, K, m, d, nums⟩) (h : DAt w X g L S) (hr : RAt w X x V R) (F : Fine S R N) (hN : N ≤ 100) (hX : ∀ k, k < U → X k) (hrU : U ≤ x) (hU : U ≤ w.heap.size) (hn : n ≤ 500) (hm : m ≤ 60) :
    Calls Try.prog 9 #[.pointer (some ⟨g, 0, none⟩), .pointer (some ⟨x, 0, none⟩), .agg #[.int .i64 3, .string s, .string r', .slice A n c, .int .i64 z, .int .i64 e, .slice K m d]] w (Done X U g x w (N + 1)) := by
  have hs : s.size ≤ maxLen := hx.s
  have RF := F.fits (by omega)
  have hcs : S.calls ≤ 100 := Nat.le_trans F.calls hN
  obtain ⟨ι, hsim⟩ := F.sim
  have hbl : b.length ≤ 500 := by
    have := hx.b.len
    rw [by8_len] at this
    exact Nat.le_trans (Nat.le_of_eq this) hn
  have hbyt : ∀ y ∈ b, 0 ≤ y ∧ y < 256 := fun y hy => u8_wf (hx.byt y hy)
  have hboth : Both S.syncDir R.syncDir := hsim.syncDir F.inv F.wb
  obtain ⟨a0, ha0⟩ : ∃ a0, a0 = S.syncDir.2 := ⟨_, rfl⟩
  have HANS : R.syncDir.1 = a0 := by rw [ha0]; exact hboth.1
  obtain ⟨vs, hvs⟩ : ∃ vs : List Value, vs = [.int .i64 3, .string s, .string r', .slice A n c, .int .i64 z, .int .i64 e, .slice K m d] := ⟨_, rfl⟩
  obtain ⟨w1, hw1⟩ : ∃ w1, w1 = w.alloc (.cells #[.int .i64 3, .string s, .string r', .slice A n c, .int .i64 z, .int .i64 e, .slice K m d] 36) := ⟨_, rfl⟩
  obtain ⟨bx, hbx⟩ : ∃ bx, bx = w.heap.size := ⟨_, rfl⟩
  have hlow : Hid (Below U w w1) := Lib.hid (by rw [hw1]; exact (Below.refl _ _).alloc hU _)
  have hba : Below w.heap.size w w1 := by rw [hw1]; exact (Below.refl _ _).alloc (Nat.le_refl _) _
  have hs1 : w1.heap.size = w.heap.size + 1 := by rw [hw1]; simp
  have hbox : BoxAt w1 bx vs := fun j v hv => by
    rw [hw1, hbx, World.cell?_alloc_at _ _ _ _ rfl]
    rw [hvs] at hv
    simpa using hv
  have P : Tw X U g x bx vs w1 (fun T => T = S) (fun T => T = R) w1 := ⟨wid X w w1, L, V, S, R, fun k hk => .inl hk, h.wider (grown_of_below hba none) (fun j e => by cases e), hr.wider hba, rfl, rfl, hbox, .inr ⟨by omega, by omega⟩, by have := hr.lt; omega, by omega, Below.refl _ _⟩
  have hXU := Lib.hid hX
  have HAT : Hid (∀ w', BoxAt w' bx vs → w'.cell? ⟨bx, 0, none⟩ = some (.int .i64 3)) := Lib.hid fun w' hb => by
    rw [hvs] at hb
    exact hb 0 _ rfl
  obtain ⟨D1, hD1⟩ : ∃ D1 : St → Prop, D1 = fun T => T = S := ⟨_, rfl⟩
  obtain ⟨R1, hR1⟩ : ∃ R1 : RS → Prop, R1 = fun T => T = R := ⟨_, rfl⟩
  obtain ⟨D2, hD2⟩ : ∃ D2 : St → Prop, D2 = fun S' => S' = S.syncDir.1 := ⟨_, rfl⟩
  obtain ⟨R2, hR2⟩ : ∃ R2 : RS → Prop, R2 = fun R' => R' = R.syncDir.2 := ⟨_, rfl⟩
  have HD : Hid (∀ (R0 : RS → Prop) (W : World), Tw X U g x bx vs w1 D1 R0 W → Calls Try.prog 30 #[.pointer (some ⟨g, 0, none⟩)] W (fun e w' => e = .returned (.int .i64 a0) ∧ w'.cell? ⟨bx, 0, none⟩ = some (.int .i64 3) ∧ Tw X U g x bx vs w1 D2 R0 w')) := Lib.hid fun R0 W P => by
    rw [hD1] at P
    refine (P.d (DS := D2) (a0 := a0) hX fun Y L hY hB hD => ?_).mono fun e w' ⟨h1, h2, h3⟩ => ?_
    · rw [hD2, ha0]
      exact (syncDir_any hD (by omega) F.inv.closed (by have := F.inv.len; omega) (by have := F.inv.fl; omega) (inv_ul F.inv (by omega))).mono fun e w' ⟨h1, ⟨L', h2⟩, h3⟩ => ⟨h1, ⟨L', _, rfl, h2⟩, h3⟩
    · obtain k0 := HAT.out w' h2
      exact ⟨h1, k0, h3⟩
  have HX : Hid (∀ (D0 : St → Prop) (W : World), Tw X U g x bx vs w1 D0 R1 W → Calls Try.prog 31 #[.pointer (some ⟨x, 0, none⟩)] W (fun e w' => e = .returned (.int .i64 a0) ∧ w'.cell? ⟨bx, 0, none⟩ = some (.int .i64 3) ∧ Tw X U g x bx vs w1 D0 R2 w')) := Lib.hid fun D0 W P => by
    rw [hR1] at P
    refine (P.r (RP := R2) (a0 := a0) hrU fun Y V hY hB hR => ?_).mono fun e w' ⟨h1, h2, h3⟩ => ?_
    · rw [hR2]
      exact (rsyncDir_any Y x V R W hR RF.calls F.wb.fuse F.wb.fault).mono fun e w' ⟨h1, ⟨V', h2⟩, h3⟩ => ⟨by rw [h1, HANS], ⟨V', _, rfl, h2⟩, h3⟩
    · obtain k0 := HAT.out w' h2
      exact ⟨h1, k0, h3⟩
  have FIN : Hid (∀ S' R' Y L W, DAt W Y g L S' → D2 S' → R2 R' → Fine S' R' (N + 1)) := Lib.hid (by
    rw [hD2, hR2]
    intro S' R' Y L W
    revert S' R' Y L
    rintro S' R' Y L hD rfl rfl
    exact Fine.of F.inv.syncDir (F.keys.syncDir F.inv) hboth (by have := syncDir_le S; have := F.calls; omega))
  have HW := Lib.hid hw1.symm
  have HBX := Lib.hid hbx.symm
  rw [← hD1, ← hR1] at P
  have hbox0 := hbox
  rw [hvs] at hbox
  have k0 : w1.cell? ⟨bx, 0, none⟩ = some (.int .i64 3) := hbox 0 _ rfl
  clear hbox hbox0 h hr hX hrU hU hw1 hbx hvs hx hs hn hm hba hs1 hboth HANS ha0 hsim hD1 hD2 hR1 hR2 F RF hcs hbl hbyt
  go_enter Try.func9, Try.ntmps9
  go_wp2_with (first
    | (go_at_call 30; rw [HW.out]; refine (HD.out _ _ P).mono ?_; rintro e w2 ⟨rfl, k0, Pd⟩)
    | (go_at_call 31; refine (HX.out _ _ Pd).mono ?_; rintro e w3 ⟨rfl, k0, PP⟩)
    | fail)
  go_ret
  exact PP.done hlow.out (fun S' R' Y L => FIN.out S' R' Y L _) (fun k hk => hk)

set_option maxRecDepth 100000 in
set_option maxHeartbeats 3200000 in
theorem two_4 {U : Nat} {X : Nat → Prop} {w : World} {g x : Nat} {L : Lay} {V : RL} {S : St} {R : RS} {N : Nat} (s r' : ByteArray) (A : Option Addr) (n c : Nat) (b : List Int) (z e : Int) (K : Option Addr) (m d : Nat) (nums : List Int)
    (hx : Ac.ok w U ⟨4, s, r', A, n, c, b, z, e, K, m, d, nums⟩) (h : DAt w X g L S) (hr : RAt w X x V R) (F : Fine S R N) (hN : N ≤ 100) (hX : ∀ k, k < U → X k) (hrU : U ≤ x) (hU : U ≤ w.heap.size) (hn : n ≤ 500) (hm : m ≤ 60) :
    Calls Try.prog 9 #[.pointer (some ⟨g, 0, none⟩), .pointer (some ⟨x, 0, none⟩), .agg #[.int .i64 4, .string s, .string r', .slice A n c, .int .i64 z, .int .i64 e, .slice K m d]] w (Done X U g x w (N + 1)) := by
  have hs : s.size ≤ maxLen := hx.s
  have RF := F.fits (by omega)
  have hcs : S.calls ≤ 100 := Nat.le_trans F.calls hN
  obtain ⟨ι, hsim⟩ := F.sim
  have hbl : b.length ≤ 500 := by
    have := hx.b.len
    rw [by8_len] at this
    exact Nat.le_trans (Nat.le_of_eq this) hn
  have hbyt : ∀ y ∈ b, 0 ≤ y ∧ y < 256 := fun y hy => u8_wf (hx.byt y hy)
  have hboth : Both (S.rename s.data.toList r'.data.toList) (R.rename s r') := hsim.rename F.inv F.wb s r'
  obtain ⟨a0, ha0⟩ : ∃ a0, a0 = (S.rename s.data.toList r'.data.toList).2 := ⟨_, rfl⟩
  have HANS : (R.rename s r').1 = a0 := by rw [ha0]; exact hboth.1
  obtain ⟨vs, hvs⟩ : ∃ vs : List Value, vs = [.int .i64 4, .string s, .string r', .slice A n c, .int .i64 z, .int .i64 e, .slice K m d] := ⟨_, rfl⟩
  obtain ⟨w1, hw1⟩ : ∃ w1, w1 = w.alloc (.cells #[.int .i64 4, .string s, .string r', .slice A n c, .int .i64 z, .int .i64 e, .slice K m d] 36) := ⟨_, rfl⟩
  obtain ⟨bx, hbx⟩ : ∃ bx, bx = w.heap.size := ⟨_, rfl⟩
  have hlow : Hid (Below U w w1) := Lib.hid (by rw [hw1]; exact (Below.refl _ _).alloc hU _)
  have hba : Below w.heap.size w w1 := by rw [hw1]; exact (Below.refl _ _).alloc (Nat.le_refl _) _
  have hs1 : w1.heap.size = w.heap.size + 1 := by rw [hw1]; simp
  have hbox : BoxAt w1 bx vs := fun j v hv => by
    rw [hw1, hbx, World.cell?_alloc_at _ _ _ _ rfl]
    rw [hvs] at hv
    simpa using hv
  have P : Tw X U g x bx vs w1 (fun T => T = S) (fun T => T = R) w1 := ⟨wid X w w1, L, V, S, R, fun k hk => .inl hk, h.wider (grown_of_below hba none) (fun j e => by cases e), hr.wider hba, rfl, rfl, hbox, .inr ⟨by omega, by omega⟩, by have := hr.lt; omega, by omega, Below.refl _ _⟩
  have hXU := Lib.hid hX
  have HAT : Hid (∀ w', BoxAt w' bx vs → w'.cell? ⟨bx, 0, none⟩ = some (.int .i64 4) ∧ w'.cell? ⟨bx, 1, none⟩ = some (.string s) ∧ w'.cell? ⟨bx, 2, none⟩ = some (.string r')) := Lib.hid fun w' hb => by
    rw [hvs] at hb
    exact ⟨hb 0 _ rfl, hb 1 _ rfl, hb 2 _ rfl⟩
  obtain ⟨D1, hD1⟩ : ∃ D1 : St → Prop, D1 = fun T => T = S := ⟨_, rfl⟩
  obtain ⟨R1, hR1⟩ : ∃ R1 : RS → Prop, R1 = fun T => T = R := ⟨_, rfl⟩
  obtain ⟨D2, hD2⟩ : ∃ D2 : St → Prop, D2 = fun S' => S' = (S.rename s.data.toList r'.data.toList).1 := ⟨_, rfl⟩
  obtain ⟨R2, hR2⟩ : ∃ R2 : RS → Prop, R2 = fun R' => R' = (R.rename s r').2 := ⟨_, rfl⟩
  have HD : Hid (∀ (R0 : RS → Prop) (W : World), Tw X U g x bx vs w1 D1 R0 W → Calls Try.prog 32 #[.pointer (some ⟨g, 0, none⟩), .string s, .string r'] W (fun e w' => e = .returned (.int .i64 a0) ∧ w'.cell? ⟨bx, 0, none⟩ = some (.int .i64 4) ∧ w'.cell? ⟨bx, 1, none⟩ = some (.string s) ∧ w'.cell? ⟨bx, 2, none⟩ = some (.string r') ∧ Tw X U g x bx vs w1 D2 R0 w')) := Lib.hid fun R0 W P => by
    rw [hD1] at P
    refine (P.d (DS := D2) (a0 := a0) hX fun Y L hY hB hD => ?_).mono fun e w' ⟨h1, h2, h3⟩ => ?_
    · rw [hD2, ha0]
      exact (rename_any hD (by omega) s r' hs hx.r (by have := F.inv.len; omega) (by have := F.inv.wl; omega)).mono fun e w' ⟨h1, ⟨L', h2⟩, h3⟩ => ⟨h1, ⟨L', _, rfl, h2⟩, h3⟩
    · obtain ⟨k0, k1, k2⟩ := HAT.out w' h2
      exact ⟨h1, k0, k1, k2, h3⟩
  have HX : Hid (∀ (D0 : St → Prop) (W : World), Tw X U g x bx vs w1 D0 R1 W → Calls Try.prog 33 #[.pointer (some ⟨x, 0, none⟩), .string s, .string r'] W (fun e w' => e = .returned (.int .i64 a0) ∧ w'.cell? ⟨bx, 0, none⟩ = some (.int .i64 4) ∧ w'.cell? ⟨bx, 1, none⟩ = some (.string s) ∧ w'.cell? ⟨bx, 2, none⟩ = some (.string r') ∧ Tw X U g x bx vs w1 D0 R2 w')) := Lib.hid fun D0 W P => by
    rw [hR1] at P
    refine (P.r (RP := R2) (a0 := a0) hrU fun Y V hY hB hR => ?_).mono fun e w' ⟨h1, h2, h3⟩ => ?_
    · rw [hR2]
      exact (rrename_any Y x V R s r' W hR RF.calls F.wb.fuse F.wb.fault (by have := RF.now; omega) (by have := RF.waits; omega) hx.r).mono fun e w' ⟨h1, ⟨V', h2⟩, h3⟩ => ⟨by rw [h1, HANS], ⟨V', _, rfl, h2⟩, h3⟩
    · obtain ⟨k0, k1, k2⟩ := HAT.out w' h2
      exact ⟨h1, k0, k1, k2, h3⟩
  have FIN : Hid (∀ S' R' Y L W, DAt W Y g L S' → D2 S' → R2 R' → Fine S' R' (N + 1)) := Lib.hid (by
    rw [hD2, hR2]
    intro S' R' Y L W
    revert S' R' Y L
    rintro S' R' Y L hD rfl rfl
    exact Fine.of (F.inv.rename _ _) (F.keys.rename F.inv _ _) hboth (by have := rename_le S s.data.toList r'.data.toList; have := F.calls; omega))
  have HW := Lib.hid hw1.symm
  have HBX := Lib.hid hbx.symm
  rw [← hD1, ← hR1] at P
  have hbox0 := hbox
  rw [hvs] at hbox
  have k0 : w1.cell? ⟨bx, 0, none⟩ = some (.int .i64 4) := hbox 0 _ rfl
  have k1 : w1.cell? ⟨bx, 1, none⟩ = some (.string s) := hbox 1 _ rfl
  have k2 : w1.cell? ⟨bx, 2, none⟩ = some (.string r') := hbox 2 _ rfl
  clear hbox hbox0 h hr hX hrU hU hw1 hbx hvs hx hs hn hm hba hs1 hboth HANS ha0 hsim hD1 hD2 hR1 hR2 F RF hcs hbl hbyt
  go_enter Try.func9, Try.ntmps9
  go_wp2_with fail
  rw [HW.out, HBX.out]
  have P0 := P.drew
  go_region_held3 (fun w' => w'.cell? ⟨bx, 0, none⟩ = some (.int .i64 4) ∧ w'.cell? ⟨bx, 1, none⟩ = some (.string s) ∧ w'.cell? ⟨bx, 2, none⟩ = some (.string r')) (((try dsimp only); (repeat' apply And.intro) <;> first | assumption | go_keep)) (first
    | (go_at_call 32; first
      | (refine (HD.out _ _ P0).mono ?_; rintro e w2 ⟨rfl, k0, k1, k2, Pd⟩)
      | (refine (HD.out _ _ Px).mono ?_; rintro e w3 ⟨rfl, k0, k1, k2, PP⟩))
    | (go_at_call 33; first
      | (refine (HX.out _ _ P0).mono ?_; rintro e w2 ⟨rfl, k0, k1, k2, Px⟩)
      | (refine (HX.out _ _ Pd).mono ?_; rintro e w3 ⟨rfl, k0, k1, k2, PP⟩))
    | fail)
  all_goals
    go_wp2
    go_ret
    exact PP.done hlow.out (fun S' R' Y L => FIN.out S' R' Y L _) (fun k hk => hk)

set_option maxRecDepth 100000 in
set_option maxHeartbeats 3200000 in
theorem two_5 {U : Nat} {X : Nat → Prop} {w : World} {g x : Nat} {L : Lay} {V : RL} {S : St} {R : RS} {N : Nat} (s r' : ByteArray) (A : Option Addr) (n c : Nat) (b : List Int) (z e : Int) (K : Option Addr) (m d : Nat) (nums : List Int)
    (hx : Ac.ok w U ⟨5, s, r', A, n, c, b, z, e, K, m, d, nums⟩) (h : DAt w X g L S) (hr : RAt w X x V R) (F : Fine S R N) (hN : N ≤ 100) (hX : ∀ k, k < U → X k) (hrU : U ≤ x) (hU : U ≤ w.heap.size) (hn : n ≤ 500) (hm : m ≤ 60) :
    Calls Try.prog 9 #[.pointer (some ⟨g, 0, none⟩), .pointer (some ⟨x, 0, none⟩), .agg #[.int .i64 5, .string s, .string r', .slice A n c, .int .i64 z, .int .i64 e, .slice K m d]] w (Done X U g x w (N + 1)) := by
  have hs : s.size ≤ maxLen := hx.s
  have RF := F.fits (by omega)
  have hcs : S.calls ≤ 100 := Nat.le_trans F.calls hN
  obtain ⟨ι, hsim⟩ := F.sim
  have hbl : b.length ≤ 500 := by
    have := hx.b.len
    rw [by8_len] at this
    exact Nat.le_trans (Nat.le_of_eq this) hn
  have hbyt : ∀ y ∈ b, 0 ≤ y ∧ y < 256 := fun y hy => u8_wf (hx.byt y hy)
  have hboth : Both (S.remove s.data.toList) (R.remove s) := hsim.remove F.inv F.wb s
  obtain ⟨a0, ha0⟩ : ∃ a0, a0 = (S.remove s.data.toList).2 := ⟨_, rfl⟩
  have HANS : (R.remove s).1 = a0 := by rw [ha0]; exact hboth.1
  obtain ⟨vs, hvs⟩ : ∃ vs : List Value, vs = [.int .i64 5, .string s, .string r', .slice A n c, .int .i64 z, .int .i64 e, .slice K m d] := ⟨_, rfl⟩
  obtain ⟨w1, hw1⟩ : ∃ w1, w1 = w.alloc (.cells #[.int .i64 5, .string s, .string r', .slice A n c, .int .i64 z, .int .i64 e, .slice K m d] 36) := ⟨_, rfl⟩
  obtain ⟨bx, hbx⟩ : ∃ bx, bx = w.heap.size := ⟨_, rfl⟩
  have hlow : Hid (Below U w w1) := Lib.hid (by rw [hw1]; exact (Below.refl _ _).alloc hU _)
  have hba : Below w.heap.size w w1 := by rw [hw1]; exact (Below.refl _ _).alloc (Nat.le_refl _) _
  have hs1 : w1.heap.size = w.heap.size + 1 := by rw [hw1]; simp
  have hbox : BoxAt w1 bx vs := fun j v hv => by
    rw [hw1, hbx, World.cell?_alloc_at _ _ _ _ rfl]
    rw [hvs] at hv
    simpa using hv
  have P : Tw X U g x bx vs w1 (fun T => T = S) (fun T => T = R) w1 := ⟨wid X w w1, L, V, S, R, fun k hk => .inl hk, h.wider (grown_of_below hba none) (fun j e => by cases e), hr.wider hba, rfl, rfl, hbox, .inr ⟨by omega, by omega⟩, by have := hr.lt; omega, by omega, Below.refl _ _⟩
  have hXU := Lib.hid hX
  have HAT : Hid (∀ w', BoxAt w' bx vs → w'.cell? ⟨bx, 0, none⟩ = some (.int .i64 5) ∧ w'.cell? ⟨bx, 1, none⟩ = some (.string s)) := Lib.hid fun w' hb => by
    rw [hvs] at hb
    exact ⟨hb 0 _ rfl, hb 1 _ rfl⟩
  obtain ⟨D1, hD1⟩ : ∃ D1 : St → Prop, D1 = fun T => T = S := ⟨_, rfl⟩
  obtain ⟨R1, hR1⟩ : ∃ R1 : RS → Prop, R1 = fun T => T = R := ⟨_, rfl⟩
  obtain ⟨D2, hD2⟩ : ∃ D2 : St → Prop, D2 = fun S' => S' = (S.remove s.data.toList).1 := ⟨_, rfl⟩
  obtain ⟨R2, hR2⟩ : ∃ R2 : RS → Prop, R2 = fun R' => R' = (R.remove s).2 := ⟨_, rfl⟩
  have HD : Hid (∀ (R0 : RS → Prop) (W : World), Tw X U g x bx vs w1 D1 R0 W → Calls Try.prog 20 #[.pointer (some ⟨g, 0, none⟩), .string s] W (fun e w' => e = .returned (.int .i64 a0) ∧ w'.cell? ⟨bx, 0, none⟩ = some (.int .i64 5) ∧ w'.cell? ⟨bx, 1, none⟩ = some (.string s) ∧ Tw X U g x bx vs w1 D2 R0 w')) := Lib.hid fun R0 W P => by
    rw [hD1] at P
    refine (P.d (DS := D2) (a0 := a0) hX fun Y L hY hB hD => ?_).mono fun e w' ⟨h1, h2, h3⟩ => ?_
    · rw [hD2, ha0]
      exact (remove_any hD (by omega) s hs (by have := F.inv.len; omega) (by have := F.inv.wl; omega)).mono fun e w' ⟨h1, ⟨L', h2⟩, h3⟩ => ⟨h1, ⟨L', _, rfl, h2⟩, h3⟩
    · obtain ⟨k0, k1⟩ := HAT.out w' h2
      exact ⟨h1, k0, k1, h3⟩
  have HX : Hid (∀ (D0 : St → Prop) (W : World), Tw X U g x bx vs w1 D0 R1 W → Calls Try.prog 34 #[.pointer (some ⟨x, 0, none⟩), .string s] W (fun e w' => e = .returned (.int .i64 a0) ∧ w'.cell? ⟨bx, 0, none⟩ = some (.int .i64 5) ∧ w'.cell? ⟨bx, 1, none⟩ = some (.string s) ∧ Tw X U g x bx vs w1 D0 R2 w')) := Lib.hid fun D0 W P => by
    rw [hR1] at P
    refine (P.r (RP := R2) (a0 := a0) hrU fun Y V hY hB hR => ?_).mono fun e w' ⟨h1, h2, h3⟩ => ?_
    · rw [hR2]
      exact (rremove_any Y x V R s W hR RF.calls F.wb.fuse F.wb.fault (by have := RF.now; omega) (by have := RF.waits; omega)).mono fun e w' ⟨h1, ⟨V', h2⟩, h3⟩ => ⟨by rw [h1, HANS], ⟨V', _, rfl, h2⟩, h3⟩
    · obtain ⟨k0, k1⟩ := HAT.out w' h2
      exact ⟨h1, k0, k1, h3⟩
  have FIN : Hid (∀ S' R' Y L W, DAt W Y g L S' → D2 S' → R2 R' → Fine S' R' (N + 1)) := Lib.hid (by
    rw [hD2, hR2]
    intro S' R' Y L W
    revert S' R' Y L
    rintro S' R' Y L hD rfl rfl
    exact Fine.of (F.inv.remove _) (F.keys.remove F.inv _) hboth (by have := remove_le S s.data.toList; have := F.calls; omega))
  have HW := Lib.hid hw1.symm
  have HBX := Lib.hid hbx.symm
  rw [← hD1, ← hR1] at P
  have hbox0 := hbox
  rw [hvs] at hbox
  have k0 : w1.cell? ⟨bx, 0, none⟩ = some (.int .i64 5) := hbox 0 _ rfl
  have k1 : w1.cell? ⟨bx, 1, none⟩ = some (.string s) := hbox 1 _ rfl
  clear hbox hbox0 h hr hX hrU hU hw1 hbx hvs hx hs hn hm hba hs1 hboth HANS ha0 hsim hD1 hD2 hR1 hR2 F RF hcs hbl hbyt
  go_enter Try.func9, Try.ntmps9
  go_wp2_with fail
  rw [HW.out, HBX.out]
  have P0 := P.drew
  go_region_held3 (fun w' => w'.cell? ⟨bx, 0, none⟩ = some (.int .i64 5) ∧ w'.cell? ⟨bx, 1, none⟩ = some (.string s)) (((try dsimp only); (repeat' apply And.intro) <;> first | assumption | go_keep)) (first
    | (go_at_call 20; first
      | (refine (HD.out _ _ P0).mono ?_; rintro e w2 ⟨rfl, k0, k1, Pd⟩)
      | (refine (HD.out _ _ Px).mono ?_; rintro e w3 ⟨rfl, k0, k1, PP⟩))
    | (go_at_call 34; first
      | (refine (HX.out _ _ P0).mono ?_; rintro e w2 ⟨rfl, k0, k1, Px⟩)
      | (refine (HX.out _ _ Pd).mono ?_; rintro e w3 ⟨rfl, k0, k1, PP⟩))
    | fail)
  all_goals
    go_wp2
    go_ret
    exact PP.done hlow.out (fun S' R' Y L => FIN.out S' R' Y L _) (fun k hk => hk)

set_option maxRecDepth 100000 in
set_option maxHeartbeats 3200000 in
theorem two_8 {U : Nat} {X : Nat → Prop} {w : World} {g x : Nat} {L : Lay} {V : RL} {S : St} {R : RS} {N : Nat} (s r' : ByteArray) (A : Option Addr) (n c : Nat) (b : List Int) (z e : Int) (K : Option Addr) (m d : Nat) (nums : List Int)
    (hx : Ac.ok w U ⟨8, s, r', A, n, c, b, z, e, K, m, d, nums⟩) (h : DAt w X g L S) (hr : RAt w X x V R) (F : Fine S R N) (hN : N ≤ 100) (hX : ∀ k, k < U → X k) (hrU : U ≤ x) (hU : U ≤ w.heap.size) (hn : n ≤ 500) (hm : m ≤ 60) :
    Calls Try.prog 9 #[.pointer (some ⟨g, 0, none⟩), .pointer (some ⟨x, 0, none⟩), .agg #[.int .i64 8, .string s, .string r', .slice A n c, .int .i64 z, .int .i64 e, .slice K m d]] w (Done X U g x w (N + 1)) := by
  have hs : s.size ≤ maxLen := hx.s
  have RF := F.fits (by omega)
  have hcs : S.calls ≤ 100 := Nat.le_trans F.calls hN
  obtain ⟨ι, hsim⟩ := F.sim
  have hbl : b.length ≤ 500 := by
    have := hx.b.len
    rw [by8_len] at this
    exact Nat.le_trans (Nat.le_of_eq this) hn
  have hbyt : ∀ y ∈ b, 0 ≤ y ∧ y < 256 := fun y hy => u8_wf (hx.byt y hy)
  have hboth : Both (S.boot z nums) (R.boot z nums) := hsim.boot F.inv F.wb z nums
  obtain ⟨a0, ha0⟩ : ∃ a0, a0 = (S.boot z nums).2 := ⟨_, rfl⟩
  have HANS : (R.boot z nums).1 = a0 := by rw [ha0]; exact hboth.1
  obtain ⟨vs, hvs⟩ : ∃ vs : List Value, vs = [.int .i64 8, .string s, .string r', .slice A n c, .int .i64 z, .int .i64 e, .slice K m d] := ⟨_, rfl⟩
  obtain ⟨w1, hw1⟩ : ∃ w1, w1 = w.alloc (.cells #[.int .i64 8, .string s, .string r', .slice A n c, .int .i64 z, .int .i64 e, .slice K m d] 36) := ⟨_, rfl⟩
  obtain ⟨bx, hbx⟩ : ∃ bx, bx = w.heap.size := ⟨_, rfl⟩
  have hlow : Hid (Below U w w1) := Lib.hid (by rw [hw1]; exact (Below.refl _ _).alloc hU _)
  have hba : Below w.heap.size w w1 := by rw [hw1]; exact (Below.refl _ _).alloc (Nat.le_refl _) _
  have hs1 : w1.heap.size = w.heap.size + 1 := by rw [hw1]; simp
  have hbox : BoxAt w1 bx vs := fun j v hv => by
    rw [hw1, hbx, World.cell?_alloc_at _ _ _ _ rfl]
    rw [hvs] at hv
    simpa using hv
  have P : Tw X U g x bx vs w1 (fun T => T = S) (fun T => T = R) w1 := ⟨wid X w w1, L, V, S, R, fun k hk => .inl hk, h.wider (grown_of_below hba none) (fun j e => by cases e), hr.wider hba, rfl, rfl, hbox, .inr ⟨by omega, by omega⟩, by have := hr.lt; omega, by omega, Below.refl _ _⟩
  have hXU := Lib.hid hX
  have HAT : Hid (∀ w', BoxAt w' bx vs → w'.cell? ⟨bx, 0, none⟩ = some (.int .i64 8) ∧ w'.cell? ⟨bx, 4, none⟩ = some (.int .i64 z) ∧ w'.cell? ⟨bx, 6, none⟩ = some (.slice K m d)) := Lib.hid fun w' hb => by
    rw [hvs] at hb
    exact ⟨hb 0 _ rfl, hb 4 _ rfl, hb 6 _ rfl⟩
  obtain ⟨D1, hD1⟩ : ∃ D1 : St → Prop, D1 = fun T => T = S := ⟨_, rfl⟩
  obtain ⟨R1, hR1⟩ : ∃ R1 : RS → Prop, R1 = fun T => T = R := ⟨_, rfl⟩
  obtain ⟨D2, hD2⟩ : ∃ D2 : St → Prop, D2 = fun S' => S' = (S.boot z nums).1 := ⟨_, rfl⟩
  obtain ⟨R2, hR2⟩ : ∃ R2 : RS → Prop, R2 = fun R' => R' = (R.boot z nums).2 := ⟨_, rfl⟩
  have HD : Hid (∀ (R0 : RS → Prop) (W : World), Tw X U g x bx vs w1 D1 R0 W → Calls Try.prog 21 #[.pointer (some ⟨g, 0, none⟩), .int .i64 z, .slice K m d] W (fun e w' => e = .returned (.int .i64 a0) ∧ w'.cell? ⟨bx, 0, none⟩ = some (.int .i64 8) ∧ w'.cell? ⟨bx, 4, none⟩ = some (.int .i64 z) ∧ w'.cell? ⟨bx, 6, none⟩ = some (.slice K m d) ∧ Tw X U g x bx vs w1 D2 R0 w')) := Lib.hid fun R0 W P => by
    rw [hD1] at P
    refine (P.d (DS := D2) (a0 := a0) hX fun Y L hY hB hD => ?_).mono fun e w' ⟨h1, h2, h3⟩ => ?_
    · rw [hD2, ha0]
      exact (boot_J hD F.inv (by omega) z K m d nums (shX_in (hx.nums.below (hlow.out.trans hB)) (fun k hk => hY k (hXU.out k hk))) (by omega)).mono fun e w' ⟨h1, ⟨L', h2⟩, h3⟩ => ⟨h1, ⟨L', _, rfl, h2⟩, h3⟩
    · obtain ⟨k0, k4, k6⟩ := HAT.out w' h2
      exact ⟨h1, k0, k4, k6, h3⟩
  have HX : Hid (∀ (D0 : St → Prop) (W : World), Tw X U g x bx vs w1 D0 R1 W → Calls Try.prog 38 #[.pointer (some ⟨x, 0, none⟩), .int .i64 z, .slice K m d] W (fun e w' => e = .returned (.int .i64 a0) ∧ w'.cell? ⟨bx, 0, none⟩ = some (.int .i64 8) ∧ w'.cell? ⟨bx, 4, none⟩ = some (.int .i64 z) ∧ w'.cell? ⟨bx, 6, none⟩ = some (.slice K m d) ∧ Tw X U g x bx vs w1 D0 R2 w')) := Lib.hid fun D0 W P => by
    rw [hR1] at P
    refine (P.r (RP := R2) (a0 := a0) hrU fun Y V hY hB hR => ?_).mono fun e w' ⟨h1, h2, h3⟩ => ?_
    · rw [hR2]
      exact (rboot_any Y x V R W hR z K m d nums (sx_in (hx.nums.below (hlow.out.trans hB)) (fun k hk => hY k (hXU.out k hk)) hrU) (by omega) RF.sure RF.waits (by have := RF.files; omega) RF.n).mono fun e w' ⟨h1, ⟨V', h2⟩, h3⟩ => ⟨by rw [h1, HANS], ⟨V', _, rfl, h2⟩, h3⟩
    · obtain ⟨k0, k4, k6⟩ := HAT.out w' h2
      exact ⟨h1, k0, k4, k6, h3⟩
  have FIN : Hid (∀ S' R' Y L W, DAt W Y g L S' → D2 S' → R2 R' → Fine S' R' (N + 1)) := Lib.hid (by
    rw [hD2, hR2]
    intro S' R' Y L W
    revert S' R' Y L
    rintro S' R' Y L hD rfl rfl
    exact Fine.of (F.inv.boot _ _) (F.keys.boot _ _) hboth (by have := boot_le S z nums; have := F.calls; omega))
  have HW := Lib.hid hw1.symm
  have HBX := Lib.hid hbx.symm
  rw [← hD1, ← hR1] at P
  have hbox0 := hbox
  rw [hvs] at hbox
  have k0 : w1.cell? ⟨bx, 0, none⟩ = some (.int .i64 8) := hbox 0 _ rfl
  have k4 : w1.cell? ⟨bx, 4, none⟩ = some (.int .i64 z) := hbox 4 _ rfl
  have k6 : w1.cell? ⟨bx, 6, none⟩ = some (.slice K m d) := hbox 6 _ rfl
  clear hbox hbox0 h hr hX hrU hU hw1 hbx hvs hx hs hn hm hba hs1 hboth HANS ha0 hsim hD1 hD2 hR1 hR2 F RF hcs hbl hbyt
  go_enter Try.func9, Try.ntmps9
  go_wp2_with fail
  rw [HW.out, HBX.out]
  have P0 := P.drew
  go_region_held3 (fun w' => w'.cell? ⟨bx, 0, none⟩ = some (.int .i64 8) ∧ w'.cell? ⟨bx, 4, none⟩ = some (.int .i64 z) ∧ w'.cell? ⟨bx, 6, none⟩ = some (.slice K m d)) (((try dsimp only); (repeat' apply And.intro) <;> first | assumption | go_keep)) (first
    | (go_at_call 21; first
      | (refine (HD.out _ _ P0).mono ?_; rintro e w2 ⟨rfl, k0, k4, k6, Pd⟩)
      | (refine (HD.out _ _ Px).mono ?_; rintro e w3 ⟨rfl, k0, k4, k6, PP⟩))
    | (go_at_call 38; first
      | (refine (HX.out _ _ P0).mono ?_; rintro e w2 ⟨rfl, k0, k4, k6, Px⟩)
      | (refine (HX.out _ _ Pd).mono ?_; rintro e w3 ⟨rfl, k0, k4, k6, PP⟩))
    | fail)
  all_goals
    go_wp2
    go_ret
    exact PP.done hlow.out (fun S' R' Y L => FIN.out S' R' Y L _) (fun k hk => hk)
end Go.Proofs.Ytekhockdgglndaa
namespace Go.Proofs.Ytekhockdgglndaa
set_option linter.unusedVariables false
set_option linter.unusedSimpArgs false
open Go.RowKit

theorem Inv.fused {S : St} (I : Inv S) (z : Int) : Inv { S with fuse := armN z S.calls } := I.like rfl rfl rfl rfl rfl (Nat.le_refl _)
theorem Inv.faulted {S : St} (I : Inv S) (z e : Int) : Inv { S with fault := faultN z e S.calls, fe := e } := I.like rfl rfl rfl rfl rfl (Nat.le_refl _)
theorem keeps_below {X : Nat → Prop} {U : Nat} {w w' : World} (h : Keeps X w w') (hX : ∀ k, k < U → X k) : Below U w w' := h.below hX

set_option maxRecDepth 100000 in
set_option maxHeartbeats 3200000 in
theorem two_6 {U : Nat} {X : Nat → Prop} {w : World} {g x : Nat} {L : Lay} {V : RL} {S : St} {R : RS} {N : Nat} (s r' : ByteArray) (A : Option Addr) (n c : Nat) (b : List Int) (z e : Int) (K : Option Addr) (m d : Nat) (nums : List Int)
    (h : DAt w X g L S) (hr : RAt w X x V R) (F : Fine S R N) (hN : N ≤ 100) (hX : ∀ k, k < U → X k) (hrU : U ≤ x) (hU : U ≤ w.heap.size) :
    Calls Try.prog 9 #[.pointer (some ⟨g, 0, none⟩), .pointer (some ⟨x, 0, none⟩), .agg #[.int .i64 6, .string s, .string r', .slice A n c, .int .i64 z, .int .i64 e, .slice K m d]] w (Done X U g x w (N + 1)) := by
  have hcs : S.calls ≤ 100 := Nat.le_trans F.calls hN
  obtain ⟨w1, hw1⟩ : ∃ w1, w1 = w.alloc (.cells #[.int .i64 6, .string s, .string r', .slice A n c, .int .i64 z, .int .i64 e, .slice K m d] 36) := ⟨_, rfl⟩
  obtain ⟨bx, hbx⟩ : ∃ bx, bx = w.heap.size := ⟨_, rfl⟩
  have hba : Below w.heap.size w w1 := by rw [hw1]; exact (Below.refl _ _).alloc (Nat.le_refl _) _
  have hs1 : w1.heap.size = w.heap.size + 1 := by rw [hw1]; simp
  have c4 : w1.cell? ⟨bx, 4, none⟩ = some (.int .i64 z) := by rw [hw1, hbx, World.cell?_alloc_at _ _ _ _ rfl]; rfl
  have hD : DAt w1 (wid X w w1) g L S := h.wider (grown_of_below hba none) (fun j e => by cases e)
  have hR : RAt w1 (wid X w w1) x V R := hr.wider hba
  have hY : ∀ k, k < U → wid X w w1 k := fun k hk => .inl (hX k hk)
  have hbY : wid X w w1 bx := .inr ⟨by omega, by omega⟩
  have HF : Hid (Calls Try.prog 19 #[.pointer (some ⟨g, 0, none⟩), .int .i64 z] w1 fun e w' => e = .returned (.tuple #[]) ∧ w'.cell? ⟨bx, 4, none⟩ = some (.int .i64 z) ∧ w'.cell? ⟨x, 7, none⟩ = some (.int .i64 (R.fuse : Int)) ∧ w'.frozen? ⟨x, 7, none⟩ = false ∧ Hid (Done X U g x w (N + 1) (.returned (.bool true)) (w'.setCell ⟨x, 7, none⟩ (.int .i64 (armed z : Nat))))) := Lib.hid ((fuse_any hD z (by omega)).mono fun e w' ⟨h1, h2, h3⟩ => by
    have hR' : RAt w' (wid X w w1) x V R := hR.stay h3.block h3.size
    refine ⟨h1, (World.cell?_of_block (w := w1) (a := ⟨bx, 4, none⟩) (h3.block bx hbY)).trans c4, hR'.cell 7, hR'.nf 7, Lib.hid ?_⟩
    obtain ⟨ι, hs⟩ := F.sim
    obtain ⟨s1, s2⟩ := hs.fused F.wb z
    refine ⟨rfl, wid X w w1, L, V, _, { R with fuse := armed z }, fun k hk => .inl hk, h2.foreign (grown_set w' x 7 _) (fun j e => by cases e; exact hR'.xX), hR'.set 7 _ rfl rfl rfl rfl rfl, ⟨F.inv.fused z, F.keys.like rfl rfl, ⟨ι, s1⟩, s2, by have := F.calls; show S.calls ≤ _; omega⟩, ?_⟩
    have hb := (hba.mono hU).trans (h3.below hY)
    exact ⟨hb.os, hb.tape, hb.output, by simpa using hb.size, fun k hk => (Below.heap_setCell _ _ _ _ (fun e => by have e : k = x := e; omega)).trans (hb.block k hk)⟩)
  have HW := Lib.hid hw1.symm
  have HBX := Lib.hid hbx.symm
  have HA := Lib.hid (fun w => arm_any z w)
  clear h hr F hX hrU hU hw1 hbx hba hs1 hD hR hY hbY
  go_enter Try.func9, Try.ntmps9
  go_wp2_with (first
    | (go_at_call 19; rw [HW.out]; refine HF.out.mono ?_; rintro e w2 ⟨rfl, k4, k7, kf, HDN⟩; rw [HBX.out])
    | (go_at_call 35; refine (HA.out _).mono ?_; rintro e w' ⟨rfl, rfl⟩)
    | fail)
  go_ret
  exact HDN.out
set_option maxRecDepth 100000 in
set_option maxHeartbeats 3200000 in
theorem two_7 {U : Nat} {X : Nat → Prop} {w : World} {g x : Nat} {L : Lay} {V : RL} {S : St} {R : RS} {N : Nat} (s r' : ByteArray) (A : Option Addr) (n c : Nat) (b : List Int) (z e : Int) (K : Option Addr) (m d : Nat) (nums : List Int)
    (h : DAt w X g L S) (hr : RAt w X x V R) (F : Fine S R N) (hN : N ≤ 100) (hX : ∀ k, k < U → X k) (hrU : U ≤ x) (hU : U ≤ w.heap.size) :
    Calls Try.prog 9 #[.pointer (some ⟨g, 0, none⟩), .pointer (some ⟨x, 0, none⟩), .agg #[.int .i64 7, .string s, .string r', .slice A n c, .int .i64 z, .int .i64 e, .slice K m d]] w (Done X U g x w (N + 1)) := by
  have hcs : S.calls ≤ 100 := Nat.le_trans F.calls hN
  obtain ⟨w1, hw1⟩ : ∃ w1, w1 = w.alloc (.cells #[.int .i64 7, .string s, .string r', .slice A n c, .int .i64 z, .int .i64 e, .slice K m d] 36) := ⟨_, rfl⟩
  obtain ⟨bx, hbx⟩ : ∃ bx, bx = w.heap.size := ⟨_, rfl⟩
  have hba : Below w.heap.size w w1 := by rw [hw1]; exact (Below.refl _ _).alloc (Nat.le_refl _) _
  have hs1 : w1.heap.size = w.heap.size + 1 := by rw [hw1]; simp
  have c4 : w1.cell? ⟨bx, 4, none⟩ = some (.int .i64 z) := by rw [hw1, hbx, World.cell?_alloc_at _ _ _ _ rfl]; rfl
  have c5 : w1.cell? ⟨bx, 5, none⟩ = some (.int .i64 e) := by rw [hw1, hbx, World.cell?_alloc_at _ _ _ _ rfl]; rfl
  have hD : DAt w1 (wid X w w1) g L S := h.wider (grown_of_below hba none) (fun j e => by cases e)
  have hR : RAt w1 (wid X w w1) x V R := hr.wider hba
  have hY : ∀ k, k < U → wid X w w1 k := fun k hk => .inl (hX k hk)
  have hbY : wid X w w1 bx := .inr ⟨by omega, by omega⟩
  have HF : Hid (Calls Try.prog 36 #[.pointer (some ⟨g, 0, none⟩), .int .i64 z, .int .i64 e] w1 fun r w' => r = .returned (.tuple #[]) ∧ w'.cell? ⟨bx, 4, none⟩ = some (.int .i64 z) ∧ w'.cell? ⟨bx, 5, none⟩ = some (.int .i64 e) ∧ Hid (Calls Try.prog 37 #[.pointer (some ⟨x, 0, none⟩), .int .i64 z, .int .i64 e] w' fun r w'' => r = .returned (.tuple #[]) ∧ Done X U g x w (N + 1) (.returned (.bool true)) w'')) := Lib.hid ((fault_any hD z e (by omega)).mono fun r w' ⟨h1, h2, h3⟩ => by
    have hR' : RAt w' (wid X w w1) x V R := hR.stay h3.block h3.size
    refine ⟨h1, (World.cell?_of_block (w := w1) (a := ⟨bx, 4, none⟩) (h3.block bx hbY)).trans c4, (World.cell?_of_block (w := w1) (a := ⟨bx, 5, none⟩) (h3.block bx hbY)).trans c5, Lib.hid ((rsetFault_any (wid X w w1) x V R z e w' hR').mono fun r w'' ⟨q1, ⟨V', q2⟩, q3⟩ => ⟨q1, ?_⟩)⟩
    obtain ⟨ι, hs⟩ := F.sim
    obtain ⟨s1, s2⟩ := hs.faulted F.wb z e
    refine ⟨rfl, wid (wid X w w1) w' w'', L, V', _, R.setFault z e, fun k hk => .inl (.inl hk), h2.wider q3 (fun j e => by cases e; exact hR'.xX), q2, ⟨F.inv.faulted z e, F.keys.like rfl rfl, ⟨ι, s1⟩, s2, by have := F.calls; show S.calls ≤ _; omega⟩, ?_⟩
    have hb := (hba.mono hU).trans (h3.below hY)
    exact hb.trans ⟨q3.os, q3.tape, q3.output, q3.size, fun k hk => q3.block k (Nat.lt_of_lt_of_le (Nat.lt_of_lt_of_le hk hrU) (Nat.le_of_lt hR'.lt)) (fun e => by injection e with e; omega)⟩)
  have HW := Lib.hid hw1.symm
  have HBX := Lib.hid hbx.symm
  clear h hr F hX hrU hU hw1 hbx hba hs1 hD hR hY hbY
  go_enter Try.func9, Try.ntmps9
  go_wp2_with (first
    | (go_at_call 36; rw [HW.out]; refine HF.out.mono ?_; rintro e w2 ⟨rfl, k4, k5, HS⟩; rw [HBX.out])
    | (go_at_call 37; refine HS.out.mono ?_; rintro e w3 ⟨rfl, HDN⟩)
    | fail)
  go_ret
  exact HDN
set_option maxRecDepth 100000 in
set_option maxHeartbeats 3200000 in
theorem two_no {U : Nat} {X : Nat → Prop} {w : World} {g x : Nat} {L : Lay} {V : RL} {S : St} {R : RS} {N : Nat} (q : Int) (hq : q < 0 ∨ 8 < q) (s r' : ByteArray) (A : Option Addr) (n c : Nat) (b : List Int) (z e : Int) (K : Option Addr) (m d : Nat) (nums : List Int)
    (h : DAt w X g L S) (hr : RAt w X x V R) (F : Fine S R N) (hX : ∀ k, k < U → X k) (hU : U ≤ w.heap.size) :
    Calls Try.prog 9 #[.pointer (some ⟨g, 0, none⟩), .pointer (some ⟨x, 0, none⟩), .agg #[.int .i64 q, .string s, .string r', .slice A n c, .int .i64 z, .int .i64 e, .slice K m d]] w (Done X U g x w (N + 1)) := by
  obtain ⟨w1, hw1⟩ : ∃ w1, w1 = w.alloc (.cells #[.int .i64 q, .string s, .string r', .slice A n c, .int .i64 z, .int .i64 e, .slice K m d] 36) := ⟨_, rfl⟩
  have hba : Below w.heap.size w w1 := by rw [hw1]; exact (Below.refl _ _).alloc (Nat.le_refl _) _
  have HD : Hid (Done X U g x w (N + 1) (.returned (.bool true)) w1) := Lib.hid ⟨rfl, wid X w w1, L, V, S, R, fun k hk => .inl hk, h.wider (grown_of_below hba none) (fun j e => by cases e), hr.wider hba, ⟨F.inv, F.keys, F.sim, F.wb, by have := F.calls; omega⟩, hba.mono hU⟩
  have HW := Lib.hid hw1.symm
  have e0 : (q == 0) = false := by simp; omega
  have e1 : (q == 1) = false := by simp; omega
  have e2 : (q == 2) = false := by simp; omega
  have e3 : (q == 3) = false := by simp; omega
  have e4 : (q == 4) = false := by simp; omega
  have e5 : (q == 5) = false := by simp; omega
  have e6 : (q == 6) = false := by simp; omega
  have e7 : (q == 7) = false := by simp; omega
  have e8 : (q == 8) = false := by simp; omega
  clear h hr F hX hU hw1 hba hq
  go_enter Try.func9, Try.ntmps9
  go_wp2
  rw [HW.out]
  go_ret
  exact HD.out
/-- Whatever the act is. -/
theorem do_two {U : Nat} {X : Nat → Prop} {w : World} {g x : Nat} {L : Lay} {V : RL} {S : St} {R : RS} {N : Nat} (a : Ac) (ha : a.ok w U) (h : DAt w X g L S) (hr : RAt w X x V R) (F : Fine S R N) (hN : N ≤ 100) (hX : ∀ k, k < U → X k) (hrU : U ≤ x) (hU : U ≤ w.heap.size) (hs : a.n ≤ 500) (hm : a.m ≤ 60) :
    Calls Try.prog 9 #[.pointer (some ⟨g, 0, none⟩), .pointer (some ⟨x, 0, none⟩), .agg a.vals.toArray] w (Done X U g x w (N + 1)) := by
  obtain ⟨q, s, r', A, n, c, b, z, e, K, m, d, nums⟩ := a
  by_cases hq : q < 0 ∨ 8 < q
  · exact two_no q hq s r' A n c b z e K m d nums h hr F hX hU
  · have : q = 0 ∨ q = 1 ∨ q = 2 ∨ q = 3 ∨ q = 4 ∨ q = 5 ∨ q = 6 ∨ q = 7 ∨ q = 8 := by omega
    rcases this with rfl | rfl | rfl | rfl | rfl | rfl | rfl | rfl | rfl
    · exact two_0 s r' A n c b z e K m d nums ha h hr F hN hX hrU hU hs hm
    · exact two_1 s r' A n c b z e K m d nums ha h hr F hN hX hrU hU hs hm
    · exact two_2 s r' A n c b z e K m d nums ha h hr F hN hX hrU hU hs hm
    · exact two_3 s r' A n c b z e K m d nums ha h hr F hN hX hrU hU hs hm
    · exact two_4 s r' A n c b z e K m d nums ha h hr F hN hX hrU hU hs hm
    · exact two_5 s r' A n c b z e K m d nums ha h hr F hN hX hrU hU hs hm
    · exact two_6 s r' A n c b z e K m d nums h hr F hN hX hrU hU
    · exact two_7 s r' A n c b z e K m d nums h hr F hN hX hrU hU
    · exact two_8 s r' A n c b z e K m d nums ha h hr F hN hX hrU hU hs hm
end Go.Proofs.Ytekhockdgglndaa
