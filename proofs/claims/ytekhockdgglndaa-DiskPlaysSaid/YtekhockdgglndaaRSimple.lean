/-
  CONTRACTS OF the document's SyncDir, Read, Arm, SetFault.
-/
import Derived.Test.YtekhockdgglndaaRWith
namespace Go.Proofs.Ytekhockdgglndaa
set_option linter.unusedVariables false
set_option linter.unusedSimpArgs false
open Go.RowKit

section
variable {w w' : World} {X : Nat → Prop} {x : Nat} {V : RL} {R : RS}
/-- The sure names are others. -/
theorem RAt.setSure (h : RAt w X x V R) {A : Option Addr} {c : Nat} {N : List RE} (hr : RRow w (out X x) A N.length c 2 (recells N)) :
    RAt (w.setCell ⟨x, 2, none⟩ (.slice A N.length c)) X x { V with sA := A, sc := c } { R with sure := N } := by
  have hk : ∀ b, out X x b → (w.setCell ⟨x, 2, none⟩ (.slice A N.length c)).heap[b]? = w.heap[b]? ∧ out X x b := fun b hb => ⟨Below.heap_setCell _ _ _ _ hb.2, hb⟩
  refine ⟨h.xX, fun b hb => by simpa using h.old b hb, ?_, h.fr.go hk, fun f hf => (h.fo f hf).go hk, h.nr.go hk, hr.go hk, h.wr.go hk⟩
  have := h.blk
  simp [World.setCell, Array.getElem?_modify, this, List.setIfInBounds_toArray, rcellsOf]
end
/-- What a call of the document's disk answers, and what it leaves. -/
def RTo (X : Nat → Prop) (x : Nat) (w : World) (A : Int × RS) (e : Ending) (w' : World) : Prop :=
  e = .returned (.int .i64 A.1) ∧ (∃ V', RAt w' (wid X w w') x V' A.2) ∧ w.grownBy w' (some x)
theorem wid_self (X : Nat → Prop) {w w' : World} (h : w'.heap.size = w.heap.size) : wid X w w' = X := by
  funext b
  simp only [wid, h]
  exact propext ⟨fun h => h.elim id (fun h => by omega), .inl⟩
theorem RAt.widen {w' : World} {X : Nat → Prop} {x : Nat} {V : RL} {R : RS} (h : RAt w' X x V R) (w0 : World) : RAt w' (wid X w0 w') x V R :=
  h.more (fun b hb => .inl hb) fun b hb => hb.elim (h.old b) fun hb => hb.2

def RS.syncDir (R : RS) : Int × RS := if R.begun.1 = 0 then (0, { R.begun.2 with sure := R.begun.2.now, waits := [] }) else R.begun

set_option maxRecDepth 10000 in
set_option maxHeartbeats 800000 in
theorem rsyncDir_any (X : Nat → Prop) (x : Nat) (V : RL) (R : RS) (w : World) (h : RAt w X x V R) (hc : R.calls ≤ 1000000) (hf : R.fuse ≤ 1099511627776) (hg : R.fault ≤ 1099511627776) :
    Calls Try.prog 31 #[.pointer (some ⟨x, 0, none⟩)] w (RTo X x w R.syncDir) := by
  have HB := Lib.hid (rbegin_any X x V R w h hc hf hg)
  obtain ⟨B, hB⟩ : ∃ B, R.begun = B := ⟨_, rfl⟩
  rw [hB] at HB
  obtain ⟨a, R2⟩ := B
  clear h
  by_cases ha : a = 0
  · subst ha
    have HR : Hid (R.syncDir = (0, { R2 with sure := R2.now, waits := [] })) := Lib.hid (by simp [RS.syncDir, hB])
    rw [HR.out]
    clear hB
    go_enter Try.func31, Try.ntmps31
    go_wp2_with (first
      | (go_at_call 56; refine HB.out.mono ?_; rintro e w1 ⟨rfl, h1, g1⟩; have c1 : w1.cell? ⟨x, 1, none⟩ = some (.slice V.nA R2.now.length V.nc) := h1.cell 1; have c2 : w1.cell? ⟨x, 2, none⟩ = some (.slice V.sA R2.sure.length V.sc) := h1.cell 2; have c3 : w1.cell? ⟨x, 3, none⟩ = some (.slice V.wA R2.waits.length V.wc) := h1.cell 3; have hnf := h1.nf; have H1 := Lib.hid h1; clear h1)
      | fail)
    go_ret
    exact ⟨rfl, ⟨_, ((H1.out.setSure H1.out.nr).setWaits (l := []) ⟨SX.nil _ _ none 3, Nat.le_refl 0, Nat.zero_le _⟩).widen w⟩, grownx_set (grownx_set g1 2 _) 3 _⟩
  · have hne : (a != 0) = true := by simpa using ha
    have HR : Hid (R.syncDir = (a, R2)) := Lib.hid (by simp [RS.syncDir, hB, ha])
    rw [HR.out]
    clear hB ha
    go_enter Try.func31, Try.ntmps31
    go_wp2_with (first
      | (go_at_call 56; refine HB.out.mono ?_; rintro e w1 ⟨rfl, h1, g1⟩)
      | fail)
    go_ret
    exact ⟨rfl, ⟨_, h1.widen w⟩, g1⟩

theorem rfind_mem {N : List RE} {s : ByteArray} (h : ¬ rfind N s < 0) : ∃ q ∈ N, rfind N s = (q.2 : Int) := by
  induction N with
  | nil => simp [rfind] at h
  | cons p N ih =>
    simp only [rfind] at h ⊢
    split at h
    · rename_i hp
      rw [if_pos hp]
      exact ⟨p, List.mem_cons_self, rfl⟩
    · rename_i hp
      rw [if_neg hp]
      obtain ⟨q, hq, e⟩ := ih h
      exact ⟨q, List.mem_cons_of_mem _ hq, e⟩
theorem fcells_at {l : List RFl} {j : Nat} {f : RFl} (h : l[j]? = some f) : (fcells l)[j * 2]? = some (.slice f.A f.n f.c) ∧ (fcells l)[j * 2 + 1]? = some (.int .i64 (f.sure : Int)) := by
  induction l generalizing j with
  | nil => simp at h
  | cons p l ih =>
    have e : fcells (p :: l) = .slice p.A p.n p.c :: .int .i64 (p.sure : Int) :: fcells l := by simp [fcells, RFl.cells]
    cases j with
    | zero => cases h; rw [e]; exact ⟨rfl, rfl⟩
    | succ j =>
      have := ih (j := j) (by simpa using h)
      rw [e, show (j + 1) * 2 = j * 2 + 1 + 1 by omega]
      simpa using this
theorem RAt.file {w : World} {X : Nat → Prop} {x : Nat} {V : RL} {R : RS} (h : RAt w X x V R) {j : Nat} {f : RFl} (hf : R.files[j]? = some f) :
    ∃ b off, V.fA = some ⟨b, off, none⟩ ∧ w.cell? ⟨b, off + j * 2, none⟩ = some (.slice f.A f.n f.c) ∧ w.cell? ⟨b, off + j * 2 + 1, none⟩ = some (.int .i64 (f.sure : Int)) := by
  have hj : j < R.files.length := (List.getElem?_eq_some_iff.1 hf).1
  obtain ⟨b, off, e, _, hc⟩ := h.fr.sh.2 (by omega)
  obtain ⟨h0, h1⟩ := fcells_at hf
  exact ⟨b, off, e, hc _ _ h0, hc _ _ h1⟩

/-- What Read answers: the error; a file, if there is none. -/
def RS.read (R : RS) (s : ByteArray) : Option RFl × Int :=
  if R.dead = true then (none, 9) else if rfind R.now s < 0 then (none, 6) else (R.files[(rfind R.now s).toNat]?, 0)

set_option maxRecDepth 10000 in
set_option maxHeartbeats 800000 in
theorem rread_any (X : Nat → Prop) (x : Nat) (V : RL) (R : RS) (s : ByteArray) (w : World) (h : RAt w X x V R) (hn : R.now.length ≤ 900) (hp : ∀ q ∈ R.now, q.2 < R.files.length) :
    Calls Try.prog 12 #[.pointer (some ⟨x, 0, none⟩), .string s] w fun e w' =>
      (∃ A n c, e = .returned (.tuple #[.slice A n c, .int .i64 (R.read s).2]) ∧ match (R.read s).1 with | some f => A = f.A ∧ n = f.n ∧ c = f.c ∧ f ∈ R.files | none => n = 0) ∧ w = w' := by
  have c0 : w.cell? ⟨x, 0, none⟩ = some (.slice V.fA R.files.length V.fc) := h.cell 0
  have c1 : w.cell? ⟨x, 1, none⟩ = some (.slice V.nA R.now.length V.nc) := h.cell 1
  have c5 : w.cell? ⟨x, 5, none⟩ = some (.bool R.dead) := h.cell 5
  have HFI := Lib.hid (find_any (out X x) V.nA R.now.length V.nc R.now s w rfl (by omega) h.nr.sh)
  obtain ⟨r, hr⟩ : ∃ r, rfind R.now s = r := ⟨_, rfl⟩
  obtain ⟨d, hd⟩ : ∃ d, R.dead = d := ⟨_, rfl⟩
  rw [hr] at HFI
  rw [hd] at c5
  cases d
  · by_cases hneg : r < 0
    · have HR : Hid (R.read s = (none, 6)) := Lib.hid (by simp [RS.read, hd, hr, hneg])
      rw [HR.out]
      clear h hr hd
      go_enter Try.func12, Try.ntmps12
      go_wp2_with (first
        | (go_at_call 25; refine HFI.out.mono ?_; rintro e w' ⟨rfl, rfl⟩)
        | fail)
      go_ret2
      exact ⟨⟨none, 0, 0, rfl, rfl⟩, rfl⟩
    · obtain ⟨q, hq, e⟩ := rfind_mem (by rw [hr]; exact hneg)
      rw [hr] at e
      have hlt := hp q hq
      obtain ⟨f, hf⟩ : ∃ f, R.files[q.2]? = some f := ⟨_, List.getElem?_eq_getElem hlt⟩
      obtain ⟨b, off, hA, d0, d1⟩ := h.file hf
      rw [hA] at c0
      have HR : Hid (R.read s = (some f, 0)) := Lib.hid (by simp [RS.read, hd, hr, hneg, e, hf])
      have HM : Hid (f ∈ R.files) := Lib.hid (List.mem_of_getElem? hf)
      rw [HR.out]
      subst e
      obtain ⟨i, hi⟩ : ∃ i, i = q.2 := ⟨_, rfl⟩
      rw [← hi] at HFI d0 d1 hlt
      obtain ⟨nf, hnf⟩ : ∃ nf, nf = R.files.length := ⟨_, rfl⟩
      rw [← hnf] at c0 hlt
      clear h hr hd hf hneg hi hnf
      go_enter Try.func12, Try.ntmps12
      go_wp2_with (first
        | (go_at_call 25; refine HFI.out.mono ?_; rintro e w' ⟨rfl, rfl⟩)
        | fail)
      go_ret2
      exact ⟨⟨f.A, f.n, f.c, rfl, rfl, rfl, rfl, HM.out⟩, rfl⟩
  · have HR : Hid (R.read s = (none, 9)) := Lib.hid (by simp [RS.read, hd])
    rw [HR.out]
    clear h hr hd
    go_enter Try.func12, Try.ntmps12
    go_wp2
    go_ret2
    exact ⟨⟨none, 0, 0, rfl, rfl⟩, rfl⟩

/-- So many calls more. -/
def armed (z : Int) : Nat := if z < 1 ∨ 1099511627776 < z then 0 else z.toNat
theorem armed_le (z : Int) : armed z ≤ 1099511627776 := by unfold armed; split <;> omega
set_option maxRecDepth 10000 in
set_option maxHeartbeats 800000 in
theorem arm_any (z : Int) (w : World) : Calls Try.prog 35 #[.int .i64 z] w fun e w' => e = .returned (.int .i64 (armed z : Nat)) ∧ w = w' := by
  by_cases h1 : z < 1
  · have HR : Hid (armed z = 0) := Lib.hid (by unfold armed; rw [if_pos (.inl h1)])
    rw [HR.out]
    go_enter Try.func35, Try.ntmps35
    go_wp2
    go_ret
    exact ⟨rfl, rfl⟩
  · by_cases h2 : 1099511627776 < z
    · have HR : Hid (armed z = 0) := Lib.hid (by unfold armed; rw [if_pos (.inr h2)])
      rw [HR.out]
      go_enter Try.func35, Try.ntmps35
      go_wp2
      go_ret
      exact ⟨rfl, rfl⟩
    · have HR : Hid (((armed z : Nat) : Int) = z) := Lib.hid (by unfold armed; rw [if_neg (by omega)]; omega)
      rw [HR.out]
      go_enter Try.func35, Try.ntmps35
      go_wp2
      go_ret
      exact ⟨rfl, rfl⟩
end Go.Proofs.Ytekhockdgglndaa
