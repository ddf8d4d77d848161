/-
  THE DOCUMENT'S DISK: its state, and where it lies.
-/
import Derived.Test.YtekhockdgglndaaRDo
namespace Go.Proofs.Ytekhockdgglndaa
set_option linter.unusedVariables false
set_option linter.unusedSimpArgs false
open Go.RowKit

/-- A file: where its bytes lie, they, and how many are sure. -/
structure RFl where
  A : Option Addr
  n : Nat
  c : Nat
  data : List Int
  sure : Nat
def RFl.cells (f : RFl) : List Value := [.slice f.A f.n f.c, .int .i64 (f.sure : Int)]
def fcells (l : List RFl) : List Value := l.flatMap RFl.cells
def wcells (l : List RT) : List Value := l.flatMap RT.cells
structure RFl.ok (w : World) (X : Nat → Prop) (f : RFl) : Prop where
  sh : SX w X f.A f.n 1 (by8 f.data)
  le : f.n ≤ f.c
  cm : f.c ≤ maxLen
  by_ : ∀ y ∈ f.data, 0 ≤ y ∧ y < 256
structure RS where
  files : List RFl
  now : List RE
  sure : List RE
  waits : List RT
  cap : Int
  dead : Bool
  calls : Nat
  fuse : Nat
  fault : Nat
  e : Int
/-- Where the four rows lie. -/
structure RL where
  fA : Option Addr
  fc : Nat
  nA : Option Addr
  nc : Nat
  sA : Option Addr
  sc : Nat
  wA : Option Addr
  wc : Nat
def rcellsOf (V : RL) (R : RS) : List Value :=
  [.slice V.fA R.files.length V.fc, .slice V.nA R.now.length V.nc, .slice V.sA R.sure.length V.sc, .slice V.wA R.waits.length V.wc,
   .int .i64 R.cap, .bool R.dead, .int .i64 (R.calls : Int), .int .i64 (R.fuse : Int), .int .i64 (R.fault : Int), .int .i64 R.e]
/-- X but for x. -/
def out (X : Nat → Prop) (x : Nat) : Nat → Prop := fun b => X b ∧ b ≠ x
/-- A row: it lies there, and has its room. -/
structure RRow (w : World) (X : Nat → Prop) (A : Option Addr) (n c size : Nat) (xs : List Value) : Prop where
  sh : SX w X A n size xs
  le : n ≤ c
  cm : c ≤ maxLen
structure RAt (w : World) (X : Nat → Prop) (x : Nat) (V : RL) (R : RS) : Prop where
  xX : X x
  old : ∀ b, X b → b < w.heap.size
  blk : w.heap[x]? = some (.cells (rcellsOf V R).toArray 71 (0, 0))
  fr : RRow w (out X x) V.fA R.files.length V.fc 2 (fcells R.files)
  fo : ∀ f ∈ R.files, f.ok w (out X x)
  nr : RRow w (out X x) V.nA R.now.length V.nc 2 (recells R.now)
  sr : RRow w (out X x) V.sA R.sure.length V.sc 2 (recells R.sure)
  wr : RRow w (out X x) V.wA R.waits.length V.wc 3 (wcells R.waits)
section
variable {w w' : World} {X Y : Nat → Prop} {x : Nat} {V : RL} {R : RS}
theorem RRow.go {A : Option Addr} {n c size : Nat} {xs : List Value} (h : RRow w X A n c size xs) (hk : ∀ b, X b → w'.heap[b]? = w.heap[b]? ∧ Y b) : RRow w' Y A n c size xs :=
  ⟨(h.sh.stay fun b hb => (hk b hb).1).more fun b hb => (hk b hb).2, h.le, h.cm⟩
theorem RFl.ok.go {f : RFl} (h : f.ok w X) (hk : ∀ b, X b → w'.heap[b]? = w.heap[b]? ∧ Y b) : f.ok w' Y :=
  ⟨(h.sh.stay fun b hb => (hk b hb).1).more fun b hb => (hk b hb).2, h.le, h.cm, h.by_⟩
theorem RAt.lt (h : RAt w X x V R) : x < w.heap.size := h.old x h.xX
theorem RAt.cell (h : RAt w X x V R) (j : Nat) : w.cell? ⟨x, j, none⟩ = (rcellsOf V R)[j]? := by
  have := h.blk
  simp [World.cell?, this]
theorem RAt.nf (h : RAt w X x V R) (j : Nat) : w.frozen? ⟨x, j, none⟩ = false := by
  have := h.blk
  simp [World.frozen?, this]
/-- Others turned: the blocks of X stay. -/
theorem RAt.stay (h : RAt w X x V R) (hk : ∀ b, X b → w'.heap[b]? = w.heap[b]?) (hs : w.heap.size ≤ w'.heap.size) : RAt w' X x V R :=
  ⟨h.xX, fun b hb => Nat.lt_of_lt_of_le (h.old b hb) hs, (hk x h.xX).trans h.blk, h.fr.go fun b hb => ⟨hk b hb.1, hb⟩, fun f hf => (h.fo f hf).go fun b hb => ⟨hk b hb.1, hb⟩,
    h.nr.go fun b hb => ⟨hk b hb.1, hb⟩, h.sr.go fun b hb => ⟨hk b hb.1, hb⟩, h.wr.go fun b hb => ⟨hk b hb.1, hb⟩⟩
theorem RAt.more (h : RAt w X x V R) (hX : ∀ b, X b → Y b) (hY : ∀ b, Y b → b < w.heap.size) : RAt w Y x V R :=
  ⟨hX x h.xX, hY, h.blk, h.fr.go fun b hb => ⟨rfl, hX b hb.1, hb.2⟩, fun f hf => (h.fo f hf).go fun b hb => ⟨rfl, hX b hb.1, hb.2⟩,
    h.nr.go fun b hb => ⟨rfl, hX b hb.1, hb.2⟩, h.sr.go fun b hb => ⟨rfl, hX b hb.1, hb.2⟩, h.wr.go fun b hb => ⟨rfl, hX b hb.1, hb.2⟩⟩
theorem RAt.quiet (h : RAt w X x V R) (hq : Quiet w w') : RAt w' X x V R := by
  obtain ⟨q, rfl⟩ := hq
  exact h.stay (fun _ _ => rfl) (Nat.le_refl _)
theorem RAt.drew (h : RAt w X x V R) : RAt w.drew X x V R := h.stay (fun _ _ => rfl) (Nat.le_refl _)
theorem RAt.below (h : RAt w X x V R) (hb : Below w.heap.size w w') : RAt w' X x V R := h.stay (fun b hx => hb.block b (h.old b hx)) hb.size
/-- What is set leads nowhere else. -/
theorem RAt.set (h : RAt w X x V R) (j : Nat) (v : Value) {R' : RS} (hc : (rcellsOf V R).set j v = rcellsOf V R') (e1 : R'.files = R.files) (e2 : R'.now = R.now) (e3 : R'.sure = R.sure) (e4 : R'.waits = R.waits) : RAt (w.setCell ⟨x, j, none⟩ v) X x V R' := by
  have hk : ∀ b, out X x b → (w.setCell ⟨x, j, none⟩ v).heap[b]? = w.heap[b]? ∧ out X x b := fun b hb => ⟨Below.heap_setCell _ _ _ _ hb.2, hb⟩
  refine ⟨h.xX, fun b hb => by simpa using h.old b hb, ?_, by rw [e1]; exact h.fr.go hk, by rw [e1]; exact fun f hf => (h.fo f hf).go hk, by rw [e2]; exact h.nr.go hk, by rw [e3]; exact h.sr.go hk, by rw [e4]; exact h.wr.go hk⟩
  have := h.blk
  rw [← hc]
  simp [World.setCell, Array.getElem?_modify, this, List.setIfInBounds_toArray]
end

theorem grownx_refl (w : World) (x : Nat) : w.grownBy w (some x) := ⟨rfl, rfl, rfl, Nat.le_refl _, fun _ _ _ => rfl⟩
theorem grownx_set {w w' : World} {x : Nat} (h : w.grownBy w' (some x)) (j : Nat) (v : Value) : w.grownBy (w'.setCell ⟨x, j, none⟩ v) (some x) :=
  ⟨h.os, h.tape, h.output, by simpa using h.size, fun k hk hne => (Below.heap_setCell _ _ _ _ (fun e => hne (by rw [e]))).trans (h.block k hk hne)⟩
theorem grownx_trans {a b c : World} {x : Nat} (h : a.grownBy b (some x)) (k : b.grownBy c (some x)) : a.grownBy c (some x) :=
  ⟨k.os.trans h.os, k.tape.trans h.tape, k.output.trans h.output, Nat.le_trans h.size k.size, fun i hi hne => (k.block i (Nat.lt_of_lt_of_le hi h.size) hne).trans (h.block i hi hne)⟩
theorem grownx_below {a b c : World} {x : Nat} (h : a.grownBy b (some x)) (k : Below b.heap.size b c) : a.grownBy c (some x) :=
  grownx_trans h ⟨k.os, k.tape, k.output, k.size, fun i hi _ => k.block i hi⟩
/-- What begin answers, and what it leaves. -/
def RS.begun (R : RS) : Int × RS :=
  if R.dead = true then (9, R)
  else if R.fuse = 1 then (9, { R with calls := R.calls + 1, fuse := R.fuse - 1, fault := R.fault - 1, dead := true })
  else if R.fault = 1 then (R.e, { R with calls := R.calls + 1, fuse := R.fuse - 1, fault := R.fault - 1 })
  else (0, { R with calls := R.calls + 1, fuse := R.fuse - 1, fault := R.fault - 1 })

set_option maxRecDepth 10000 in
set_option maxHeartbeats 1600000 in
theorem rbegin_any (X : Nat → Prop) (x : Nat) (V : RL) (R : RS) (w : World) (h : RAt w X x V R) (hc : R.calls ≤ 1000000) (hf : R.fuse ≤ 1099511627776) (hg : R.fault ≤ 1099511627776) :
    Calls Try.prog 56 #[.pointer (some ⟨x, 0, none⟩)] w fun e w' => e = .returned (.int .i64 R.begun.1) ∧ RAt w' X x V R.begun.2 ∧ w.grownBy w' (some x) := by
  have c5 : w.cell? ⟨x, 5, none⟩ = some (.bool R.dead) := h.cell 5
  have c6 : w.cell? ⟨x, 6, none⟩ = some (.int .i64 (R.calls : Int)) := h.cell 6
  have c7 : w.cell? ⟨x, 7, none⟩ = some (.int .i64 (R.fuse : Int)) := h.cell 7
  have c8 : w.cell? ⟨x, 8, none⟩ = some (.int .i64 (R.fault : Int)) := h.cell 8
  have c9 : w.cell? ⟨x, 9, none⟩ = some (.int .i64 R.e) := h.cell 9
  have hnf := h.nf
  have H := Lib.hid h
  clear h
  obtain ⟨files, now, sure, waits, cap, dead, calls, fuse, fault, e⟩ := R
  simp only at c5 c6 c7 c8 c9 hc hf hg
  cases dead
  · rcases Nat.lt_trichotomy fuse 1 with h1 | h1 | h1 <;> rcases Nat.lt_trichotomy fault 1 with h2 | h2 | h2
    · obtain rfl : fuse = 0 := by omega
      obtain rfl : fault = 0 := by omega
      go_enter Try.func56, Try.ntmps56
      go_wp2
      go_ret
      refine ⟨by simp [RS.begun], ?_, (grownx_set (grownx_refl w x) 6 _)⟩
      have hb : RS.begun ⟨files, now, sure, waits, cap, false, calls, 0, 0, e⟩ = (0, ⟨files, now, sure, waits, cap, false, calls + 1, 0 - 1, 0 - 1, e⟩) := by simp [RS.begun]
      rw [hb]
      exact (RAt.set H.out 6 _ (R' := ⟨files, now, sure, waits, cap, false, calls + 1, 0, 0, e⟩) (by simp [rcellsOf]) rfl rfl rfl rfl)
    · obtain rfl : fuse = 0 := by omega
      obtain rfl : fault = 1 := h2
      go_enter Try.func56, Try.ntmps56
      go_wp2
      go_ret
      refine ⟨by simp [RS.begun], ?_, (grownx_set (grownx_set (grownx_refl w x) 6 _) 8 _)⟩
      have hb : RS.begun ⟨files, now, sure, waits, cap, false, calls, 0, 1, e⟩ = (e, ⟨files, now, sure, waits, cap, false, calls + 1, 0 - 1, 1 - 1, e⟩) := by simp [RS.begun]
      rw [hb]
      exact (RAt.set (RAt.set H.out 6 _ (R' := ⟨files, now, sure, waits, cap, false, calls + 1, 0, 1, e⟩) (by simp [rcellsOf]) rfl rfl rfl rfl) 8 _ (R' := ⟨files, now, sure, waits, cap, false, calls + 1, 0, 1 - 1, e⟩) (by simp [rcellsOf]) rfl rfl rfl rfl)
    · obtain rfl : fuse = 0 := by omega
      have hn2 : ((fault : Int) == 1) = false := by simp; omega
      go_enter Try.func56, Try.ntmps56
      go_wp2
      go_ret
      refine ⟨by simp [RS.begun, show fault ≠ 1 by omega], ?_, (grownx_set (grownx_set (grownx_refl w x) 6 _) 8 _)⟩
      have hb : RS.begun ⟨files, now, sure, waits, cap, false, calls, 0, fault, e⟩ = (0, ⟨files, now, sure, waits, cap, false, calls + 1, 0 - 1, fault - 1, e⟩) := by simp [RS.begun, show fault ≠ 1 by omega]
      rw [hb]
      exact (RAt.set (RAt.set H.out 6 _ (R' := ⟨files, now, sure, waits, cap, false, calls + 1, 0, fault, e⟩) (by simp [rcellsOf]) rfl rfl rfl rfl) 8 _ (R' := ⟨files, now, sure, waits, cap, false, calls + 1, 0, fault - 1, e⟩) (by simp [rcellsOf]; omega) rfl rfl rfl rfl)
    · obtain rfl : fuse = 1 := h1
      obtain rfl : fault = 0 := by omega
      go_enter Try.func56, Try.ntmps56
      go_wp2
      go_ret
      refine ⟨by simp [RS.begun], ?_, (grownx_set (grownx_set (grownx_set (grownx_refl w x) 6 _) 7 _) 5 _)⟩
      have hb : RS.begun ⟨files, now, sure, waits, cap, false, calls, 1, 0, e⟩ = (9, ⟨files, now, sure, waits, cap, true, calls + 1, 1 - 1, 0 - 1, e⟩) := by simp [RS.begun]
      rw [hb]
      exact (RAt.set (RAt.set (RAt.set H.out 6 _ (R' := ⟨files, now, sure, waits, cap, false, calls + 1, 1, 0, e⟩) (by simp [rcellsOf]) rfl rfl rfl rfl) 7 _ (R' := ⟨files, now, sure, waits, cap, false, calls + 1, 1 - 1, 0, e⟩) (by simp [rcellsOf]) rfl rfl rfl rfl) 5 _ (R' := ⟨files, now, sure, waits, cap, true, calls + 1, 1 - 1, 0, e⟩) (by simp [rcellsOf]) rfl rfl rfl rfl)
    · obtain rfl : fuse = 1 := h1
      obtain rfl : fault = 1 := h2
      go_enter Try.func56, Try.ntmps56
      go_wp2
      go_ret
      refine ⟨by simp [RS.begun], ?_, (grownx_set (grownx_set (grownx_set (grownx_set (grownx_refl w x) 6 _) 7 _) 8 _) 5 _)⟩
      have hb : RS.begun ⟨files, now, sure, waits, cap, false, calls, 1, 1, e⟩ = (9, ⟨files, now, sure, waits, cap, true, calls + 1, 1 - 1, 1 - 1, e⟩) := by simp [RS.begun]
      rw [hb]
      exact (RAt.set (RAt.set (RAt.set (RAt.set H.out 6 _ (R' := ⟨files, now, sure, waits, cap, false, calls + 1, 1, 1, e⟩) (by simp [rcellsOf]) rfl rfl rfl rfl) 7 _ (R' := ⟨files, now, sure, waits, cap, false, calls + 1, 1 - 1, 1, e⟩) (by simp [rcellsOf]) rfl rfl rfl rfl) 8 _ (R' := ⟨files, now, sure, waits, cap, false, calls + 1, 1 - 1, 1 - 1, e⟩) (by simp [rcellsOf]) rfl rfl rfl rfl) 5 _ (R' := ⟨files, now, sure, waits, cap, true, calls + 1, 1 - 1, 1 - 1, e⟩) (by simp [rcellsOf]) rfl rfl rfl rfl)
    · obtain rfl : fuse = 1 := h1
      have hn2 : ((fault : Int) == 1) = false := by simp; omega
      go_enter Try.func56, Try.ntmps56
      go_wp2
      go_ret
      refine ⟨by simp [RS.begun, show fault ≠ 1 by omega], ?_, (grownx_set (grownx_set (grownx_set (grownx_set (grownx_refl w x) 6 _) 7 _) 8 _) 5 _)⟩
      have hb : RS.begun ⟨files, now, sure, waits, cap, false, calls, 1, fault, e⟩ = (9, ⟨files, now, sure, waits, cap, true, calls + 1, 1 - 1, fault - 1, e⟩) := by simp [RS.begun, show fault ≠ 1 by omega]
      rw [hb]
      exact (RAt.set (RAt.set (RAt.set (RAt.set H.out 6 _ (R' := ⟨files, now, sure, waits, cap, false, calls + 1, 1, fault, e⟩) (by simp [rcellsOf]) rfl rfl rfl rfl) 7 _ (R' := ⟨files, now, sure, waits, cap, false, calls + 1, 1 - 1, fault, e⟩) (by simp [rcellsOf]) rfl rfl rfl rfl) 8 _ (R' := ⟨files, now, sure, waits, cap, false, calls + 1, 1 - 1, fault - 1, e⟩) (by simp [rcellsOf]; omega) rfl rfl rfl rfl) 5 _ (R' := ⟨files, now, sure, waits, cap, true, calls + 1, 1 - 1, fault - 1, e⟩) (by simp [rcellsOf]) rfl rfl rfl rfl)
    · have hn1 : ((fuse : Int) == 1) = false := by simp; omega
      obtain rfl : fault = 0 := by omega
      go_enter Try.func56, Try.ntmps56
      go_wp2
      go_ret
      refine ⟨by simp [RS.begun, show fuse ≠ 1 by omega], ?_, (grownx_set (grownx_set (grownx_refl w x) 6 _) 7 _)⟩
      have hb : RS.begun ⟨files, now, sure, waits, cap, false, calls, fuse, 0, e⟩ = (0, ⟨files, now, sure, waits, cap, false, calls + 1, fuse - 1, 0 - 1, e⟩) := by simp [RS.begun, show fuse ≠ 1 by omega]
      rw [hb]
      exact (RAt.set (RAt.set H.out 6 _ (R' := ⟨files, now, sure, waits, cap, false, calls + 1, fuse, 0, e⟩) (by simp [rcellsOf]) rfl rfl rfl rfl) 7 _ (R' := ⟨files, now, sure, waits, cap, false, calls + 1, fuse - 1, 0, e⟩) (by simp [rcellsOf]; omega) rfl rfl rfl rfl)
    · have hn1 : ((fuse : Int) == 1) = false := by simp; omega
      obtain rfl : fault = 1 := h2
      go_enter Try.func56, Try.ntmps56
      go_wp2
      go_ret
      refine ⟨by simp [RS.begun, show fuse ≠ 1 by omega], ?_, (grownx_set (grownx_set (grownx_set (grownx_refl w x) 6 _) 7 _) 8 _)⟩
      have hb : RS.begun ⟨files, now, sure, waits, cap, false, calls, fuse, 1, e⟩ = (e, ⟨files, now, sure, waits, cap, false, calls + 1, fuse - 1, 1 - 1, e⟩) := by simp [RS.begun, show fuse ≠ 1 by omega]
      rw [hb]
      exact (RAt.set (RAt.set (RAt.set H.out 6 _ (R' := ⟨files, now, sure, waits, cap, false, calls + 1, fuse, 1, e⟩) (by simp [rcellsOf]) rfl rfl rfl rfl) 7 _ (R' := ⟨files, now, sure, waits, cap, false, calls + 1, fuse - 1, 1, e⟩) (by simp [rcellsOf]; omega) rfl rfl rfl rfl) 8 _ (R' := ⟨files, now, sure, waits, cap, false, calls + 1, fuse - 1, 1 - 1, e⟩) (by simp [rcellsOf]) rfl rfl rfl rfl)
    · have hn1 : ((fuse : Int) == 1) = false := by simp; omega
      have hn2 : ((fault : Int) == 1) = false := by simp; omega
      go_enter Try.func56, Try.ntmps56
      go_wp2
      go_ret
      refine ⟨by simp [RS.begun, show fuse ≠ 1 by omega, show fault ≠ 1 by omega], ?_, (grownx_set (grownx_set (grownx_set (grownx_refl w x) 6 _) 7 _) 8 _)⟩
      have hb : RS.begun ⟨files, now, sure, waits, cap, false, calls, fuse, fault, e⟩ = (0, ⟨files, now, sure, waits, cap, false, calls + 1, fuse - 1, fault - 1, e⟩) := by simp [RS.begun, show fuse ≠ 1 by omega, show fault ≠ 1 by omega]
      rw [hb]
      exact (RAt.set (RAt.set (RAt.set H.out 6 _ (R' := ⟨files, now, sure, waits, cap, false, calls + 1, fuse, fault, e⟩) (by simp [rcellsOf]) rfl rfl rfl rfl) 7 _ (R' := ⟨files, now, sure, waits, cap, false, calls + 1, fuse - 1, fault, e⟩) (by simp [rcellsOf]; omega) rfl rfl rfl rfl) 8 _ (R' := ⟨files, now, sure, waits, cap, false, calls + 1, fuse - 1, fault - 1, e⟩) (by simp [rcellsOf]; omega) rfl rfl rfl rfl)
  · go_enter Try.func56, Try.ntmps56
    go_wp2
    go_ret
    exact ⟨rfl, H.out, ⟨rfl, rfl, rfl, Nat.le_refl _, fun _ _ _ => rfl⟩⟩
end Go.Proofs.Ytekhockdgglndaa
