/-
  A CALL OF A DISK, AND THE SAME OF THE DOCUMENT'S, IN EITHER ORDER.
-/
import Derived.Test.YtfhbolhmfhgeaaaDZero3
import Derived.Test.YtfhbolhmfhgeaaaDInv
import Derived.Test.YtfhbolhmfhgeaaaDList
namespace Go.Proofs.Ytfhbolhmfhgeaaa
set_option linter.unusedVariables false
set_option linter.unusedSimpArgs false
open Go.RowKit Go.Maps

/-- A call was done: the disk is one of T's, X is kept. -/
def Did (X : Nat → Prop) (g : Nat) (w : World) (T : Nat → St) (e : Ending) (w' : World) : Prop := (∃ n : Int, e = .returned (.int .i64 n)) ∧ (∃ b L', DAt w' X g L' (T b)) ∧ Keeps X w w'
section
variable {w : World} {X : Nat → Prop} {g : Nat} {L : Lay} {S : St}
theorem Inv.dl' (I : Inv S) (hc : S.calls ≤ 1000) : ∀ f ∈ S.fs, f.data.length ≤ 1048576 := fun f hf => by
  have := I.dl f hf
  unfold most at this
  omega
theorem Inv.ul' (I : Inv S) (hc : S.calls ≤ 1000) : ∀ f ∈ S.fs, f.unsure ≤ 1048576 := fun f hf => by
  have := I.ul f hf
  unfold most at this
  omega
theorem did_of {F : FuncId} {args : Array Value} {T : St × Int} (h : Calls Try.prog F args w fun e w' => e = .returned (.int .i64 T.2) ∧ (∃ L', DAt w' X g L' T.1) ∧ Keeps X w w') : Calls Try.prog F args w (Did X g w fun _ => T.1) :=
  h.mono fun e w' ⟨h1, ⟨L', h2⟩, h3⟩ => ⟨⟨_, h1⟩, ⟨0, L', h2⟩, h3⟩
theorem did_create (h : DAt w X g L S) (I : Inv S) (hc : S.calls ≤ 1000) (s : ByteArray) (hs : s.size ≤ maxLen) :
    Calls Try.prog 20 #[ptrTo g, .string s] w (Did X g w fun b => (S.create s.data.toList b).1) :=
  (create_any h (by omega) s hs (by have := I.len; omega) (by have := I.wl; omega) (by have := I.fl; omega)).mono fun e w' ⟨b, _, _, h1, ⟨L', h2⟩, h3⟩ => ⟨⟨_, h1⟩, ⟨b, L', h2⟩, h3⟩
theorem did_append (h : DAt w X g L S) (I : Inv S) (hc : S.calls ≤ 1000) (s : ByteArray) (hs : s.size ≤ maxLen) (A : Option Addr) (n c : Nat) (xs : List Int) (hx : ShX w X A n (by8 xs)) (hn : n ≤ 500) :
    Calls Try.prog 21 #[ptrTo g, .string s, .slice A n c] w (Did X g w fun _ => (S.append s.data.toList xs).1) :=
  did_of (append_any h (by omega) s hs I.closed (by have := I.len; omega) (I.dl' hc) (I.ul' hc) I.cap A n c xs hx (by omega))
theorem did_sync (h : DAt w X g L S) (I : Inv S) (hc : S.calls ≤ 1000) (s : ByteArray) (hs : s.size ≤ maxLen) :
    Calls Try.prog 22 #[ptrTo g, .string s] w (Did X g w fun _ => (S.sync s.data.toList).1) := did_of (sync_any h (by omega) s hs I.closed)
theorem did_syncDir (h : DAt w X g L S) (I : Inv S) (hc : S.calls ≤ 1000) :
    Calls Try.prog 23 #[ptrTo g] w (Did X g w fun _ => S.syncDir.1) := did_of (syncDir_any h (by omega) I.closed (by have := I.len; omega) (by have := I.fl; omega) (I.ul' hc))
theorem did_rename (h : DAt w X g L S) (I : Inv S) (hc : S.calls ≤ 1000) (s r : ByteArray) (hs : s.size ≤ maxLen) (hr : r.size ≤ maxLen) :
    Calls Try.prog 29 #[ptrTo g, .string s, .string r] w (Did X g w fun _ => (S.rename s.data.toList r.data.toList).1) := did_of (rename_any h (by omega) s r hs hr (by have := I.len; omega) (by have := I.wl; omega))
theorem did_remove (h : DAt w X g L S) (I : Inv S) (hc : S.calls ≤ 1000) (s : ByteArray) (hs : s.size ≤ maxLen) :
    Calls Try.prog 30 #[ptrTo g, .string s] w (Did X g w fun _ => (S.remove s.data.toList).1) := did_of (remove_any h (by omega) s hs (by have := I.len; omega) (by have := I.wl; omega))
theorem boot_I (h : DAt w X g L S) (I : Inv S) (hc : S.calls ≤ 1000) (turns : Int) (B : Option Addr) (m c : Nat) (nums : List Int) (hx : ShX w X B m (by64 nums)) (hm : m ≤ 100) :
    Calls Try.prog 25 #[ptrTo g, .int .i64 turns, .slice B m c] w fun e w' => e = .returned (.int .i64 (S.boot turns nums).2) ∧ (∃ L', DAt w' X g L' (S.boot turns nums).1) ∧ Keeps X w w' := by
  by_cases hd : S.dead = true
  · exact boot_any h hd (by have := I.fl; omega) (by have := I.wl; omega) (I.ul' hc) (I.dl' hc) I.good I.sound turns B m c nums hx (by omega)
  · have hd : S.dead = false := by simpa using hd
    refine (boot_alive h hd turns _).mono ?_
    rintro e w' ⟨rfl, rfl⟩
    have hb : S.boot turns nums = (S, 1) := by unfold St.boot; rw [if_neg (by rw [hd]; simp)]
    rw [hb]
    exact ⟨rfl, ⟨L, h⟩, Keeps.refl X w⟩
theorem did_boot (h : DAt w X g L S) (I : Inv S) (hc : S.calls ≤ 1000) (turns : Int) (B : Option Addr) (m c : Nat) (nums : List Int) (hx : ShX w X B m (by64 nums)) (hm : m ≤ 100) :
    Calls Try.prog 25 #[ptrTo g, .int .i64 turns, .slice B m c] w (Did X g w fun _ => (S.boot turns nums).1) := did_of (boot_I h I hc turns B m c nums hx hm)
theorem shX_of {U : Nat} {A : Option Addr} {n : Nat} {xs : List Value} (h : Sh w U A n xs) (hX : ∀ k, k < U → X k) : ShX w X A n xs :=
  ⟨h.1, fun hn => by
    obtain ⟨b, off, e, hb, hc⟩ := h.2 hn
    exact ⟨b, off, e, hX b hb, hc⟩⟩
end

def Box (w' : World) (b : Nat) (vs : List Value) : Prop := ∀ j v, vs[j]? = some v → w'.cell? ⟨b, j, none⟩ = some v
/-- Where two calls stand: d, whether the disk's was done; z, whether the document's was. -/
structure Ph (U : Nat) (X : Nat → Prop) (g r b : Nat) (vs : List Value) (w : World) (S : St) (T : Nat → St) (d z : Bool) (W : World) : Prop where
  box : Box W b vs
  dat : if d = true then ∃ c L, DAt W X g L (T c) else ∃ L, DAt W X g L S
  rz : z = false → RZ W r
  low : Below U w W
  bX : X b
  rX : X r
  ne : b ≠ r
  rU : U ≤ r
  uX : ∀ k, k < U → X k
section
variable {U : Nat} {X : Nat → Prop} {g r b : Nat} {vs : List Value} {w : World} {S : St} {T : Nat → St}
theorem Ph.d {F : FuncId} {args : Array Value} {z : Bool} {W : World} (P : Ph U X g r b vs w S T false z W) (h : ∀ L, DAt W X g L S → Calls Try.prog F args W (Did X g W T)) :
    Calls Try.prog F args W fun e w' => (∃ n : Int, e = .returned (.int .i64 n)) ∧ Ph U X g r b vs w S T true z w' := by
  have h0 := P.dat
  rw [if_neg Bool.false_ne_true] at h0
  obtain ⟨L, hD⟩ := h0
  refine (h L hD).mono ?_
  rintro e w' ⟨h1, ⟨c, L', h2⟩, h3⟩
  refine ⟨h1, ⟨fun j v hv => ?_, ?_, fun hz => ?_, ?_, P.bX, P.rX, P.ne, P.rU, P.uX⟩⟩
  · exact (World.cell?_of_block (a := ⟨b, j, none⟩) (h3.block b P.bX)).trans (P.box j v hv)
  · rw [if_pos rfl]
    exact ⟨c, L', h2⟩
  · exact h3.blk (P.rz hz) P.rX
  · exact P.low.trans (h3.below P.uX)
theorem Ph.x {F : FuncId} {args : Array Value} {d : Bool} {W : World} (P : Ph U X g r b vs w S T d false W) (h : RZ W r → Calls Try.prog F args W fun e w' => (∃ n : Int, e = .returned (.int .i64 n)) ∧ W.grownBy w' (some r)) (hU : U ≤ w.heap.size) (hb : b < W.heap.size) :
    Calls Try.prog F args W fun e w' => (∃ n : Int, e = .returned (.int .i64 n)) ∧ Ph U X g r b vs w S T d true w' := by
  refine (h (P.rz rfl)).mono ?_
  rintro e w' ⟨h1, hg⟩
  refine ⟨h1, ⟨fun j v hv => ?_, ?_, (fun hz => nomatch hz), ?_, P.bX, P.rX, P.ne, P.rU, P.uX⟩⟩
  · exact (World.cell?_of_block (a := ⟨b, j, none⟩) (hg.block b hb (fun e => P.ne (by injection e)))).trans (P.box j v hv)
  · have h0 := P.dat
    have hr : ∀ j, some r = some j → X j := fun j e => by cases e; exact P.rX
    by_cases hd : d = true
    · rw [if_pos hd] at h0 ⊢
      obtain ⟨c, L, hD⟩ := h0
      exact ⟨c, L, hD.foreign hg hr⟩
    · rw [if_neg hd] at h0 ⊢
      obtain ⟨L, hD⟩ := h0
      exact ⟨L, hD.foreign hg hr⟩
  · have := P.low.size
    refine P.low.trans ⟨hg.os, hg.tape, hg.output, hg.size, fun k hk => hg.block k (by omega) (fun e => by injection e with e; have := P.rU; omega)⟩
theorem Ph.lt {d z : Bool} {W : World} (P : Ph U X g r b vs w S T d z W) (hv : 0 < vs.length) : b < W.heap.size := World.block_lt_of_cell? W ⟨b, 0, none⟩ (P.box 0 _ (List.getElem?_eq_getElem hv))
theorem Ph.drew {d z : Bool} {W : World} (P : Ph U X g r b vs w S T d z W) : Ph U X g r b vs w S T d z W.drew := by
  refine ⟨P.box, ?_, P.rz, P.low.drew, P.bX, P.rX, P.ne, P.rU, P.uX⟩
  have h0 := P.dat
  by_cases hd : d = true
  · rw [if_pos hd] at h0 ⊢
    obtain ⟨c, L, hD⟩ := h0
    exact ⟨c, L, hD.drewN 1⟩
  · rw [if_neg hd] at h0 ⊢
    obtain ⟨L, hD⟩ := h0
    exact ⟨L, hD.drewN 1⟩
end
end Go.Proofs.Ytfhbolhmfhgeaaa
