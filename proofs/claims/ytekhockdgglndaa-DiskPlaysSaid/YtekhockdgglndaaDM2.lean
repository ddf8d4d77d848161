/-
  CONTRACTS OF Sync, Remove, Rename.
  CONTRACT OF Rename.
  CONTRACTS OF Used, Read and slices.Clone.
  CONTRACTS OF slices.Clone and Read.
  CONTRACT OF Append.
  CONTRACT OF Create.
  CONTRACT OF Create: the walks.
-/
import Derived.Test.YtekhockdgglndaaDM1
import Derived.Test.YtekhockdgglndaaDName
import Derived.BigQuiet
import Derived.Deep.QuietTactic
import Derived.Test.YtekhockdgglndaaClone
import Derived.Lib.SliceRun
import Derived.Deep.RegionHeld3
import Derived.Deep.RegionLaw
import Derived.BigRegion
namespace Go.Proofs.Ytekhockdgglndaa
set_option linter.unusedVariables false
set_option linter.unusedSimpArgs false
open Go.RowKit Go.Maps

/-- The file at block b is another one. -/
def updF (b : Nat) (u : Fl → Fl) (fs : List Fl) : List Fl := fs.map fun f => if f.blk = b then u f else f
theorem set_upd {fs : List Fl} {L : Lay} (h : fs.Pairwise (Apart L)) {i : Nat} {f : Fl} (hi : fs[i]? = some f) (u : Fl → Fl) : fs.set i (u f) = updF f.blk u fs := by
  obtain ⟨hi1, hi2⟩ := List.getElem?_eq_some_iff.1 hi
  rw [List.pairwise_iff_getElem] at h
  refine List.ext_getElem? fun j => ?_
  unfold updF
  rw [List.getElem?_map]
  by_cases e : i = j
  · subst e
    rw [List.getElem?_set_self hi1, hi]
    simp
  · rw [List.getElem?_set_ne e]
    cases hj : fs[j]? with
    | none => rfl
    | some f2 =>
      obtain ⟨hj1, hj2⟩ := List.getElem?_eq_some_iff.1 hj
      have : f2.blk ≠ f.blk := by
        rcases Nat.lt_or_gt_of_ne e with hlt | hgt
        · have := (h i j hi1 hj1 hlt).1
          rw [hi2, hj2] at this
          exact this.symm
        · have := (h j i hj1 hi1 hgt).1
          rwa [hi2, hj2] at this
      simp [this]
/-- Each name is a file's. -/
def Closed (N : NL) (fs : List Fl) : Prop := ∀ p ∈ N, ∃ f ∈ fs, f.blk = p.2
theorem Closed.at {N : NL} {fs : List Fl} (h : Closed N fs) {k : Nm} {b : Nat} (hk : nat? k N = some b) : ∃ (i : Nat) (f : Fl), fs[i]? = some f ∧ f.blk = b := by
  obtain ⟨f, hf, e⟩ := h _ (nat?_some hk)
  obtain ⟨i, hi⟩ := List.getElem?_of_mem hf
  exact ⟨i, f, hi, e⟩
section
variable {w : World} {X : Nat → Prop} {g : Nat} {L : Lay} {S : St}
theorem St.begun_names (S : St) : S.begun.names = S.names := by unfold St.begun; (repeat' split) <;> rfl
theorem St.begun_sure (S : St) : S.begun.sure = S.sure := by unfold St.begun; (repeat' split) <;> rfl
theorem St.begun_waits (S : St) : S.begun.waits = S.waits := by unfold St.begun; (repeat' split) <;> rfl
theorem St.begun_fs (S : St) : S.begun.fs = S.fs := by unfold St.begun; (repeat' split) <;> rfl
theorem St.begun_cap (S : St) : S.begun.cap = S.cap := by unfold St.begun; (repeat' split) <;> rfl

def St.sync (S : St) (k : Nm) : St × Int :=
  if S.berr ≠ 0 then (S.begun, S.berr) else match nat? k S.names with
  | none => (S.begun, 6)
  | some b => ({ S.begun with fs := updF b (fun f => { f with unsure := 0 }) S.fs }, 0)

set_option maxHeartbeats 800000 in
theorem sync_any (h : DAt w X g L S) (hc : S.calls ≤ 1000000) (s : ByteArray) (hs : s.size ≤ maxLen) (hcl : Closed S.names S.fs) :
    Calls Try.prog 18 #[ptrTo g, .string s] w fun e w' => e = .returned (.int .i64 (S.sync s.data.toList).2) ∧ (∃ L', DAt w' X g L' (S.sync s.data.toList).1) ∧ Keeps X w w' := by
  have HB := Lib.hid (begin_any h hc)
  clear h
  by_cases hb : S.berr = 0
  · rw [hb] at HB
    have hbx : ¬ S.berr ≠ 0 := by omega
    cases hk : nat? s.data.toList S.names with
    | none =>
      have HS := Lib.hid (show S.sync s.data.toList = (S.begun, 6) by unfold St.sync; rw [if_neg hbx, hk])
      have HN := Lib.hid (show ptrOf (nat? s.data.toList S.begun.names) = .pointer none by rw [S.begun_names, hk]; rfl)
      clear hb hbx hk hcl
      unfold ptrTo at *
      go_enter Try.func18, Try.ntmps18
      go_wp2_with (first
        | (go_at_call 45; refine HB.out.mono ?_; rintro e w1 ⟨rfl, D1, K1⟩; have c2 := D1.c2; have hnm := D1.nm; have D1 := Lib.hid D1; have K1 := Lib.hid K1)
        | (at_lookup; refine wpList_look _ rfl _ _ rfl rfl hnm rfl hs ?_; rw [HN.out])
        | go_in)
      go_ret
      exact ⟨ret_int64 (by rw [HS.out]), ⟨L, by rw [HS.out]; exact D1.out⟩, K1.out⟩
    | some b =>
      obtain ⟨i, f, hi, hfb⟩ := hcl.at hk
      have HS := Lib.hid (show S.sync s.data.toList = ({ S.begun with fs := updF b (fun f => { f with unsure := 0 }) S.fs }, 0) by unfold St.sync; rw [if_neg hbx, hk])
      have HN := Lib.hid (show ptrOf (nat? s.data.toList S.begun.names) = .pointer (some ⟨b, 0, none⟩) by rw [S.begun_names, hk]; rfl)
      have HI := Lib.hid (show S.begun.fs[i]? = some f by rw [S.begun_fs]; exact hi)
      have HF := Lib.hid hfb
      clear hb hbx hk hcl hi hfb
      unfold ptrTo at *
      go_enter Try.func18, Try.ntmps18
      go_wp2_with (first
        | (go_at_call 45; refine HB.out.mono ?_; rintro e w1 ⟨rfl, D1, K1⟩; have c2 := D1.c2; have hnm := D1.nm; have hfo := D1.fo f (List.mem_of_getElem? HI.out); have f1 := hfo.c1; have hfa := hfo.blk; clear hfo; rw [HF.out] at hfa f1; have fz := hfa.nf 1; have D1 := Lib.hid D1; have K1 := Lib.hid K1; have HFA := Lib.hid hfa; clear hfa)
        | (at_lookup; refine wpList_look _ rfl _ _ rfl rfl hnm rfl hs ?_; rw [HN.out])
        | go_in)
      go_ret
      refine ⟨ret_int64 (by rw [HS.out]), ⟨L.up b (L.row b), ?_⟩, ?_⟩
      · rw [HS.out]
        have hr := (D1.out.fo f (List.mem_of_getElem? HI.out)).row
        have := D1.out.file (w' := w1.setCell ⟨b, 1, none⟩ (.int .i64 0)) HI.out (f' := { f with unsure := 0 }) rfl (v := L.row f.blk) (by simp) (fun k _ hk _ => Below.heap_setCell _ _ _ _ (by rw [← HF.out]; exact hk))
          (by rw [HF.out]; have := HFA.out.set 1 (.int .i64 0); exact this) (hr.stay fun j hj => Below.heap_setCell _ _ _ _ (fun e => hr.ne_blk HFA.out (by decide) (by rw [hj]; simp at e; rw [e]))) (fun j hj => .inl hj)
        rw [set_upd D1.out.nd HI.out (fun f => { f with unsure := 0 }), HF.out, S.begun_fs] at this
        exact this
      · exact K1.out.grown (grown_set w1 b 1 _) D1.out.old (fun k hk => by cases hk; have := (D1.out.fo f (List.mem_of_getElem? HI.out)).out; rwa [HF.out] at this)
  · have hb1 : (S.berr != 0) = true := by simpa using hb
    have HS := Lib.hid (show S.sync s.data.toList = (S.begun, S.berr) by unfold St.sync; rw [if_pos hb])
    obtain ⟨y, hy⟩ : ∃ y, y = S.berr := ⟨_, rfl⟩
    rw [← hy] at hb1 HB HS
    clear hb hy
    unfold ptrTo at *
    go_enter Try.func18, Try.ntmps18
    go_wp2_with (first
      | (go_at_call 45; refine HB.out.mono ?_; rintro e w1 ⟨rfl, D1, K1⟩; have D1 := Lib.hid D1; have K1 := Lib.hid K1)
      | go_in)
    go_ret
    exact ⟨ret_int64 (by rw [HS.out]), ⟨L, by rw [HS.out]; exact D1.out⟩, K1.out⟩

def St.remove (S : St) (k : Nm) : St × Int :=
  if S.berr ≠ 0 then (S.begun, S.berr) else match nat? k S.names with
  | none => (S.begun, 6)
  | some _ => (S.begun.turned (.remove k), 0)
def St.rename (S : St) (k m : Nm) : St × Int :=
  if S.berr ≠ 0 then (S.begun, S.berr) else match nat? k S.names with
  | none => (S.begun, 6)
  | some _ => if nameB m = true then (S.begun.turned (.rename k m), 0) else (S.begun, 1)

/-- A new block is set apart. -/
def With (X : Nat → Prop) (w w' : World) (b : Nat) : Prop := X b ∨ (w.heap.size ≤ b ∧ b < w'.heap.size)
theorem DAt.box (h : DAt w X g L S) (o : Obj) : DAt (w.alloc o) (With X w (w.alloc o)) g L S := h.wider (World.grownBy_alloc w o none) (fun j e => by cases e)
theorem Keeps.blk {Y : Nat → Prop} {a c : World} (h : Keeps Y a c) {b : Nat} {t : TypeId} {xs : List Value} (hb : Blk a b t xs) (hY : Y b) : Blk c b t xs := hb.stay (h.block b hY)
theorem Keeps.unbox {X : Nat → Prop} {w c : World} {o : Obj} (h : Keeps (With X w (w.alloc o)) (w.alloc o) c) (hX : ∀ b, X b → b < w.heap.size) : Keeps X w c :=
  ⟨h.os, h.tape, h.output, Nat.le_trans (by simp) h.size, fun k hk => (h.block k (.inl hk)).trans (Below.heap_alloc w o k (hX k hk))⟩

theorem looks {w1 : World} {b : Nat} {N : NL} (h : NamesAt w1 b N) {s : ByteArray} (hs : s.size ≤ maxLen) {v : Value} (hv : ptrOf (nat? s.data.toList N) = v) : ∀ q, (Instr.lookup 52 (.map (some b)) (.string s) false).run Try.prog (w1.drewN q) = .ok v (w1.drewN q) := fun q => by
  have h' : NamesAt (w1.drewN q) b N := h
  rw [h'.look hs, hv]

set_option maxRecDepth 10000 in
set_option maxHeartbeats 1600000 in
theorem remove_any (h : DAt w X g L S) (hc : S.calls ≤ 100000) (s : ByteArray) (hs : s.size ≤ maxLen) (hn : S.names.length ≤ 1000) (hw : S.waits.length ≤ 100000) :
    Calls Try.prog 20 #[ptrTo g, .string s] w fun e w' => e = .returned (.int .i64 (S.remove s.data.toList).2) ∧ (∃ L', DAt w' X g L' (S.remove s.data.toList).1) ∧ Keeps X w w' := by
  have hmf : ∀ (fn : Fn) (first cap : Array Value) (w : World), (Instr.makeFunc fn first cap).run Try.prog w = .ok (.func fn first cap) w := fun _ _ _ _ => rfl
  have HB := Lib.hid (begin_any (h.box (.cells #[.string s] 9)) (by omega))
  have HO := Lib.hid h.old
  have hnew : Blk (w.alloc (.cells #[.string s] 9)) w.heap.size 9 [.string s] := Blk.new w _ _
  have hin : With X w (w.alloc (.cells #[.string s] 9)) w.heap.size := .inr ⟨Nat.le_refl _, by simp⟩
  have HP := Lib.hid (fun w1 (K : Keeps (With X w (w.alloc (.cells #[.string s] 9))) (w.alloc (.cells #[.string s] 9)) w1) => K.blk hnew hin)
  have hnX : ¬ X w.heap.size := fun hx => by have := h.old _ hx; omega
  have HX := Lib.hid hnX
  clear h hnew hin hnX
  by_cases hb : S.berr = 0
  · rw [hb] at HB
    have hbx : ¬ S.berr ≠ 0 := by omega
    cases hk : nat? s.data.toList S.names with
    | none =>
      have HS := Lib.hid (show S.remove s.data.toList = (S.begun, 6) by unfold St.remove; rw [if_neg hbx, hk])
      have HN := Lib.hid (show ptrOf (nat? s.data.toList S.begun.names) = .pointer none by rw [S.begun_names, hk]; rfl)
      clear hb hbx hk
      unfold ptrTo at *
      go_enter Try.func20, Try.ntmps20
      go_wp2_with (first
        | (go_at_call 45; refine HB.out.mono ?_; rintro e w1 ⟨rfl, D1, K1⟩; have c2 := D1.c2; have cb := (HP.out w1 K1).cell 0; have hl := looks D1.nm hs HN.out; have D1 := Lib.hid D1; have K1 := Lib.hid K1)
        | go_in)
      go_quiet (fail)
      go_wp2
      go_ret
      exact ⟨ret_int64 (by rw [HS.out]), ⟨L, by rw [HS.out]; exact (D1.out.drewN _).fewer (fun b hb => .inl hb)⟩, (K1.out.unbox HO.out).quiet ⟨_, rfl⟩⟩
    | some b =>
      have HS := Lib.hid (show S.remove s.data.toList = (S.begun.turned (.remove s.data.toList), 0) by unfold St.remove; rw [if_neg hbx, hk])
      have HN := Lib.hid (show ptrOf (nat? s.data.toList S.begun.names) = .pointer (some ⟨b, 0, none⟩) by rw [S.begun_names, hk]; rfl)
      have hn' : S.begun.names.length ≤ 1000000 := by rw [S.begun_names]; omega
      have hw' : S.begun.waits.length ≤ 1000000 := by rw [S.begun_waits]; omega
      have HD := Lib.hid (fun w1 (D1 : DAt w1 (With X w (w.alloc (.cells #[.string s] 9))) g L S.begun) (K1 : Keeps (With X w (w.alloc (.cells #[.string s] 9))) (w.alloc (.cells #[.string s] 9)) w1) q =>
        do_any ((D1.drewN q).fewer (fun b hb => .inl hb)) (v := .func (.func 49) #[] #[ptrTo w.heap.size]) (t := .remove s.data.toList) ⟨w.heap.size, s, rfl, ⟨(HP.out w1 K1).drewN q, HX.out⟩, rfl, hs⟩ trivial hn' hw')
      clear hb hbx hk hn' hw'
      unfold ptrTo at *
      go_enter Try.func20, Try.ntmps20
      go_wp2_with (first
        | (go_at_call 45; refine HB.out.mono ?_; rintro e w1 ⟨rfl, D1, K1⟩; have c2 := D1.c2; have cb := (HP.out w1 K1).cell 0; have hl := looks D1.nm hs HN.out; have D1 := Lib.hid D1; have K1 := Lib.hid K1)
        | go_in)
      go_quiet (fail)
      go_wp2_with (first
        | (go_at_call 46; refine (HD.out w1 D1.out K1.out _).mono ?_; rintro e w2 ⟨rfl, D2, K2⟩; have D2 := Lib.hid D2; have K2 := Lib.hid K2)
        | go_in)
      go_ret
      exact ⟨ret_int64 (by rw [HS.out]), by rw [HS.out]; exact D2.out, ((K1.out.unbox HO.out).quiet ⟨_, rfl⟩).trans K2.out⟩
  · have hb1 : (S.berr != 0) = true := by simpa using hb
    have HS := Lib.hid (show S.remove s.data.toList = (S.begun, S.berr) by unfold St.remove; rw [if_pos hb])
    obtain ⟨y, hy⟩ : ∃ y, y = S.berr := ⟨_, rfl⟩
    rw [← hy] at hb1 HB HS
    clear hb hy
    unfold ptrTo at *
    go_enter Try.func20, Try.ntmps20
    go_wp2_with (first
      | (go_at_call 45; refine HB.out.mono ?_; rintro e w1 ⟨rfl, D1, K1⟩; have D1 := Lib.hid D1; have K1 := Lib.hid K1)
      | go_in)
    go_ret
    exact ⟨ret_int64 (by rw [HS.out]), ⟨L, by rw [HS.out]; exact D1.out.fewer (fun b hb => .inl hb)⟩, K1.out.unbox HO.out⟩
end
end Go.Proofs.Ytekhockdgglndaa
namespace Go.Proofs.Ytekhockdgglndaa
set_option linter.unusedVariables false
set_option linter.unusedSimpArgs false
open Go.RowKit Go.Maps

section
variable {w : World} {X : Nat → Prop} {g : Nat} {L : Lay} {S : St}
theorem Keeps.unwide {X : Nat → Prop} {w c d : World} (h : Keeps (With X w d) d c) (hb : Below w.heap.size w d) (hX : ∀ b, X b → b < w.heap.size) : Keeps X w c :=
  ⟨h.os.trans hb.os, h.tape.trans hb.tape, h.output.trans hb.output, Nat.le_trans hb.size h.size, fun k hk => (h.block k (.inl hk)).trans (hb.block k (hX k hk))⟩
theorem DAt.wide {d : World} (h : DAt w X g L S) (hb : Below w.heap.size w d) : DAt d (With X w d) g L S := h.wider (grown_of_below hb none) (fun j e => by cases e)

set_option maxRecDepth 10000 in
set_option maxHeartbeats 1600000 in
theorem rename_any (h : DAt w X g L S) (hc : S.calls ≤ 100000) (s r : ByteArray) (hs : s.size ≤ maxLen) (hr : r.size ≤ maxLen) (hn : S.names.length ≤ 1000) (hw : S.waits.length ≤ 100000) :
    Calls Try.prog 32 #[ptrTo g, .string s, .string r] w fun e w' => e = .returned (.int .i64 (S.rename s.data.toList r.data.toList).2) ∧ (∃ L', DAt w' X g L' (S.rename s.data.toList r.data.toList).1) ∧ Keeps X w w' := by
  have hmf : ∀ (fn : Fn) (first cap : Array Value) (w : World), (Instr.makeFunc fn first cap).run Try.prog w = .ok (.func fn first cap) w := fun _ _ _ _ => rfl
  obtain ⟨d, hd⟩ : ∃ d, d = (w.alloc (.cells #[.string s] 9)).alloc (.cells #[.string r] 9) := ⟨_, rfl⟩
  have hbd : Below w.heap.size w d := by
    rw [hd]
    exact ((Below.refl _ w).alloc (Nat.le_refl _) _).alloc (by simp) _
  have hb1 : Blk d w.heap.size 9 [.string s] := by
    rw [hd]
    exact (Blk.new w _ _).keep (World.grownBy_alloc _ _ none) (by simp)
  have hb2 : Blk d (w.heap.size + 1) 9 [.string r] := by
    rw [hd]
    have := Blk.new (w.alloc (.cells #[.string s] 9)) 9 [.string r]
    simpa using this
  have hds : d.heap.size = w.heap.size + 2 := by rw [hd]; simp
  have HB := Lib.hid (begin_any (h.wide hbd) (by omega))
  have HO := Lib.hid h.old
  have HBD := Lib.hid hbd
  have HP := Lib.hid (fun w1 (K : Keeps (With X w d) d w1) => (⟨K.blk hb1 (.inr ⟨Nat.le_refl _, by omega⟩), K.blk hb2 (.inr ⟨by omega, by omega⟩)⟩ : Blk w1 w.heap.size 9 [.string s] ∧ Blk w1 (w.heap.size + 1) 9 [.string r]))
  have HX := Lib.hid (⟨fun hx => by have := h.old _ hx; omega, fun hx => by have := h.old _ hx; omega⟩ : ¬ X w.heap.size ∧ ¬ X (w.heap.size + 1))
  clear h hb1 hb2 hbd hds
  subst hd
  by_cases hb : S.berr = 0
  · rw [hb] at HB
    have hbx : ¬ S.berr ≠ 0 := by omega
    cases hk : nat? s.data.toList S.names with
    | none =>
      have HS := Lib.hid (show S.rename s.data.toList r.data.toList = (S.begun, 6) by unfold St.rename; rw [if_neg hbx, hk])
      have HN := Lib.hid (show ptrOf (nat? s.data.toList S.begun.names) = .pointer none by rw [S.begun_names, hk]; rfl)
      clear hb hbx hk
      unfold ptrTo at *
      go_enter Try.func32, Try.ntmps32
      go_wp2_with (first
        | (go_at_call 45; refine HB.out.mono ?_; rintro e w1 ⟨rfl, D1, K1⟩; have c2 := D1.c2; have cb := (HP.out w1 K1).1.cell 0; have hl := looks D1.nm hs HN.out; have D1 := Lib.hid D1; have K1 := Lib.hid K1)
        | go_in)
      go_quiet (fail)
      go_wp2
      go_ret
      exact ⟨ret_int64 (by rw [HS.out]), ⟨L, by rw [HS.out]; exact (D1.out.drewN _).fewer (fun b hb => .inl hb)⟩, (K1.out.unwide HBD.out HO.out).quiet ⟨_, rfl⟩⟩
    | some b =>
      have hn' : S.begun.names.length ≤ 1000000 := by rw [S.begun_names]; omega
      have hw' : S.begun.waits.length ≤ 1000000 := by rw [S.begun_waits]; omega
      have HN := Lib.hid (show ptrOf (nat? s.data.toList S.begun.names) = .pointer (some ⟨b, 0, none⟩) by rw [S.begun_names, hk]; rfl)
      obtain ⟨d, hd⟩ : ∃ d, d = (w.alloc (.cells #[.string s] 9)).alloc (.cells #[.string r] 9) := ⟨_, rfl⟩
      rw [← hd] at HB HP HBD
      have HD := Lib.hid (fun w1 (D1 : DAt w1 (With X w d) g L S.begun) (K1 : Keeps (With X w d) d w1) q =>
        do_any ((D1.drewN q).fewer (fun b hb => .inl hb)) (v := .func (.func 60) #[] #[ptrTo w.heap.size, ptrTo (w.heap.size + 1)]) (t := .rename s.data.toList r.data.toList) ⟨w.heap.size, w.heap.size + 1, s, r, rfl, ⟨(HP.out w1 K1).1.drewN q, HX.out.1⟩, ⟨(HP.out w1 K1).2.drewN q, HX.out.2⟩, rfl, hs, rfl, hr⟩ ⟨b, by rw [S.begun_names]; exact hk⟩ hn' hw')
      subst hd
      by_cases hm : nameB r.data.toList = true
      · have HS := Lib.hid (show S.rename s.data.toList r.data.toList = (S.begun.turned (.rename s.data.toList r.data.toList), 0) by unfold St.rename; rw [if_neg hbx, hk]; simp only [hm, if_true])
        have HM := Lib.hid hm
        clear hb hbx hk hn' hw' hm
        unfold ptrTo at *
        go_enter Try.func32, Try.ntmps32
        go_wp2_with (first
          | (go_at_call 45; refine HB.out.mono ?_; rintro e w1 ⟨rfl, D1, K1⟩; have c2 := D1.c2; have cb := (HP.out w1 K1).1.cell 0; have cb2 := (HP.out w1 K1).2.cell 0; have hl := looks D1.nm hs HN.out; have D1 := Lib.hid D1; have K1 := Lib.hid K1)
          | go_in)
        go_quiet (fail)
        go_wp2_with (first
          | (go_at_call 14; refine (name_any r _ hr).mono ?_; rintro e w2 ⟨rfl, rfl⟩; rw [HM.out])
          | (go_at_call 46; refine (HD.out w1 D1.out K1.out _).mono ?_; rintro e w2 ⟨rfl, D2, K2⟩; have D2 := Lib.hid D2; have K2 := Lib.hid K2)
          | go_in)
        go_ret
        exact ⟨ret_int64 (by rw [HS.out]), by rw [HS.out]; exact D2.out, ((K1.out.unwide HBD.out HO.out).quiet ⟨_, rfl⟩).trans K2.out⟩
      · have hm' : nameB r.data.toList = false := by simpa using hm
        have HS := Lib.hid (show S.rename s.data.toList r.data.toList = (S.begun, 1) by unfold St.rename; rw [if_neg hbx, hk]; simp only [hm', Bool.false_eq_true, if_false])
        have HM := Lib.hid hm'
        clear hb hbx hk hn' hw' hm hm' HD
        unfold ptrTo at *
        go_enter Try.func32, Try.ntmps32
        go_wp2_with (first
          | (go_at_call 45; refine HB.out.mono ?_; rintro e w1 ⟨rfl, D1, K1⟩; have c2 := D1.c2; have cb := (HP.out w1 K1).1.cell 0; have cb2 := (HP.out w1 K1).2.cell 0; have hl := looks D1.nm hs HN.out; have D1 := Lib.hid D1; have K1 := Lib.hid K1)
          | go_in)
        go_quiet (fail)
        go_wp2_with (first
          | (go_at_call 14; refine (name_any r _ hr).mono ?_; rintro e w2 ⟨rfl, rfl⟩; rw [HM.out])
          | go_in)
        go_ret
        exact ⟨ret_int64 (by rw [HS.out]), ⟨L, by rw [HS.out]; exact (D1.out.drewN _).fewer (fun b hb => .inl hb)⟩, (K1.out.unwide HBD.out HO.out).quiet ⟨_, rfl⟩⟩
  · have hb1 : (S.berr != 0) = true := by simpa using hb
    have HS := Lib.hid (show S.rename s.data.toList r.data.toList = (S.begun, S.berr) by unfold St.rename; rw [if_pos hb])
    obtain ⟨y, hy⟩ : ∃ y, y = S.berr := ⟨_, rfl⟩
    rw [← hy] at hb1 HB HS
    clear hb hy
    unfold ptrTo at *
    go_enter Try.func32, Try.ntmps32
    go_wp2_with (first
      | (go_at_call 45; refine HB.out.mono ?_; rintro e w1 ⟨rfl, D1, K1⟩; have D1 := Lib.hid D1; have K1 := Lib.hid K1)
      | go_in)
    go_ret
    exact ⟨ret_int64 (by rw [HS.out]), ⟨L, by rw [HS.out]; exact D1.out.fewer (fun b hb => .inl hb)⟩, K1.out.unwide HBD.out HO.out⟩
end
end Go.Proofs.Ytekhockdgglndaa
namespace Go.Proofs.Ytekhockdgglndaa
set_option linter.unusedVariables false
set_option linter.unusedSimpArgs false
open Go.RowKit Go.Maps

/-- How many bytes the file at b has. -/
def dlenAt (fs : List Fl) (b : Nat) : Nat := match fs.find? fun f => f.blk == b with | some f => f.data.length | none => 0
def dusedOf (N : NL) (fs : List Fl) : Nat := (N.map fun p => dlenAt fs p.2).sum
theorem used_perm {N M : NL} (h : N.Perm M) (fs : List Fl) : dusedOf N fs = dusedOf M fs := (h.map _).sum_nat
theorem nins_perm (x : Nm × Nat) : ∀ N : NL, (nins x N).Perm (x :: N)
  | [] => .refl _
  | y :: r => by
    unfold nins
    split
    · exact .refl _
    · exact ((nins_perm x r).cons y).trans (.swap x y r)
theorem used_step {N : NL} (h : Ris N) {k : Nm} {b : Nat} (hm : (k, b) ∈ N) {left : Nm → Bool} (hl : left k = true) (fs : List Fl) :
    dusedOf (N.filter fun p => !(left p.1 && !(p.1 == k))) fs = dusedOf (N.filter fun p => !left p.1) fs + dlenAt fs b := by
  rw [← put_left h hm]
  have hd : ndel k (N.filter fun p => !left p.1) = N.filter fun p => !left p.1 := by
    unfold ndel
    rw [List.filter_eq_self]
    intro p hp
    have := (List.mem_filter.1 hp).2
    have : p.1 ≠ k := fun e => by rw [e, hl] at this; cases this
    simpa using this
  unfold nput
  rw [hd, used_perm (nins_perm _ _)]
  unfold dusedOf
  simp
  omega
theorem used_le {N : NL} {fs : List Fl} {m : Nat} (h : ∀ f ∈ fs, f.data.length ≤ m) : dusedOf N fs ≤ N.length * m := by
  unfold dusedOf
  induction N with
  | nil => simp
  | cons p r ih =>
    have : dlenAt fs p.2 ≤ m := by
      unfold dlenAt
      split
      · rename_i f hf
        exact h f (List.mem_of_find?_eq_some hf)
      · exact Nat.zero_le _
    simp only [List.map_cons, List.sum_cons, List.length_cons, Nat.succ_mul]
    omega
theorem used_filter_le {N : NL} {fs : List Fl} {m : Nat} (h : ∀ f ∈ fs, f.data.length ≤ m) (p : Nm × Nat → Bool) : dusedOf (N.filter p) fs ≤ N.length * m :=
  Nat.le_trans (used_le h) (Nat.mul_le_mul_right _ (List.length_filter_le _ _))
theorem find_blk {fs : List Fl} {L : Lay} (h : fs.Pairwise (Apart L)) {f : Fl} (hf : f ∈ fs) : fs.find? (fun x => x.blk == f.blk) = some f := by
  induction fs with
  | nil => cases hf
  | cons a r ih =>
    obtain ⟨h1, h2⟩ := List.pairwise_cons.1 h
    rcases List.mem_cons.1 hf with rfl | hf'
    · simp
    · have := (h1 f hf').1
      rw [List.find?_cons_of_neg (by simpa using this)]
      exact ih h2 hf'
theorem dlenAt_of {fs : List Fl} {L : Lay} (h : fs.Pairwise (Apart L)) {f : Fl} (hf : f ∈ fs) : dlenAt fs f.blk = f.data.length := by
  unfold dlenAt
  rw [find_blk h hf]

section
variable {w : World} {X : Nat → Prop} {g : Nat} {L : Lay} {S : St}
/-- A file by its name, in memory. -/
theorem DAt.by_name (h : DAt w X g L S) (hcl : Closed S.names S.fs) {k : Nm} {b : Nat} (hm : (k, b) ∈ S.names) :
    ∃ A c n, w.cell? ⟨b, 0, none⟩ = some (.slice A n c) ∧ n = dlenAt S.fs b := by
  obtain ⟨f, hf, e⟩ := hcl _ hm
  have hfa := h.fo f hf
  obtain ⟨A, c, e2, _⟩ := hfa.row.form
  have hc := hfa.c0
  rw [e2] at hc
  simp only at e
  refine ⟨A, c, _, by rw [← e]; exact hc, ?_⟩
  rw [← e, dlenAt_of h.nd hf]

set_option maxRecDepth 10000 in
set_option maxHeartbeats 1600000 in
theorem used_any (h : DAt w X g L S) (hd : S.dead = false) (hcl : Closed S.names S.fs) (hn : S.names.length ≤ 1000) (hl : ∀ f ∈ S.fs, f.data.length ≤ 1048576) :
    Calls Try.prog 42 #[ptrTo g] w fun e w' => e = .returned (.int .i64 (dusedOf S.names S.fs : Nat)) ∧ Below w.heap.size w w' := by
  have c9 : w.cell? ⟨g, 9, none⟩ = some (.bool false) := by rw [← hd]; exact h.c9
  have c2 := h.c2
  have hris := h.nm.ris
  have hnm := h.nm
  have HU := Lib.hid (fun p => used_filter_le (N := S.names) hl p)
  have HN := Lib.hid (fun (k : Nm) (b : Nat) (hm : (k, b) ∈ S.names) => h.by_name hcl hm)
  have HF := Lib.hid (fun (k : Nm) (b : Nat) (hm : (k, b) ∈ S.names) => (by
    obtain ⟨f, hf, e⟩ := hcl _ hm
    have := (h.fo f hf).blk.lt
    simp only at e
    rw [← e]
    exact this : b < w.heap.size))
  have HR := Lib.hid hris
  have HL := Lib.hid hl
  clear h hd hcl hris hl
  unfold ptrTo
  go_enter Try.func42, Try.ntmps42
  go_wp2_with (first
    | (at_range; refine wpList_range_names _ rfl _ rfl rfl hnm ?_; intro w0 hrg0 hg0 hs0)
    | go_in)
  go_frame
  go_loopw [3, 5] (fun u _ wr => ∃ (left : Nm → Bool) (cnt : Nat), NRange wr L.nm w.heap.size S.names left cnt ∧ u = .int .i64 (dusedOf (S.names.filter fun p => !left p.1) S.fs : Nat) ∧ w.grownBy wr none) (fun _ _ wr => wr.rangeLeft L.nm w.heap.size)
  case atStart => exact ⟨_, _, hrg0, by rw [come_start HR.out]; rfl, hg0⟩
  case round =>
    obtain ⟨left, cnt, hrg, rfl, hgr⟩ := hrel
    have hsz := hgr.size
    have hub := HU.out (fun p => !left p.1)
    obtain ⟨u, hu⟩ : ∃ u, u = dusedOf (S.names.filter fun p => !left p.1) S.fs := ⟨_, rfl⟩
    rw [← hu] at hub ⊢
    have HU1 := Lib.hid hu
    clear hu
    go_wp2_with (first
      | (at_next; refine wpList_next_names _ rfl _ rfl rfl hrg ?_ ?_)
      | go_in)
    · intro hc0 hl0
      go_wp2
      go_ret
      refine ⟨ret_int64 ?_, ⟨hgr.os, hgr.tape, hgr.output, hgr.size, fun k hk => hgr.block k hk (by simp)⟩⟩
      rw [HU1.out, come_end hl0]
    · intro s c w1 cnt1 hs hlx hm hrg1 hlt hg1 hs1 hen
      have hclt := HF.out _ _ hm
      obtain ⟨A, cc, n, hcell, hnl⟩ := HN.out _ _ hm
      have hst := used_step HR.out hm hlx S.fs
      have hub2 := HU.out (fun p => !(left p.1 && !(p.1 == s.data.toList)))
      have hcell1 : w1.cell? ⟨c, 0, none⟩ = some (.slice A n cc) := by
        rw [World.cell?_of_block (w := wr) (hg1.block c (by omega) (by intro e; injection e with e; omega)), World.cell?_of_block (w := w) (hgr.block c hclt (by simp))]
        exact hcell
      rw [hst, ← HU1.out, ← hnl] at hub2
      have HST := Lib.hid hst
      have HNL := Lib.hid hnl
      clear hs1 hm hst hcell hnl
      unfold ptrTo at *
      go_wp2
      go_roundw
      case rel =>
        refine ⟨_, cnt1, hrg1, ?_, ?_⟩
        · rw [HST.out, ← HU1.out, ← HNL.out]
          simp
        · exact ⟨hg1.os.trans hgr.os, hg1.tape.trans hgr.tape, hg1.output.trans hgr.output, Nat.le_trans hgr.size hg1.size, fun k hk _ => (hg1.block k (by omega) (by intro e; injection e with e; omega)).trans (hgr.block k hk (by simp))⟩
      case measure => rw [hrg1.left_eq, hrg.left_eq]; exact hlt
end
end Go.Proofs.Ytekhockdgglndaa
namespace Go.Proofs.Ytekhockdgglndaa
set_option linter.unusedVariables false
set_option linter.unusedSimpArgs false
open Go.RowKit Go.Maps

theorem ret_pair {v : Value} {a b : Int} (h : a = b) : Ending.returned (.tuple #[v, .int .i64 a]) = .returned (.tuple #[v, .int .i64 b]) := by rw [h]
section
variable {w : World} {X : Nat → Prop} {g : Nat} {L : Lay} {S : St}
/-- What Read answers. -/
def St.read (S : St) (k : Nm) : List Int × Int :=
  if S.dead = true then ([], 9) else match nat? k S.names with
  | none => ([], 6)
  | some b => match S.fs.find? fun f => f.blk == b with | some f => (f.data, 0) | none => ([], 6)

/-- Bytes of the call's own, and an error. -/
def Answers (w : World) (r : List Int × Int) (e : Ending) (w' : World) : Prop := ∃ v, e = .returned (.tuple #[v, .int .i64 r.2]) ∧ Own w' w.heap.size 5 1 v r.1.length (by8 r.1) ∧ Below w.heap.size w w'
set_option maxHeartbeats 800000 in
theorem read_any (h : DAt w X g L S) (s : ByteArray) (hs : s.size ≤ maxLen) (hcl : Closed S.names S.fs) (hl : ∀ f ∈ S.fs, f.data.length ≤ 1048576) :
    Calls Try.prog 11 #[ptrTo g, .string s] w (Answers w (S.read s.data.toList)) := by
  have c9 := h.c9
  have c2 := h.c2
  have hnm := h.nm
  by_cases hd : S.dead = true
  · have HS := Lib.hid (show S.read s.data.toList = ([], 9) by unfold St.read; rw [if_pos hd])
    rw [hd] at c9
    clear h hd hcl hl
    unfold ptrTo
    go_enter Try.func11, Try.ntmps11
    go_wp2
    go_ret2
    exact ⟨.slice none 0 0, ret_pair (by rw [HS.out]), by rw [HS.out]; exact Own.nil _ _ _ _ (Nat.le_refl _), Below.refl _ _⟩
  · have hd' : S.dead = false := by simpa using hd
    rw [hd'] at c9
    cases hk : nat? s.data.toList S.names with
    | none =>
      have HS := Lib.hid (show S.read s.data.toList = ([], 6) by unfold St.read; rw [if_neg hd, hk])
      have HN := Lib.hid (show ptrOf (nat? s.data.toList S.names) = .pointer none by rw [hk]; rfl)
      clear h hd hd' hcl hl hk
      unfold ptrTo
      go_enter Try.func11, Try.ntmps11
      go_wp2_with (first
        | (at_lookup; refine wpList_look _ rfl _ _ rfl rfl hnm rfl hs ?_; rw [HN.out])
        | go_in)
      go_ret2
      exact ⟨.slice none 0 0, ret_pair (by rw [HS.out]), by rw [HS.out]; exact Own.nil _ _ _ _ (Nat.le_refl _), Below.refl _ _⟩
    | some b =>
      obtain ⟨i, f, hi, hfb⟩ := hcl.at hk
      have hfm := List.mem_of_getElem? hi
      have hfa := h.fo f hfm
      have hfind := find_blk h.nd hfm
      rw [hfb] at hfind
      have HS := Lib.hid (show S.read s.data.toList = (f.data, 0) by unfold St.read; rw [if_neg hd, hk]; simp only [hfind])
      have HN := Lib.hid (show ptrOf (nat? s.data.toList S.names) = .pointer (some ⟨b, 0, none⟩) by rw [hk]; rfl)
      have f0 := hfa.c0
      have hrow := hfa.row
      rw [hfb] at f0 hrow
      obtain ⟨A, cc, hv, _, _⟩ := hrow.form
      rw [hv] at f0 hrow
      have hll := hl f hfm
      have HC := Lib.hid (clone_any A f.data.length cc f.data w _ hrow.sh (Nat.le_refl _) (by omega))
      clear h hd hd' hcl hl hk hi hfb hfm hfa hfind hv hrow
      unfold ptrTo
      go_enter Try.func11, Try.ntmps11
      go_wp2_with (first
        | (at_lookup; refine wpList_look _ rfl _ _ rfl rfl hnm rfl hs ?_; rw [HN.out])
        | (go_at_call 23; refine HC.out.mono ?_; rintro e w1 ⟨v, rfl, ho, hb⟩; obtain ⟨G, d, rfl⟩ := ho.form; have HO := Lib.hid ho; have HBW := Lib.hid hb; clear ho hb)
        | go_in)
      go_ret2
      exact ⟨_, ret_pair (by rw [HS.out]), by rw [HS.out]; exact HO.out, HBW.out⟩
end
end Go.Proofs.Ytekhockdgglndaa
namespace Go.Proofs.Ytekhockdgglndaa
set_option linter.unusedVariables false
set_option linter.unusedSimpArgs false
open Go.RowKit Go.Maps

/-- The slice shows the cells xs, which lie in a block of X. -/
def ShX (w : World) (X : Nat → Prop) (A : Option Addr) (n : Nat) (xs : List Value) : Prop :=
  xs.length = n ∧ (0 < n → ∃ b off, A = some ⟨b, off, none⟩ ∧ X b ∧ ∀ k u, xs[k]? = some u → w.cell? ⟨b, off + k, none⟩ = some u)
theorem ShX.keep {w w' : World} {X : Nat → Prop} {A : Option Addr} {n : Nat} {xs : List Value} (h : ShX w X A n xs) (hk : Keeps X w w') : ShX w' X A n xs :=
  ⟨h.1, fun hn => by
    obtain ⟨b, off, e, hb, hc⟩ := h.2 hn
    exact ⟨b, off, e, hb, fun k u hu => (World.cell?_of_block (w := w) (hk.block b hb)).trans (hc k u hu)⟩⟩
theorem ShX.sh {w : World} {X : Nat → Prop} {A : Option Addr} {n : Nat} {xs : List Value} (h : ShX w X A n xs) : Sh w w.heap.size A n xs :=
  ⟨h.1, fun hn => by
    obtain ⟨b, off, e, hb, hc⟩ := h.2 hn
    have hl : 0 < xs.length := by rw [h.1]; exact hn
    exact ⟨b, off, e, by have := World.block_lt_of_cell? _ _ (hc 0 _ (List.getElem?_eq_getElem hl)); exact this, hc⟩⟩
theorem ShX.of_sh {w : World} {X : Nat → Prop} {U : Nat} {A : Option Addr} {n : Nat} {xs : List Value} (h : Sh w U A n xs) (hX : ∀ b, b < U → X b) : ShX w X A n xs :=
  ⟨h.1, fun hn => by
    obtain ⟨b, off, e, hb, hc⟩ := h.2 hn
    exact ⟨b, off, e, hX b hb, hc⟩⟩

section
variable {w : World} {X : Nat → Prop} {g : Nat} {L : Lay} {S : St}
def St.append (S : St) (k : Nm) (b : List Int) : St × Int :=
  if S.berr ≠ 0 then (S.begun, S.berr) else match nat? k S.names with
  | none => (S.begun, 6)
  | some c => if S.cap < (dusedOf S.names S.fs : Int) + (b.length : Int) then (S.begun, 8) else ({ S.begun with fs := updF c (fun f => { f with data := f.data ++ b, unsure := f.unsure + b.length }) S.fs }, 0)

/-- The disk lies there, and what is kept since w. -/
structure Lies (X : Nat → Prop) (g : Nat) (L : Lay) (S : St) (w w' : World) : Prop where
  at_ : DAt w' X g L S
  kept : Keeps X w w'
theorem Lies.drew {w' : World} (h : Lies X g L S w w') : Lies X g L S w w'.drew := ⟨h.1.quiet (Quiet.one w' 1), h.2.quiet (Quiet.one w' 1)⟩
theorem Lies.below {w1 w2 : World} (h : Lies X g L S w w1) (hb : Below w1.heap.size w1 w2) : Lies X g L S w w2 :=
  ⟨h.1.foreign (grown_of_below hb none) (fun j e => by cases e), h.2.grown (grown_of_below hb none) h.1.old (fun j e => by cases e)⟩
theorem used_lies {w1 : World} (h : Lies X g L S w w1) (hd : S.dead = false) (hcl : Closed S.names S.fs) (hn : S.names.length ≤ 1000) (hl : ∀ f ∈ S.fs, f.data.length ≤ 1048576) :
    Calls Try.prog 42 #[ptrTo g] w1 fun e w' => e = .returned (.int .i64 (dusedOf S.names S.fs : Nat)) ∧ w'.cell? ⟨g, 0, none⟩ = some (.int .i64 S.cap) ∧ Lies X g L S w w' :=
  (used_any h.1 hd hcl hn hl).mono fun e w' ⟨he, hb⟩ => ⟨he, (h.below hb).1.c0, h.below hb⟩
theorem app_facts {w2 : World} (h : Lies X g L S w w2) {i b : Nat} {f : Fl} (hi : S.fs[i]? = some f) (hb : f.blk = b) :
    Row w2 X 5 (L.row b) f.data.length (by8 f.data) ∧ w2.cell? ⟨b, 0, none⟩ = some (L.row b) ∧ w2.cell? ⟨b, 1, none⟩ = some (.int .i64 (f.unsure : Int)) ∧ ∀ b, X b → b < w2.heap.size := by
  subst hb
  have := h.1.fo f (List.mem_of_getElem? hi)
  exact ⟨this.row, this.c0, this.c1, h.1.old⟩
theorem app_cells {w2 w3 : World} (h : Lies X g L S w w2) {i b : Nat} {f : Fl} (hi : S.fs[i]? = some f) (hb : f.blk = b) (hg : w2.grownBy w3 (L.row b).ownBlock) :
    w3.cell? ⟨b, 0, none⟩ = some (L.row b) ∧ w3.cell? ⟨b, 1, none⟩ = some (.int .i64 (f.unsure : Int)) ∧ w3.frozen? ⟨b, 0, none⟩ = false ∧ w3.frozen? ⟨b, 1, none⟩ = false := by
  subst hb
  have := h.1.fo f (List.mem_of_getElem? hi)
  have hk := this.blk.keep hg (fun e => this.row.ne_blk this.blk (by decide) e)
  exact ⟨hk.cell 0, hk.cell 1, hk.nf 0, hk.nf 1⟩
theorem app_close {w2 w3 : World} (h : Lies X g L S w w2) {i b n : Nat} {f : Fl} (hi : S.fs[i]? = some f) (hb : f.blk = b) {v : Value} {xs : List Int} (hn : xs.length = n) (hr : Row w3 X 5 v (f.data.length + n) (by8 f.data ++ by8 xs)) (hg : w2.grownBy w3 (L.row b).ownBlock) (hl : v.ownBlock = (L.row b).ownBlock ∨ v.ownBlock = some w2.heap.size) :
    (∃ L', DAt ((w3.setCell ⟨b, 0, none⟩ v).setCell ⟨b, 1, none⟩ (.int .i64 ((f.unsure : Int) + (n : Int)))) X g L' { S with fs := updF b (fun f => { f with data := f.data ++ xs, unsure := f.unsure + xs.length }) S.fs }) ∧ Keeps X w ((w3.setCell ⟨b, 0, none⟩ v).setCell ⟨b, 1, none⟩ (.int .i64 ((f.unsure : Int) + (n : Int)))) := by
  subst hb
  have hf := h.1.fo f (List.mem_of_getElem? hi)
  have hk := hf.blk.keep hg (fun e => hf.row.ne_blk hf.blk (by decide) e)
  have hstay : ∀ (k : Nat), k ≠ f.blk → ((w3.setCell ⟨f.blk, 0, none⟩ v).setCell ⟨f.blk, 1, none⟩ (.int .i64 ((f.unsure : Int) + (n : Int)))).heap[k]? = w3.heap[k]? := fun k hne => (Below.heap_setCell _ _ _ _ hne).trans (Below.heap_setCell _ _ _ _ hne)
  have hd := h.1.file (w' := (w3.setCell ⟨f.blk, 0, none⟩ v).setCell ⟨f.blk, 1, none⟩ (.int .i64 ((f.unsure : Int) + (n : Int)))) hi (f' := { f with data := f.data ++ xs, unsure := f.unsure + xs.length }) rfl (v := v) (by simpa using hg.size)
    (fun k h1 h2 h3 => (hstay k h2).trans (hg.block k h1 (fun e => h3 e.symm))) (by
      have := (hk.set 0 v).set 1 (.int .i64 ((f.unsure : Int) + (n : Int)))
      have e : ((fileCells (L.row f.blk) f).set 0 v).set 1 (.int .i64 ((f.unsure : Int) + (n : Int))) = fileCells v { f with data := f.data ++ xs, unsure := f.unsure + xs.length } := by
        simp [fileCells, hn]
      rwa [e] at this)
    ((hr.cast (by simp [hn]) (by8_append _ _).symm).stay fun j hj => hstay j (fun e => hr.ne_blk hk (by decide) (by rw [hj, e])))
    (fun j hj => by
      rcases hl with h1 | h1
      · exact .inl (by rw [← h1]; exact hj)
      · rw [h1] at hj
        injection hj with hj
        exact .inr (by omega))
  rw [set_upd h.1.nd hi (fun f => { f with data := f.data ++ xs, unsure := f.unsure + xs.length })] at hd
  have hX := hf.out
  refine ⟨⟨_, hd⟩, ?_⟩
  have h1 := h.2.grown hg h.1.old (fun k hk => hf.row.2 k hk)
  have h2 := h1.grown (grown_set w3 f.blk 0 v) (fun b hb => Nat.lt_of_lt_of_le (h.1.old b hb) hg.size) (fun k hk => by cases hk; exact hX)
  exact h2.grown (grown_set _ f.blk 1 _) (fun b hb => by have := h.1.old b hb; have := hg.size; simp; omega) (fun k hk => by cases hk; exact hX)
set_option maxRecDepth 10000 in
set_option maxHeartbeats 1600000 in
theorem append_any (h : DAt w X g L S) (hc : S.calls ≤ 100000) (s : ByteArray) (hs : s.size ≤ maxLen) (hcl : Closed S.names S.fs) (hn : S.names.length ≤ 1000) (hl : ∀ f ∈ S.fs, f.data.length ≤ 1048576) (hun : ∀ f ∈ S.fs, f.unsure ≤ 1048576) (hcap : 0 ≤ S.cap ∧ S.cap ≤ 1048576)
    (A : Option Addr) (n c : Nat) (xs : List Int) (hx : ShX w X A n (by8 xs)) (hnm : n ≤ 1000000000) :
    Calls Try.prog 17 #[ptrTo g, .string s, .slice A n c] w fun e w' => e = .returned (.int .i64 (S.append s.data.toList xs).2) ∧ (∃ L', DAt w' X g L' (S.append s.data.toList xs).1) ∧ Keeps X w w' := by
  have HB := Lib.hid (begin_any h (by omega))
  have HO := Lib.hid h.old
  clear h
  by_cases hb : S.berr = 0
  · rw [hb] at HB
    have hbx : ¬ S.berr ≠ 0 := by omega
    have hdd : S.begun.dead = false := by
      unfold St.berr at hb
      unfold St.begun
      split at hb
      · omega
      · rename_i h1
        rw [if_neg h1]
        split at hb
        · omega
        · rename_i h2
          rw [if_neg h2]
          simpa using h1
    cases hk : nat? s.data.toList S.names with
    | none =>
      have HS := Lib.hid (show S.append s.data.toList xs = (S.begun, 6) by unfold St.append; rw [if_neg hbx, hk])
      have HN := Lib.hid (show ptrOf (nat? s.data.toList S.begun.names) = .pointer none by rw [S.begun_names, hk]; rfl)
      clear hb hbx hk hcl hdd hl hun
      unfold ptrTo at *
      go_enter Try.func17, Try.ntmps17
      go_wp2_with (first
        | (go_at_call 45; refine HB.out.mono ?_; rintro e w1 ⟨rfl, D1, K1⟩; have c2 := D1.c2; have hnm1 := D1.nm; have D1 := Lib.hid D1; have K1 := Lib.hid K1)
        | (at_lookup; refine wpList_look _ rfl _ _ rfl rfl hnm1 rfl hs ?_; rw [HN.out])
        | go_in)
      go_ret
      exact ⟨ret_int64 (by rw [HS.out]), ⟨L, by rw [HS.out]; exact D1.out⟩, K1.out⟩
    | some b =>
      obtain ⟨i, f, hi, hfb⟩ := hcl.at hk
      have HN := Lib.hid (show ptrOf (nat? s.data.toList S.begun.names) = .pointer (some ⟨b, 0, none⟩) by rw [S.begun_names, hk]; rfl)
      have HI := Lib.hid (show S.begun.fs[i]? = some f by rw [S.begun_fs]; exact hi)
      have HF := Lib.hid hfb
      have HU := Lib.hid (fun w1 (D1 : Lies X g L S.begun w w1) => used_lies D1 hdd (by rw [S.begun_names, S.begun_fs]; exact hcl) (by rw [S.begun_names]; exact hn) (by rw [S.begun_fs]; exact hl))
      rw [S.begun_names, S.begun_fs, S.begun_cap] at HU
      obtain ⟨u, hu⟩ : ∃ u, u = dusedOf S.names S.fs := ⟨_, rfl⟩
      have hub : u ≤ 1048576000 := by
        rw [hu]
        have := used_le (N := S.names) hl
        omega
      have hsum : IntKind.i64.wrap ((u : Int) + (n : Int)) = (u : Int) + (n : Int) := IntWalk.i64_in _ (by omega)
      rw [← hu] at HU
      have HCAP := Lib.hid S.begun_cap
      have hxl : xs.length = n := by have := hx.1; rwa [by8_len] at this
      have HXL := Lib.hid hxl
      have hfu := hun f (List.mem_of_getElem? hi)
      have hfd := hl f (List.mem_of_getElem? hi)
      by_cases hfull : S.cap < (u : Int) + (n : Int)
      · have HS := Lib.hid (show S.append s.data.toList xs = (S.begun, 8) by unfold St.append; rw [if_neg hbx, hk]; simp only [← hu, hxl, hfull, if_true])
        have hdf : decide (S.cap < (u : Int) + (n : Int)) = true := by simpa using hfull
        clear hb hbx hk hcl hi hfb hl hu hdd hun hxl
        unfold ptrTo at *
        go_enter Try.func17, Try.ntmps17
        go_wp2_with (first
          | (go_at_call 45; refine HB.out.mono ?_; rintro e w1 ⟨rfl, D1, K1⟩; have c2 := D1.c2; have hnm1 := D1.nm; have c0 := D1.c0; rw [HCAP.out] at c0; have HLI : Lies X g L S.begun w w1 := ⟨D1, K1⟩; clear D1 K1)
          | (at_lookup; refine wpList_look _ rfl _ _ rfl rfl hnm1 rfl hs ?_; rw [HN.out])
          | go_in)
        go_region_held3 (fun w' => w'.cell? ⟨g, 0, none⟩ = some (.int .i64 S.cap) ∧ Lies X g L S.begun w w') (((try dsimp only); (repeat' apply And.intro) <;> first | assumption | (apply Lies.drew; assumption) | (apply Lies.below <;> first | assumption | (apply Lies.drew; assumption)) | go_keep)) (first | (go_at_call 42; refine (HU.out _ ?_).mono ?_; (first | assumption | (apply Lies.drew; assumption)); rintro e w2 ⟨rfl, hb2, hb3⟩))
        go_wp2
        go_ret
        exact ⟨ret_int64 (by rw [HS.out]), ⟨L, by rw [HS.out]; exact hb3.1⟩, hb3.2⟩
      · have HS := Lib.hid (show S.append s.data.toList xs = ({ S.begun with fs := updF b (fun f => { f with data := f.data ++ xs, unsure := f.unsure + xs.length }) S.begun.fs }, 0) by unfold St.append; rw [if_neg hbx, hk, S.begun_fs]; simp only [← hu, hxl, hfull, if_false])
        have hdf : decide (S.cap < (u : Int) + (n : Int)) = false := by simpa using hfull
        have HXK := Lib.hid (fun w' (k : Keeps X w w') => (hx.keep k).sh)
        clear hb hbx hk hcl hi hfb hl hu hdd hun hxl hx
        unfold ptrTo at *
        go_enter Try.func17, Try.ntmps17
        go_wp2_with (first
          | (go_at_call 45; refine HB.out.mono ?_; rintro e w1 ⟨rfl, D1, K1⟩; have c2 := D1.c2; have hnm1 := D1.nm; have c0 := D1.c0; rw [HCAP.out] at c0; have HLI : Lies X g L S.begun w w1 := ⟨D1, K1⟩; clear D1 K1)
          | (at_lookup; refine wpList_look _ rfl _ _ rfl rfl hnm1 rfl hs ?_; rw [HN.out])
          | go_in)
        go_region_held3 (fun w' => w'.cell? ⟨g, 0, none⟩ = some (.int .i64 S.cap) ∧ Lies X g L S.begun w w') (((try dsimp only); (repeat' apply And.intro) <;> first | assumption | (apply Lies.drew; assumption) | (apply Lies.below <;> first | assumption | (apply Lies.drew; assumption)) | go_keep)) (first | (go_at_call 42; refine (HU.out _ ?_).mono ?_; (first | assumption | (apply Lies.drew; assumption)); rintro e w2 ⟨rfl, hb2, hb3⟩))
        obtain ⟨hrow, k0, k1, hold⟩ := app_facts hb3 HI.out HF.out
        have hsx := HXK.out _ hb3.2
        obtain ⟨A0, cc0, hv0, _, _⟩ := hrow.form
        have HB3 := Lib.hid hb3
        obtain ⟨v0, hv1⟩ : ∃ v0, v0 = L.row b := ⟨_, rfl⟩
        have CELLS := Lib.hid (fun w3 (hg : w2.grownBy w3 (L.row b).ownBlock) => app_cells HB3.out HI.out HF.out hg)
        have CLOSE := Lib.hid (fun w3 v (hr : Row w3 X 5 v (f.data.length + n) (by8 f.data ++ by8 xs)) (hg : w2.grownBy w3 (L.row b).ownBlock) (hl : v.ownBlock = (L.row b).ownBlock ∨ v.ownBlock = some w2.heap.size) => app_close HB3.out HI.out HF.out HXL.out hr hg hl)
        rw [← hv1] at hrow k0 hv0 CELLS CLOSE
        subst hv0
        have HV1 := Lib.hid hv1
        clear hb3 hv1
        go_wp2_with (first
          | (at_builtin; refine wpList_rowmore rfl (.tmp 36) (.tmp 37) 32 rfl rowB w2 X _ _ _ (by8 xs) rfl hrow _ A n c rfl hsx (by8_one _) hold (by omega) (by omega) ?_; intro v3 w3 hrow3 hg3 hl3; obtain ⟨A3, cc3, rfl, _, _⟩ := hrow3.form; obtain ⟨m0, m1, z0, z1⟩ := CELLS.out w3 hg3; have HL3 := Lib.hid hl3; clear hl3)
          | go_in)
        go_ret
        have := CLOSE.out w3 _ hrow3 hg3 HL3.out
        exact ⟨ret_int64 (by rw [HS.out]), by rw [HS.out]; exact this.1, this.2⟩
  · have hb1 : (S.berr != 0) = true := by simpa using hb
    have HS := Lib.hid (show S.append s.data.toList xs = (S.begun, S.berr) by unfold St.append; rw [if_pos hb])
    obtain ⟨y, hy⟩ : ∃ y, y = S.berr := ⟨_, rfl⟩
    rw [← hy] at hb1 HB HS
    clear hb hy
    unfold ptrTo at *
    go_enter Try.func17, Try.ntmps17
    go_wp2_with (first
      | (go_at_call 45; refine HB.out.mono ?_; rintro e w1 ⟨rfl, D1, K1⟩; have D1 := Lib.hid D1; have K1 := Lib.hid K1)
      | go_in)
    go_ret
    exact ⟨ret_int64 (by rw [HS.out]), ⟨L, by rw [HS.out]; exact D1.out⟩, K1.out⟩
end
end Go.Proofs.Ytekhockdgglndaa
namespace Go.Proofs.Ytekhockdgglndaa
set_option linter.unusedVariables false
set_option linter.unusedSimpArgs false
open Go.RowKit Go.Maps

section
variable {P : Program} {ops : Array Oper} {o : Oper} {a : Act} {Q : Exit → Act → World → Prop}
theorem step_rowpush {K : Act → World → Prop} {E : Prop} (hgd : Region.wanted o (yielded ops a.tmps) = true) (s x : Operand) (t : TypeId) (ho : o.op = .call { callee := .builtin .append, args := #[s, x], argTypes := #[t, t] }) {e : TypeId} {bytes : Nat} (hT : RowT P t e 1 bytes)
    (w : World) (X : Nat → Prop) (v : Value) (n : Nat) (xs : List Value) (u : Value) (hs : a.eval s = v) (hown : Row w X e v n xs) (hx : a.eval x = .slice (some ⟨w.heap.size, 0, none⟩) 1 1) (h1 : u.oneCell' = true) (hX : ∀ b, X b → b < w.heap.size)
    (hlen : n ≤ 1099511627776) (hby : bytes ≤ 64)
    (h : ∀ v' w', Row w' X e v' (n + 1) (xs ++ [u]) → (w.alloc (.cells #[u] e)).grownBy w' v.ownBlock → (v'.ownBlock = v.ownBlock ∨ v'.ownBlock = some (w.heap.size + 1)) → K (a.put o.dst v') w') :
    if Region.wanted o (yielded ops a.tmps) = true then Oper.wp P o a (w.alloc (.cells #[u] e)) K Q else E := by
  rw [if_pos hgd]
  exact wp_rowpush s x t ho hT w X v n xs u hs hown hx h1 hX hlen hby h
end

section
variable {w : World} {X : Nat → Prop} {g : Nat} {L : Lay} {S : St}
theorem DAt.up_free (h : DAt w X g L S) {b : Nat} (hb : ∀ f ∈ S.fs, f.blk ≠ b) (v : Value) : DAt w X g (L.up b v) S := by
  refine ⟨h.gX, h.old, h.cells, h.fr, h.nm, h.nmX, h.sm, h.smX, h.nsm, h.wr, fun f hf => ?_, ?_⟩
  · rw [Lay.up_other _ _ (hb f hf)]
    exact h.fo f hf
  · refine h.nd.imp_of_mem fun {f f'} h1 h2 hne => ⟨hne.1, ?_⟩
    rw [Lay.up_other _ _ (hb f h1), Lay.up_other _ _ (hb f' h2)]
    exact hne.2
def newFl (b : Nat) : Fl := ⟨b, [], 0, false⟩
/-- Create, where the new file lies at block b. -/
def St.create (S : St) (k : Nm) (b : Nat) : St × Int :=
  if S.berr ≠ 0 then (S.begun, S.berr) else if nameB k = false then (S.begun, 1) else match nat? k S.names with
  | some _ => (S.begun, 7)
  | none => if 64 ≤ S.names.length then (S.begun, 8) else (({ S.begun with fs := S.fs ++ [newFl b] } : St).turned (.create k b), 0)
/-- No file lies at b. -/
def Free (fs : List Fl) (b : Nat) : Prop := ∀ f ∈ fs, f.blk ≠ b

/-- The world with the new file, and a box that leads to it. -/
def fileBox (w : World) : World := (w.alloc (.cells #[.slice none 0 0, .int .i64 0, .bool false] 65)).alloc (.cells #[ptrTo w.heap.size] 62)
theorem fileBox_size (w : World) : (fileBox w).heap.size = w.heap.size + 2 := by simp [fileBox]
theorem DAt.fileBox (h : DAt w X g L S) : DAt (fileBox w) X g L S := (h.alloc _).alloc _
theorem create_row (h : DAt w X g L S) : Row (fileBox w) X 62 L.fr S.fs.length (S.fs.map fun f => ptrTo f.blk) := h.fileBox.fr
theorem create_close {w0 w6 : World} {X0 : Nat → Prop} (h : DAt w X g L S) {q : Nat} {s : ByteArray} (hq : Blk w q 9 [.string s]) (hqX : ¬ X q) (hs : s.size ≤ maxLen) {v : Value}
    (hr : Row w6 X 62 v (S.fs.length + 1) ((S.fs.map fun f => ptrTo f.blk) ++ [ptrTo w.heap.size])) (hg : ((fileBox w).alloc (.cells #[ptrTo w.heap.size] 62)).grownBy w6 L.fr.ownBlock) (hl : v.ownBlock = L.fr.ownBlock ∨ v.ownBlock = some ((fileBox w).heap.size + 1)) :
    ∃ L7, DAt (w6.setCell ⟨g, 1, none⟩ v) X g L7 { S with fs := S.fs ++ [newFl w.heap.size] } ∧ TurnAt (w6.setCell ⟨g, 1, none⟩ v) X L7.fr (.func (.func 47) #[] #[ptrTo (w.heap.size + 1), ptrTo q]) (.create s.data.toList w.heap.size) ∧ Keeps X w (w6.setCell ⟨g, 1, none⟩ v) := by
  have h5 := h.fileBox
  have hsz := fileBox_size w
  have hga : (fileBox w).grownBy w6 L.fr.ownBlock := grown_trans (World.grownBy_alloc _ _ _) hg
  have hfree : Free S.fs w.heap.size := fun f hf e => by
    have := (h.fo f hf).blk.lt
    omega
  have hfrlt : ∀ j, L.fr.ownBlock = some j → j < w.heap.size := fun j hj => h.fr.lt hj
  have hb5 : Blk (fileBox w) w.heap.size 65 [.slice none 0 0, .int .i64 0, .bool false] := (Blk.new w _ _).keep (World.grownBy_alloc _ _ none) (by simp)
  have hp5 : Blk (fileBox w) (w.heap.size + 1) 62 [ptrTo w.heap.size] := by
    have := Blk.new (w.alloc (.cells #[.slice none 0 0, .int .i64 0, .bool false] 65)) 62 [ptrTo w.heap.size]
    unfold fileBox
    simpa using this
  have hq5 : Blk (fileBox w) q 9 [.string s] := (hq.keep (World.grownBy_alloc _ _ none) (by simp)).keep (World.grownBy_alloc _ _ none) (by simp)
  have hk6 : ∀ {b : Nat} {t : TypeId} {xs : List Value}, Blk (fileBox w) b t xs → b ≠ g → (∀ j, L.fr.ownBlock = some j → j ≠ b) → Blk (w6.setCell ⟨g, 1, none⟩ v) b t xs := fun hb hne hj =>
    (hb.keep hga (fun e => hj _ e rfl)).stay (Below.heap_setCell _ _ _ _ hne)
  have hgl := h.cells.lt
  have hc6 : Blk w6 g 61 (cellsOf L S) := h5.cells.keep hga (fun e => h5.fr.ne_blk h5.cells (by decide) e)
  have hX5 : ∀ b, w.heap.size ≤ b → ¬ X b := fun b hb hx => by
    have := h.old b hx
    omega
  have D := (h5.up_free (b := w.heap.size) hfree (.slice none 0 0)).files (w' := w6.setCell ⟨g, 1, none⟩ v) (fs' := S.fs ++ [newFl w.heap.size]) (v := v) (by simpa using hga.size)
    (fun k h1 h2 h3 => (Below.heap_setCell _ _ _ _ h2).trans (hga.block k h1 (fun e => h3 e.symm))) (hc6.set 1 v)
    ((hr.cast (by simp) (by simp [newFl])).stay fun j hj => Below.heap_setCell _ _ _ _ (fun e => hr.ne_blk hc6 (by decide) (by rw [hj]; simp at e; rw [e])))
    (fun j hj => by
      rcases hl with h1 | h1
      · exact .inl (h1.symm.trans hj)
      · rw [h1] at hj
        injection hj with hj
        exact .inr (by omega))
    (fun f hf => by
      rcases List.mem_append.1 hf with h1 | h1
      · exact .inl h1
      · right
        have e := List.mem_singleton.1 h1
        subst e
        have e2 : (L.up w.heap.size (.slice none 0 0)).row (newFl w.heap.size).blk = .slice none 0 0 := Lay.up_same _ _ _
        rw [e2]
        refine ⟨hk6 hb5 (by show w.heap.size ≠ g; omega) (fun j hj => by have := hfrlt j hj; show j ≠ w.heap.size; omega), hX5 _ (Nat.le_refl _), Row.nil _ _ _⟩)
    (by
      rw [List.pairwise_append]
      refine ⟨(h5.up_free (b := w.heap.size) hfree (.slice none 0 0)).nd, by simp, fun f hf f' hf' => ?_⟩
      have e := List.mem_singleton.1 hf'
      subst e
      refine ⟨hfree f hf, fun j hj e => ?_⟩
      have e2 : (L.up w.heap.size (.slice none 0 0)).row (newFl w.heap.size).blk = .slice none 0 0 := Lay.up_same _ _ _
      rw [e2] at e
      cases e)
  refine ⟨_, D, ?_, ?_⟩
  · refine ⟨_, _, s, rfl, ⟨hk6 hp5 (by omega) (fun j hj => by have := hfrlt j hj; omega), hX5 _ (by omega), fun e => ?_⟩, ⟨hk6 hq5 (hq.ne h.cells (by decide)) (fun j hj e => h.fr.ne_blk hq (by decide) (by rw [hj, e])), hqX⟩, rfl, hs⟩
    simp only at e
    rcases hl with h1 | h1
    · rw [h1] at e
      have := hfrlt _ e
      omega
    · rw [h1] at e
      injection e with e
      omega
  · have h1 := (((Keeps.refl X w).grown (World.grownBy_alloc w _ none) h.old (fun k e => by cases e)).grown (World.grownBy_alloc _ _ none) (fun b hb => by have := h.old b hb; simp; omega) (fun k e => by cases e) : Keeps X w (fileBox w))
    exact (h1.grown hga (fun b hb => by have := h.old b hb; omega) (fun k hk => h.fr.2 k hk)).grown (grown_set w6 g 1 v) (fun b hb => by have := h.old b hb; have := hga.size; omega) (fun k hk => by cases hk; exact h.gX)
end
end Go.Proofs.Ytekhockdgglndaa
namespace Go.Proofs.Ytekhockdgglndaa
set_option linter.unusedVariables false
set_option linter.unusedSimpArgs false
open Go.RowKit Go.Maps

theorem zeroFile (w : World) : (zeroValue 65).run Try.prog w = .ok (.agg #[.slice none 0 0, .int .i64 0, .bool false]) w := by kernel_rfl
section
variable {w : World} {X : Nat → Prop} {g : Nat} {L : Lay} {S : St}
/-- What comes of a Create. -/
def Created (w : World) (X : Nat → Prop) (g : Nat) (S : St) (k : Nm) (e : Ending) (w' : World) : Prop := ∃ b, Free S.fs b ∧ w.heap.size ≤ b ∧ e = .returned (.int .i64 (S.create k b).2) ∧ (∃ L', DAt w' X g L' (S.create k b).1) ∧ Keeps X w w'

theorem Quiet.keeps (X : Nat → Prop) (w : World) (q : Nat) : Keeps X w (w.drewN q) := (Keeps.refl X w).quiet ⟨q, rfl⟩
set_option maxRecDepth 100000 in
set_option maxHeartbeats 3200000 in
theorem create_any (h : DAt w X g L S) (hc : S.calls ≤ 100000) (s : ByteArray) (hs : s.size ≤ maxLen) (hn : S.names.length ≤ 1000) (hw : S.waits.length ≤ 100000) (hf : S.fs.length ≤ 100000) :
    Calls Try.prog 16 #[ptrTo g, .string s] w (Created w X g S s.data.toList) := by
  have hmf : ∀ (fn : Fn) (first cap : Array Value) (w : World), (Instr.makeFunc fn first cap).run Try.prog w = .ok (.func fn first cap) w := fun _ _ _ _ => rfl
  have hzf := zeroFile
  have HB := Lib.hid (begin_any (h.box (.cells #[.string s] 9)) (by omega))
  have HO := Lib.hid h.old
  have hnew : Blk (w.alloc (.cells #[.string s] 9)) w.heap.size 9 [.string s] := Blk.new w _ _
  have hin : With X w (w.alloc (.cells #[.string s] 9)) w.heap.size := .inr ⟨Nat.le_refl _, by simp⟩
  have HP := Lib.hid (fun w1 (K : Keeps (With X w (w.alloc (.cells #[.string s] 9))) (w.alloc (.cells #[.string s] 9)) w1) => K.blk hnew hin)
  have hnX : ¬ X w.heap.size := fun hx => by have := h.old _ hx; omega
  have HX := Lib.hid hnX
  have HFR := Lib.hid (show Free S.fs w.heap.size from fun f hf e => by have := (h.fo f hf).blk.lt; omega)
  clear h hnew hin hnX
  by_cases hb : S.berr = 0
  · rw [hb] at HB
    have hbx : ¬ S.berr ≠ 0 := by omega
    by_cases hnb : nameB s.data.toList = false
    · have HS := Lib.hid (show S.create s.data.toList w.heap.size = (S.begun, 1) by unfold St.create; rw [if_neg hbx, if_pos hnb])
      have HM := Lib.hid hnb
      clear hb hbx hnb
      unfold ptrTo at *
      go_enter Try.func16, Try.ntmps16
      go_wp2_with (first
        | (go_at_call 45; refine HB.out.mono ?_; rintro e w1 ⟨rfl, D1, K1⟩; have cb := (HP.out w1 K1).cell 0; have D1 := Lib.hid D1; have K1 := Lib.hid K1)
        | (go_at_call 14; refine (name_any s _ hs).mono ?_; rintro e w2 ⟨rfl, rfl⟩; rw [HM.out])
        | go_in)
      go_ret
      exact ⟨_, HFR.out, Nat.le_refl _, ret_int64 (by rw [HS.out]), ⟨L, by rw [HS.out]; exact D1.out.fewer (fun b hb => .inl hb)⟩, K1.out.unbox HO.out⟩
    · have hnb' : nameB s.data.toList = true := by simpa using hnb
      have HM := Lib.hid hnb'
      cases hk : nat? s.data.toList S.names with
      | some b =>
        have HS := Lib.hid (show S.create s.data.toList w.heap.size = (S.begun, 7) by unfold St.create; rw [if_neg hbx, if_neg hnb, hk])
        have HN := Lib.hid (show ptrOf (nat? s.data.toList S.begun.names) = .pointer (some ⟨b, 0, none⟩) by rw [S.begun_names, hk]; rfl)
        clear hb hbx hnb hnb' hk
        unfold ptrTo at *
        go_enter Try.func16, Try.ntmps16
        go_wp2_with (first
          | (go_at_call 45; refine HB.out.mono ?_; rintro e w1 ⟨rfl, D1, K1⟩; have cb := (HP.out w1 K1).cell 0; have c2 := D1.c2; have hl := looks D1.nm hs HN.out; have D1 := Lib.hid D1; have K1 := Lib.hid K1)
          | (go_at_call 14; refine (name_any s _ hs).mono ?_; rintro e w2 ⟨rfl, rfl⟩; rw [HM.out])
          | go_in)
        go_quiet (fail)
        go_wp2
        go_ret
        exact ⟨_, HFR.out, Nat.le_refl _, ret_int64 (by rw [HS.out]), ⟨L, by rw [HS.out]; exact (D1.out.drewN _).fewer (fun b hb => .inl hb)⟩, (K1.out.unbox HO.out).quiet ⟨_, rfl⟩⟩
      | none =>
        have HN := Lib.hid (show ptrOf (nat? s.data.toList S.begun.names) = .pointer none by rw [S.begun_names, hk]; rfl)
        have HLEN := Lib.hid (show S.begun.names.length = S.names.length by rw [S.begun_names])
        by_cases hfull : 64 ≤ S.names.length
        · have HS := Lib.hid (show S.create s.data.toList w.heap.size = (S.begun, 8) by unfold St.create; rw [if_neg hbx, if_neg hnb, hk]; simp only [hfull, if_true])
          clear hb hbx hnb hnb' hk
          unfold ptrTo at *
          go_enter Try.func16, Try.ntmps16
          go_wp2_with (first
            | (go_at_call 45; refine HB.out.mono ?_; rintro e w1 ⟨rfl, D1, K1⟩; have cb := (HP.out w1 K1).cell 0; have c2 := D1.c2; have hnm := D1.nm; have hl := looks D1.nm hs HN.out; have D1 := Lib.hid D1; have K1 := Lib.hid K1)
            | (go_at_call 14; refine (name_any s _ hs).mono ?_; rintro e w2 ⟨rfl, rfl⟩; rw [HM.out])
            | go_in)
          go_quiet (fail)
          go_wp2_with (first
            | (at_len; refine wpList_names_len _ rfl _ rfl rfl hnm ?_; rw [HLEN.out])
            | go_in)
          go_ret
          exact ⟨_, HFR.out, Nat.le_refl _, ret_int64 (by rw [HS.out]), ⟨L, by rw [HS.out]; exact (D1.out.drewN _).fewer (fun b hb => .inl hb)⟩, (K1.out.unbox HO.out).quiet ⟨_, rfl⟩⟩
        · have hws : S.begun.waits.length ≤ 1000000 := by rw [S.begun_waits]; omega
          have hns : S.begun.names.length ≤ 1000000 := by rw [S.begun_names]; omega
          have hfl : S.begun.fs.length ≤ 1099511627776 := by rw [S.begun_fs]; omega
          have HFS := Lib.hid S.begun_fs
          clear hb hnb'
          have HHH := Lib.hid (And.intro hbx (And.intro hnb hk))
          clear hbx hnb hk
          unfold ptrTo at HB HN
          unfold ptrTo
          go_enter Try.func16, Try.ntmps16
          go_wp2_with (first
            | (go_at_call 45; refine HB.out.mono ?_; rintro e w1 ⟨rfl, D1, K1⟩; have cb := (HP.out w1 K1).cell 0; have c2 := D1.c2; have hnm := D1.nm; have hl := looks D1.nm hs HN.out; have D1 := Lib.hid D1; have K1 := Lib.hid K1)
            | (go_at_call 14; refine (name_any s _ hs).mono ?_; rintro e w2 ⟨rfl, rfl⟩; rw [HM.out])
            | go_in)
          go_quiet (fail)
          go_wp2_with (first
            | (at_len; refine wpList_names_len _ rfl _ rfl rfl hnm ?_; rw [HLEN.out])
            | go_in)
          obtain ⟨W5, hW5⟩ : ∃ W5, W5 = fileBox (w1.drewN nq) := ⟨_, rfl⟩
          have D5 : DAt W5 X g L S.begun := by
            rw [hW5]
            exact ((D1.out.drewN nq).fewer (fun b hb => .inl hb)).fileBox
          have hcell : W5.cell? ⟨w1.heap.size + 1, 0, none⟩ = some (.pointer (some ⟨w1.heap.size, 0, none⟩)) := by
            rw [hW5]
            unfold fileBox
            have := (Blk.new ((w1.drewN nq).alloc (.cells #[.slice none 0 0, .int .i64 0, .bool false] 65)) 62 [ptrTo (w1.drewN nq).heap.size]).cell 0
            simpa [ptrTo] using this
          have c1 := D5.c1
          have hrow := D5.fr
          have hold := D5.old
          have f1 := D5.cells.nf 1
          have hgl := D5.cells.lt
          have HB5 := Lib.hid D5.cells
          have FIN := Lib.hid (fun (w6 : World) (v : Value) (hr : Row w6 X 62 v (S.begun.fs.length + 1) ((S.begun.fs.map fun f => ptrTo f.blk) ++ [ptrTo w1.heap.size])) (hg : (W5.alloc (.cells #[ptrTo w1.heap.size] 62)).grownBy w6 L.fr.ownBlock) (hl : v.ownBlock = L.fr.ownBlock ∨ v.ownBlock = some (W5.heap.size + 1)) =>
            create_close (w := w1.drewN nq) (w0 := w) (X0 := X) ((D1.out.drewN nq).fewer (fun b hb => .inl hb)) ((HP.out w1 K1.out).drewN nq) HX.out hs hr (by rw [← hW5]; exact hg) (by rw [← hW5]; exact hl))
          have CEL := Lib.hid (fun (w6 : World) (hg : (W5.alloc (.cells #[ptrTo w1.heap.size] 62)).grownBy w6 L.fr.ownBlock) => (⟨((D5.alloc (.cells #[ptrTo w1.heap.size] 62)).cells.keep hg (fun e => hrow.ne_blk D5.cells (by decide) e)).cell 1, ((D5.alloc (.cells #[ptrTo w1.heap.size] 62)).cells.keep hg (fun e => hrow.ne_blk D5.cells (by decide) e)).nf 1⟩ : w6.cell? ⟨g, 1, none⟩ = some L.fr ∧ w6.frozen? ⟨g, 1, none⟩ = false))
          have hWW : (((w1.drewN nq).alloc (.cells #[.slice none 0 0, .int .i64 0, .bool false] 65)).alloc (.cells #[.pointer (some ⟨w1.heap.size, 0, none⟩)] 62)) = W5 := by rw [hW5]; rfl
          rw [hWW]
          have HWW := Lib.hid hW5
          clear hWW hW5 D5 hl c2 hnm
          unfold ptrTo at hrow FIN CEL
          go_region_law (refine step_rowpush rfl (.tmp 37) (.tmp 39) 53 rfl rowFl W5.drew X L.fr _ _ _ rfl hrow rfl rfl hold hfl (by omega) ?_; intro v6 w6 hrow6 hg6 hl6; obtain ⟨A6, cc6, rfl, _, _⟩ := hrow6.form; have hg6 : (W5.alloc (.cells #[.pointer (some ⟨w1.heap.size, 0, none⟩)] 62)).grownBy w6 L.fr.ownBlock := ⟨hg6.os, hg6.tape, hg6.output, hg6.size, hg6.block⟩; obtain ⟨d1, z1⟩ := CEL.out w6 hg6; have HL6 := Lib.hid hl6; clear hl6)
          all_goals
            obtain ⟨L7, D7, T7, K7⟩ := FIN.out w6 _ hrow6 hg6 HL6.out
            have HD7 := Lib.hid (do_any D7 T7 trivial hns hws)
            have HK7 := Lib.hid ((K1.out.unbox HO.out).trans (((Quiet.keeps X w1 nq)).trans K7))
            clear D7 T7 K7
            unfold ptrTo at HD7
            go_wp2_with (first
              | (go_at_call 46; refine HD7.out.mono ?_; rintro e w8 ⟨rfl, D8, K8⟩; have D8 := Lib.hid D8; have K8 := Lib.hid K8)
              | go_in)
            go_ret
            have hle : w.heap.size ≤ w1.heap.size := by
              have := (K1.out.unbox HO.out).size
              omega
            have hfree : Free S.fs w1.heap.size := fun f hf e => by
              have := (D1.out.fo f (by rw [HFS.out]; exact hf)).blk.lt
              omega
            have HS : S.create s.data.toList w1.heap.size = (({ S.begun with fs := S.fs ++ [newFl w1.heap.size] } : St).turned (.create s.data.toList w1.heap.size), 0) := by
              unfold St.create
              rw [if_neg HHH.out.1, if_neg HHH.out.2.1, HHH.out.2.2]
              simp only [hfull, if_false]
            refine ⟨w1.heap.size, hfree, hle, ret_int64 (by rw [HS]), ?_, HK7.out.trans K8.out⟩
            rw [HS]
            have := D8.out
            rw [HFS.out] at this
            exact this
  · have hb1 : (S.berr != 0) = true := by simpa using hb
    have HS := Lib.hid (show S.create s.data.toList w.heap.size = (S.begun, S.berr) by unfold St.create; rw [if_pos hb])
    obtain ⟨y, hy⟩ : ∃ y, y = S.berr := ⟨_, rfl⟩
    rw [← hy] at hb1 HB HS
    clear hb hy
    unfold ptrTo at *
    go_enter Try.func16, Try.ntmps16
    go_wp2_with (first
      | (go_at_call 45; refine HB.out.mono ?_; rintro e w1 ⟨rfl, D1, K1⟩; have D1 := Lib.hid D1; have K1 := Lib.hid K1)
      | go_in)
    go_ret
    exact ⟨_, HFR.out, Nat.le_refl _, ret_int64 (by rw [HS.out]), ⟨L, by rw [HS.out]; exact D1.out.fewer (fun b hb => .inl hb)⟩, K1.out.unbox HO.out⟩
end
end Go.Proofs.Ytekhockdgglndaa
