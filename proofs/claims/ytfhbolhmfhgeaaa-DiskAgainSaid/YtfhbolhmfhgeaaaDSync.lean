/-
  CONTRACTS OF Sync, Remove, Rename.
-/
import Derived.Test.YtfhbolhmfhgeaaaDDo2
import Derived.Test.YtfhbolhmfhgeaaaDName
import Derived.BigQuiet
import Derived.Deep.QuietTactic
namespace Go.Proofs.Ytfhbolhmfhgeaaa
set_option linter.unusedVariables false
set_option linter.unusedSimpArgs false
open Go.RowKit Go.Maps

/-- The file at block b is another one. -/
def updF (b : Nat) (u : Fl → Fl) (fs : List Fl) : List Fl := fs.map fun f => if f.blk = b then u f else f
theorem set_upd {fs : List Fl} {L : Lay} (h : fs.Pairwise (Apart L)) {i : Nat} {f : Fl} (hi : fs[i]? = some f) (u : Fl → Fl) : fs.set i (u f) = updF f.blk u fs := by
  obtain ⟨hi1, hi2⟩ := List.getElem?_eq_some_iff.1 hi
  rw [List.pairwise_iff_getElem] at h
  refine List.ext_getElem? fun j => ?_
  unfold updF
  rw [List.getElem?_map]
  by_cases e : i = j
  · subst e
    rw [List.getElem?_set_self hi1, hi]
    simp
  · rw [List.getElem?_set_ne e]
    cases hj : fs[j]? with
    | none => rfl
    | some f2 =>
      obtain ⟨hj1, hj2⟩ := List.getElem?_eq_some_iff.1 hj
      have : f2.blk ≠ f.blk := by
        rcases Nat.lt_or_gt_of_ne e with hlt | hgt
        · have := (h i j hi1 hj1 hlt).1
          rw [hi2, hj2] at this
          exact this.symm
        · have := (h j i hj1 hi1 hgt).1
          rwa [hi2, hj2] at this
      simp [this]
/-- Each name is a file's. -/
def Closed (N : NL) (fs : List Fl) : Prop := ∀ p ∈ N, ∃ f ∈ fs, f.blk = p.2
theorem Closed.at {N : NL} {fs : List Fl} (h : Closed N fs) {k : Nm} {b : Nat} (hk : nat? k N = some b) : ∃ (i : Nat) (f : Fl), fs[i]? = some f ∧ f.blk = b := by
  obtain ⟨f, hf, e⟩ := h _ (nat?_some hk)
  obtain ⟨i, hi⟩ := List.getElem?_of_mem hf
  exact ⟨i, f, hi, e⟩
section
variable {w : World} {X : Nat → Prop} {g : Nat} {L : Lay} {S : St}
theorem St.begun_names (S : St) : S.begun.names = S.names := by unfold St.begun; (repeat' split) <;> rfl
theorem St.begun_sure (S : St) : S.begun.sure = S.sure := by unfold St.begun; (repeat' split) <;> rfl
theorem St.begun_waits (S : St) : S.begun.waits = S.waits := by unfold St.begun; (repeat' split) <;> rfl
theorem St.begun_fs (S : St) : S.begun.fs = S.fs := by unfold St.begun; (repeat' split) <;> rfl
theorem St.begun_cap (S : St) : S.begun.cap = S.cap := by unfold St.begun; (repeat' split) <;> rfl

def St.sync (S : St) (k : Nm) : St × Int :=
  if S.berr ≠ 0 then (S.begun, S.berr) else match nat? k S.names with
  | none => (S.begun, 6)
  | some b => ({ S.begun with fs := updF b (fun f => { f with unsure := 0 }) S.fs }, 0)

set_option maxHeartbeats 800000 in
theorem sync_any (h : DAt w X g L S) (hc : S.calls ≤ 1000000) (s : ByteArray) (hs : s.size ≤ maxLen) (hcl : Closed S.names S.fs) :
    Calls Try.prog 22 #[ptrTo g, .string s] w fun e w' => e = .returned (.int .i64 (S.sync s.data.toList).2) ∧ (∃ L', DAt w' X g L' (S.sync s.data.toList).1) ∧ Keeps X w w' := by
  have HB := Lib.hid (begin_any h hc)
  clear h
  by_cases hb : S.berr = 0
  · rw [hb] at HB
    have hbx : ¬ S.berr ≠ 0 := by omega
    cases hk : nat? s.data.toList S.names with
    | none =>
      have HS := Lib.hid (show S.sync s.data.toList = (S.begun, 6) by unfold St.sync; rw [if_neg hbx, hk])
      have HN := Lib.hid (show ptrOf (nat? s.data.toList S.begun.names) = .pointer none by rw [S.begun_names, hk]; rfl)
      clear hb hbx hk hcl
      unfold ptrTo at *
      go_enter Try.func22, Try.ntmps22
      go_wp2_with (first
        | (go_at_call 51; refine HB.out.mono ?_; rintro e w1 ⟨rfl, D1, K1⟩; have c2 := D1.c2; have hnm := D1.nm; have D1 := Lib.hid D1; have K1 := Lib.hid K1)
        | (at_lookup; refine wpList_look _ rfl _ _ rfl rfl hnm rfl hs ?_; rw [HN.out])
        | go_in)
      go_ret
      exact ⟨ret_int64 (by rw [HS.out]), ⟨L, by rw [HS.out]; exact D1.out⟩, K1.out⟩
    | some b =>
      obtain ⟨i, f, hi, hfb⟩ := hcl.at hk
      have HS := Lib.hid (show S.sync s.data.toList = ({ S.begun with fs := updF b (fun f => { f with unsure := 0 }) S.fs }, 0) by unfold St.sync; rw [if_neg hbx, hk])
      have HN := Lib.hid (show ptrOf (nat? s.data.toList S.begun.names) = .pointer (some ⟨b, 0, none⟩) by rw [S.begun_names, hk]; rfl)
      have HI := Lib.hid (show S.begun.fs[i]? = some f by rw [S.begun_fs]; exact hi)
      have HF := Lib.hid hfb
      clear hb hbx hk hcl hi hfb
      unfold ptrTo at *
      go_enter Try.func22, Try.ntmps22
      go_wp2_with (first
        | (go_at_call 51; refine HB.out.mono ?_; rintro e w1 ⟨rfl, D1, K1⟩; have c2 := D1.c2; have hnm := D1.nm; have hfo := D1.fo f (List.mem_of_getElem? HI.out); have f1 := hfo.c1; have hfa := hfo.blk; clear hfo; rw [HF.out] at hfa f1; have fz := hfa.nf 1; have D1 := Lib.hid D1; have K1 := Lib.hid K1; have HFA := Lib.hid hfa; clear hfa)
        | (at_lookup; refine wpList_look _ rfl _ _ rfl rfl hnm rfl hs ?_; rw [HN.out])
        | go_in)
      go_ret
      refine ⟨ret_int64 (by rw [HS.out]), ⟨L.up b (L.row b), ?_⟩, ?_⟩
      · rw [HS.out]
        have hr := (D1.out.fo f (List.mem_of_getElem? HI.out)).row
        have := D1.out.file (w' := w1.setCell ⟨b, 1, none⟩ (.int .i64 0)) HI.out (f' := { f with unsure := 0 }) rfl (v := L.row f.blk) (by simp) (fun k _ hk _ => Below.heap_setCell _ _ _ _ (by rw [← HF.out]; exact hk))
          (by rw [HF.out]; have := HFA.out.set 1 (.int .i64 0); exact this) (hr.stay fun j hj => Below.heap_setCell _ _ _ _ (fun e => hr.ne_blk HFA.out (by decide) (by rw [hj]; simp at e; rw [e]))) (fun j hj => .inl hj)
        rw [set_upd D1.out.nd HI.out (fun f => { f with unsure := 0 }), HF.out, S.begun_fs] at this
        exact this
      · exact K1.out.grown (grown_set w1 b 1 _) D1.out.old (fun k hk => by cases hk; have := (D1.out.fo f (List.mem_of_getElem? HI.out)).out; rwa [HF.out] at this)
  · have hb1 : (S.berr != 0) = true := by simpa using hb
    have HS := Lib.hid (show S.sync s.data.toList = (S.begun, S.berr) by unfold St.sync; rw [if_pos hb])
    obtain ⟨y, hy⟩ : ∃ y, y = S.berr := ⟨_, rfl⟩
    rw [← hy] at hb1 HB HS
    clear hb hy
    unfold ptrTo at *
    go_enter Try.func22, Try.ntmps22
    go_wp2_with (first
      | (go_at_call 51; refine HB.out.mono ?_; rintro e w1 ⟨rfl, D1, K1⟩; have D1 := Lib.hid D1; have K1 := Lib.hid K1)
      | go_in)
    go_ret
    exact ⟨ret_int64 (by rw [HS.out]), ⟨L, by rw [HS.out]; exact D1.out⟩, K1.out⟩

def St.remove (S : St) (k : Nm) : St × Int :=
  if S.berr ≠ 0 then (S.begun, S.berr) else match nat? k S.names with
  | none => (S.begun, 6)
  | some _ => (S.begun.turned (.remove k), 0)
def St.rename (S : St) (k m : Nm) : St × Int :=
  if S.berr ≠ 0 then (S.begun, S.berr) else match nat? k S.names with
  | none => (S.begun, 6)
  | some _ => if nameB m = true then (S.begun.turned (.rename k m), 0) else (S.begun, 1)

/-- A new block is set apart. -/
def With (X : Nat → Prop) (w w' : World) (b : Nat) : Prop := X b ∨ (w.heap.size ≤ b ∧ b < w'.heap.size)
theorem DAt.box (h : DAt w X g L S) (o : Obj) : DAt (w.alloc o) (With X w (w.alloc o)) g L S := h.wider (World.grownBy_alloc w o none) (fun j e => by cases e)
theorem Keeps.blk {Y : Nat → Prop} {a c : World} (h : Keeps Y a c) {b : Nat} {t : TypeId} {xs : List Value} (hb : Blk a b t xs) (hY : Y b) : Blk c b t xs := hb.stay (h.block b hY)
theorem Keeps.unbox {X : Nat → Prop} {w c : World} {o : Obj} (h : Keeps (With X w (w.alloc o)) (w.alloc o) c) (hX : ∀ b, X b → b < w.heap.size) : Keeps X w c :=
  ⟨h.os, h.tape, h.output, Nat.le_trans (by simp) h.size, fun k hk => (h.block k (.inl hk)).trans (Below.heap_alloc w o k (hX k hk))⟩

theorem looks {w1 : World} {b : Nat} {N : NL} (h : NamesAt w1 b N) {s : ByteArray} (hs : s.size ≤ maxLen) {v : Value} (hv : ptrOf (nat? s.data.toList N) = v) : ∀ q, (Instr.lookup 68 (.map (some b)) (.string s) false).run Try.prog (w1.drewN q) = .ok v (w1.drewN q) := fun q => by
  have h' : NamesAt (w1.drewN q) b N := h
  rw [h'.look hs, hv]

set_option maxRecDepth 10000 in
set_option maxHeartbeats 1600000 in
theorem remove_any (h : DAt w X g L S) (hc : S.calls ≤ 100000) (s : ByteArray) (hs : s.size ≤ maxLen) (hn : S.names.length ≤ 1000) (hw : S.waits.length ≤ 100000) :
    Calls Try.prog 30 #[ptrTo g, .string s] w fun e w' => e = .returned (.int .i64 (S.remove s.data.toList).2) ∧ (∃ L', DAt w' X g L' (S.remove s.data.toList).1) ∧ Keeps X w w' := by
  have hmf : ∀ (fn : Fn) (first cap : Array Value) (w : World), (Instr.makeFunc fn first cap).run Try.prog w = .ok (.func fn first cap) w := fun _ _ _ _ => rfl
  have HB := Lib.hid (begin_any (h.box (.cells #[.string s] 9)) (by omega))
  have HO := Lib.hid h.old
  have hnew : Blk (w.alloc (.cells #[.string s] 9)) w.heap.size 9 [.string s] := Blk.new w _ _
  have hin : With X w (w.alloc (.cells #[.string s] 9)) w.heap.size := .inr ⟨Nat.le_refl _, by simp⟩
  have HP := Lib.hid (fun w1 (K : Keeps (With X w (w.alloc (.cells #[.string s] 9))) (w.alloc (.cells #[.string s] 9)) w1) => K.blk hnew hin)
  have hnX : ¬ X w.heap.size := fun hx => by have := h.old _ hx; omega
  have HX := Lib.hid hnX
  clear h hnew hin hnX
  by_cases hb : S.berr = 0
  · rw [hb] at HB
    have hbx : ¬ S.berr ≠ 0 := by omega
    cases hk : nat? s.data.toList S.names with
    | none =>
      have HS := Lib.hid (show S.remove s.data.toList = (S.begun, 6) by unfold St.remove; rw [if_neg hbx, hk])
      have HN := Lib.hid (show ptrOf (nat? s.data.toList S.begun.names) = .pointer none by rw [S.begun_names, hk]; rfl)
      clear hb hbx hk
      unfold ptrTo at *
      go_enter Try.func30, Try.ntmps30
      go_wp2_with (first
        | (go_at_call 51; refine HB.out.mono ?_; rintro e w1 ⟨rfl, D1, K1⟩; have c2 := D1.c2; have cb := (HP.out w1 K1).cell 0; have hl := looks D1.nm hs HN.out; have D1 := Lib.hid D1; have K1 := Lib.hid K1)
        | go_in)
      go_quiet (fail)
      go_wp2
      go_ret
      exact ⟨ret_int64 (by rw [HS.out]), ⟨L, by rw [HS.out]; exact (D1.out.drewN _).fewer (fun b hb => .inl hb)⟩, (K1.out.unbox HO.out).quiet ⟨_, rfl⟩⟩
    | some b =>
      have HS := Lib.hid (show S.remove s.data.toList = (S.begun.turned (.remove s.data.toList), 0) by unfold St.remove; rw [if_neg hbx, hk])
      have HN := Lib.hid (show ptrOf (nat? s.data.toList S.begun.names) = .pointer (some ⟨b, 0, none⟩) by rw [S.begun_names, hk]; rfl)
      have hn' : S.begun.names.length ≤ 1000000 := by rw [S.begun_names]; omega
      have hw' : S.begun.waits.length ≤ 1000000 := by rw [S.begun_waits]; omega
      have HD := Lib.hid (fun w1 (D1 : DAt w1 (With X w (w.alloc (.cells #[.string s] 9))) g L S.begun) (K1 : Keeps (With X w (w.alloc (.cells #[.string s] 9))) (w.alloc (.cells #[.string s] 9)) w1) q =>
        do_any ((D1.drewN q).fewer (fun b hb => .inl hb)) (v := .func (.func 62) #[] #[ptrTo w.heap.size]) (t := .remove s.data.toList) ⟨w.heap.size, s, rfl, ⟨(HP.out w1 K1).drewN q, HX.out⟩, rfl, hs⟩ trivial hn' hw')
      clear hb hbx hk hn' hw'
      unfold ptrTo at *
      go_enter Try.func30, Try.ntmps30
      go_wp2_with (first
        | (go_at_call 51; refine HB.out.mono ?_; rintro e w1 ⟨rfl, D1, K1⟩; have c2 := D1.c2; have cb := (HP.out w1 K1).cell 0; have hl := looks D1.nm hs HN.out; have D1 := Lib.hid D1; have K1 := Lib.hid K1)
        | go_in)
      go_quiet (fail)
      go_wp2_with (first
        | (go_at_call 52; refine (HD.out w1 D1.out K1.out _).mono ?_; rintro e w2 ⟨rfl, D2, K2⟩; have D2 := Lib.hid D2; have K2 := Lib.hid K2)
        | go_in)
      go_ret
      exact ⟨ret_int64 (by rw [HS.out]), by rw [HS.out]; exact D2.out, ((K1.out.unbox HO.out).quiet ⟨_, rfl⟩).trans K2.out⟩
  · have hb1 : (S.berr != 0) = true := by simpa using hb
    have HS := Lib.hid (show S.remove s.data.toList = (S.begun, S.berr) by unfold St.remove; rw [if_pos hb])
    obtain ⟨y, hy⟩ : ∃ y, y = S.berr := ⟨_, rfl⟩
    rw [← hy] at hb1 HB HS
    clear hb hy
    unfold ptrTo at *
    go_enter Try.func30, Try.ntmps30
    go_wp2_with (first
      | (go_at_call 51; refine HB.out.mono ?_; rintro e w1 ⟨rfl, D1, K1⟩; have D1 := Lib.hid D1; have K1 := Lib.hid K1)
      | go_in)
    go_ret
    exact ⟨ret_int64 (by rw [HS.out]), ⟨L, by rw [HS.out]; exact D1.out.fewer (fun b hb => .inl hb)⟩, K1.out.unbox HO.out⟩
end
end Go.Proofs.Ytfhbolhmfhgeaaa
