/-
  CONTRACT OF Append.
-/
import Derived.Test.YtfhbolhmfhgeaaaDRead
import Derived.Deep.RegionHeld3
namespace Go.Proofs.Ytfhbolhmfhgeaaa
set_option linter.unusedVariables false
set_option linter.unusedSimpArgs false
open Go.RowKit Go.Maps

/-- The slice shows the cells xs, which lie in a block of X. -/
def ShX (w : World) (X : Nat → Prop) (A : Option Addr) (n : Nat) (xs : List Value) : Prop :=
  xs.length = n ∧ (0 < n → ∃ b off, A = some ⟨b, off, none⟩ ∧ X b ∧ ∀ k u, xs[k]? = some u → w.cell? ⟨b, off + k, none⟩ = some u)
theorem ShX.keep {w w' : World} {X : Nat → Prop} {A : Option Addr} {n : Nat} {xs : List Value} (h : ShX w X A n xs) (hk : Keeps X w w') : ShX w' X A n xs :=
  ⟨h.1, fun hn => by
    obtain ⟨b, off, e, hb, hc⟩ := h.2 hn
    exact ⟨b, off, e, hb, fun k u hu => (World.cell?_of_block (w := w) (hk.block b hb)).trans (hc k u hu)⟩⟩
theorem ShX.sh {w : World} {X : Nat → Prop} {A : Option Addr} {n : Nat} {xs : List Value} (h : ShX w X A n xs) : Sh w w.heap.size A n xs :=
  ⟨h.1, fun hn => by
    obtain ⟨b, off, e, hb, hc⟩ := h.2 hn
    have hl : 0 < xs.length := by rw [h.1]; exact hn
    exact ⟨b, off, e, by have := World.block_lt_of_cell? _ _ (hc 0 _ (List.getElem?_eq_getElem hl)); exact this, hc⟩⟩
theorem ShX.of_sh {w : World} {X : Nat → Prop} {U : Nat} {A : Option Addr} {n : Nat} {xs : List Value} (h : Sh w U A n xs) (hX : ∀ b, b < U → X b) : ShX w X A n xs :=
  ⟨h.1, fun hn => by
    obtain ⟨b, off, e, hb, hc⟩ := h.2 hn
    exact ⟨b, off, e, hX b hb, hc⟩⟩

section
variable {w : World} {X : Nat → Prop} {g : Nat} {L : Lay} {S : St}
def St.append (S : St) (k : Nm) (b : List Int) : St × Int :=
  if S.berr ≠ 0 then (S.begun, S.berr) else match nat? k S.names with
  | none => (S.begun, 6)
  | some c => if S.cap < (usedOf S.names S.fs : Int) + (b.length : Int) then (S.begun, 8) else ({ S.begun with fs := updF c (fun f => { f with data := f.data ++ b, unsure := f.unsure + b.length }) S.fs }, 0)

/-- The disk lies there, and what is kept since w. -/
structure Lies (X : Nat → Prop) (g : Nat) (L : Lay) (S : St) (w w' : World) : Prop where
  at_ : DAt w' X g L S
  kept : Keeps X w w'
theorem Lies.drew {w' : World} (h : Lies X g L S w w') : Lies X g L S w w'.drew := ⟨h.1.quiet (Quiet.one w' 1), h.2.quiet (Quiet.one w' 1)⟩
theorem Lies.below {w1 w2 : World} (h : Lies X g L S w w1) (hb : Below w1.heap.size w1 w2) : Lies X g L S w w2 :=
  ⟨h.1.foreign (grown_of_below hb none) (fun j e => by cases e), h.2.grown (grown_of_below hb none) h.1.old (fun j e => by cases e)⟩
theorem used_lies {w1 : World} (h : Lies X g L S w w1) (hd : S.dead = false) (hcl : Closed S.names S.fs) (hn : S.names.length ≤ 1000) (hl : ∀ f ∈ S.fs, f.data.length ≤ 1048576) :
    Calls Try.prog 32 #[ptrTo g] w1 fun e w' => e = .returned (.int .i64 (usedOf S.names S.fs : Nat)) ∧ w'.cell? ⟨g, 0, none⟩ = some (.int .i64 S.cap) ∧ Lies X g L S w w' :=
  (used_any h.1 hd hcl hn hl).mono fun e w' ⟨he, hb⟩ => ⟨he, (h.below hb).1.c0, h.below hb⟩
theorem app_facts {w2 : World} (h : Lies X g L S w w2) {i b : Nat} {f : Fl} (hi : S.fs[i]? = some f) (hb : f.blk = b) :
    Row w2 X 5 (L.row b) f.data.length (by8 f.data) ∧ w2.cell? ⟨b, 0, none⟩ = some (L.row b) ∧ w2.cell? ⟨b, 1, none⟩ = some (.int .i64 (f.unsure : Int)) ∧ ∀ b, X b → b < w2.heap.size := by
  subst hb
  have := h.1.fo f (List.mem_of_getElem? hi)
  exact ⟨this.row, this.c0, this.c1, h.1.old⟩
theorem app_cells {w2 w3 : World} (h : Lies X g L S w w2) {i b : Nat} {f : Fl} (hi : S.fs[i]? = some f) (hb : f.blk = b) (hg : w2.grownBy w3 (L.row b).ownBlock) :
    w3.cell? ⟨b, 0, none⟩ = some (L.row b) ∧ w3.cell? ⟨b, 1, none⟩ = some (.int .i64 (f.unsure : Int)) ∧ w3.frozen? ⟨b, 0, none⟩ = false ∧ w3.frozen? ⟨b, 1, none⟩ = false := by
  subst hb
  have := h.1.fo f (List.mem_of_getElem? hi)
  have hk := this.blk.keep hg (fun e => this.row.ne_blk this.blk (by decide) e)
  exact ⟨hk.cell 0, hk.cell 1, hk.nf 0, hk.nf 1⟩
theorem app_close {w2 w3 : World} (h : Lies X g L S w w2) {i b n : Nat} {f : Fl} (hi : S.fs[i]? = some f) (hb : f.blk = b) {v : Value} {xs : List Int} (hn : xs.length = n) (hr : Row w3 X 5 v (f.data.length + n) (by8 f.data ++ by8 xs)) (hg : w2.grownBy w3 (L.row b).ownBlock) (hl : v.ownBlock = (L.row b).ownBlock ∨ v.ownBlock = some w2.heap.size) :
    (∃ L', DAt ((w3.setCell ⟨b, 0, none⟩ v).setCell ⟨b, 1, none⟩ (.int .i64 ((f.unsure : Int) + (n : Int)))) X g L' { S with fs := updF b (fun f => { f with data := f.data ++ xs, unsure := f.unsure + xs.length }) S.fs }) ∧ Keeps X w ((w3.setCell ⟨b, 0, none⟩ v).setCell ⟨b, 1, none⟩ (.int .i64 ((f.unsure : Int) + (n : Int)))) := by
  subst hb
  have hf := h.1.fo f (List.mem_of_getElem? hi)
  have hk := hf.blk.keep hg (fun e => hf.row.ne_blk hf.blk (by decide) e)
  have hstay : ∀ (k : Nat), k ≠ f.blk → ((w3.setCell ⟨f.blk, 0, none⟩ v).setCell ⟨f.blk, 1, none⟩ (.int .i64 ((f.unsure : Int) + (n : Int)))).heap[k]? = w3.heap[k]? := fun k hne => (Below.heap_setCell _ _ _ _ hne).trans (Below.heap_setCell _ _ _ _ hne)
  have hd := h.1.file (w' := (w3.setCell ⟨f.blk, 0, none⟩ v).setCell ⟨f.blk, 1, none⟩ (.int .i64 ((f.unsure : Int) + (n : Int)))) hi (f' := { f with data := f.data ++ xs, unsure := f.unsure + xs.length }) rfl (v := v) (by simpa using hg.size)
    (fun k h1 h2 h3 => (hstay k h2).trans (hg.block k h1 (fun e => h3 e.symm))) (by
      have := (hk.set 0 v).set 1 (.int .i64 ((f.unsure : Int) + (n : Int)))
      have e : ((fileCells (L.row f.blk) f).set 0 v).set 1 (.int .i64 ((f.unsure : Int) + (n : Int))) = fileCells v { f with data := f.data ++ xs, unsure := f.unsure + xs.length } := by
        simp [fileCells, hn]
      rwa [e] at this)
    ((hr.cast (by simp [hn]) (by8_append _ _).symm).stay fun j hj => hstay j (fun e => hr.ne_blk hk (by decide) (by rw [hj, e])))
    (fun j hj => by
      rcases hl with h1 | h1
      · exact .inl (by rw [← h1]; exact hj)
      · rw [h1] at hj
        injection hj with hj
        exact .inr (by omega))
  rw [set_upd h.1.nd hi (fun f => { f with data := f.data ++ xs, unsure := f.unsure + xs.length })] at hd
  have hX := hf.out
  refine ⟨⟨_, hd⟩, ?_⟩
  have h1 := h.2.grown hg h.1.old (fun k hk => hf.row.2 k hk)
  have h2 := h1.grown (grown_set w3 f.blk 0 v) (fun b hb => Nat.lt_of_lt_of_le (h.1.old b hb) hg.size) (fun k hk => by cases hk; exact hX)
  exact h2.grown (grown_set _ f.blk 1 _) (fun b hb => by have := h.1.old b hb; have := hg.size; simp; omega) (fun k hk => by cases hk; exact hX)
set_option maxRecDepth 10000 in
set_option maxHeartbeats 1600000 in
theorem append_any (h : DAt w X g L S) (hc : S.calls ≤ 100000) (s : ByteArray) (hs : s.size ≤ maxLen) (hcl : Closed S.names S.fs) (hn : S.names.length ≤ 1000) (hl : ∀ f ∈ S.fs, f.data.length ≤ 1048576) (hun : ∀ f ∈ S.fs, f.unsure ≤ 1048576) (hcap : 0 ≤ S.cap ∧ S.cap ≤ 1048576)
    (A : Option Addr) (n c : Nat) (xs : List Int) (hx : ShX w X A n (by8 xs)) (hnm : n ≤ 1000000000) :
    Calls Try.prog 21 #[ptrTo g, .string s, .slice A n c] w fun e w' => e = .returned (.int .i64 (S.append s.data.toList xs).2) ∧ (∃ L', DAt w' X g L' (S.append s.data.toList xs).1) ∧ Keeps X w w' := by
  have HB := Lib.hid (begin_any h (by omega))
  have HO := Lib.hid h.old
  clear h
  by_cases hb : S.berr = 0
  · rw [hb] at HB
    have hbx : ¬ S.berr ≠ 0 := by omega
    have hdd : S.begun.dead = false := by
      unfold St.berr at hb
      unfold St.begun
      split at hb
      · omega
      · rename_i h1
        rw [if_neg h1]
        split at hb
        · omega
        · rename_i h2
          rw [if_neg h2]
          simpa using h1
    cases hk : nat? s.data.toList S.names with
    | none =>
      have HS := Lib.hid (show S.append s.data.toList xs = (S.begun, 6) by unfold St.append; rw [if_neg hbx, hk])
      have HN := Lib.hid (show ptrOf (nat? s.data.toList S.begun.names) = .pointer none by rw [S.begun_names, hk]; rfl)
      clear hb hbx hk hcl hdd hl hun
      unfold ptrTo at *
      go_enter Try.func21, Try.ntmps21
      go_wp2_with (first
        | (go_at_call 51; refine HB.out.mono ?_; rintro e w1 ⟨rfl, D1, K1⟩; have c2 := D1.c2; have hnm1 := D1.nm; have D1 := Lib.hid D1; have K1 := Lib.hid K1)
        | (at_lookup; refine wpList_look _ rfl _ _ rfl rfl hnm1 rfl hs ?_; rw [HN.out])
        | go_in)
      go_ret
      exact ⟨ret_int64 (by rw [HS.out]), ⟨L, by rw [HS.out]; exact D1.out⟩, K1.out⟩
    | some b =>
      obtain ⟨i, f, hi, hfb⟩ := hcl.at hk
      have HN := Lib.hid (show ptrOf (nat? s.data.toList S.begun.names) = .pointer (some ⟨b, 0, none⟩) by rw [S.begun_names, hk]; rfl)
      have HI := Lib.hid (show S.begun.fs[i]? = some f by rw [S.begun_fs]; exact hi)
      have HF := Lib.hid hfb
      have HU := Lib.hid (fun w1 (D1 : Lies X g L S.begun w w1) => used_lies D1 hdd (by rw [S.begun_names, S.begun_fs]; exact hcl) (by rw [S.begun_names]; exact hn) (by rw [S.begun_fs]; exact hl))
      rw [S.begun_names, S.begun_fs, S.begun_cap] at HU
      obtain ⟨u, hu⟩ : ∃ u, u = usedOf S.names S.fs := ⟨_, rfl⟩
      have hub : u ≤ 1048576000 := by
        rw [hu]
        have := used_le (N := S.names) hl
        omega
      have hsum : IntKind.i64.wrap ((u : Int) + (n : Int)) = (u : Int) + (n : Int) := IntWalk.i64_in _ (by omega)
      rw [← hu] at HU
      have HCAP := Lib.hid S.begun_cap
      have hxl : xs.length = n := by have := hx.1; rwa [by8_len] at this
      have HXL := Lib.hid hxl
      have hfu := hun f (List.mem_of_getElem? hi)
      have hfd := hl f (List.mem_of_getElem? hi)
      by_cases hfull : S.cap < (u : Int) + (n : Int)
      · have HS := Lib.hid (show S.append s.data.toList xs = (S.begun, 8) by unfold St.append; rw [if_neg hbx, hk]; simp only [← hu, hxl, hfull, if_true])
        have hdf : decide (S.cap < (u : Int) + (n : Int)) = true := by simpa using hfull
        clear hb hbx hk hcl hi hfb hl hu hdd hun hxl
        unfold ptrTo at *
        go_enter Try.func21, Try.ntmps21
        go_wp2_with (first
          | (go_at_call 51; refine HB.out.mono ?_; rintro e w1 ⟨rfl, D1, K1⟩; have c2 := D1.c2; have hnm1 := D1.nm; have c0 := D1.c0; rw [HCAP.out] at c0; have HLI : Lies X g L S.begun w w1 := ⟨D1, K1⟩; clear D1 K1)
          | (at_lookup; refine wpList_look _ rfl _ _ rfl rfl hnm1 rfl hs ?_; rw [HN.out])
          | go_in)
        go_region_held3 (fun w' => w'.cell? ⟨g, 0, none⟩ = some (.int .i64 S.cap) ∧ Lies X g L S.begun w w') (((try dsimp only); (repeat' apply And.intro) <;> first | assumption | (apply Lies.drew; assumption) | (apply Lies.below <;> first | assumption | (apply Lies.drew; assumption)) | go_keep)) (first | (go_at_call 32; refine (HU.out _ ?_).mono ?_; (first | assumption | (apply Lies.drew; assumption)); rintro e w2 ⟨rfl, hb2, hb3⟩))
        go_wp2
        go_ret
        exact ⟨ret_int64 (by rw [HS.out]), ⟨L, by rw [HS.out]; exact hb3.1⟩, hb3.2⟩
      · have HS := Lib.hid (show S.append s.data.toList xs = ({ S.begun with fs := updF b (fun f => { f with data := f.data ++ xs, unsure := f.unsure + xs.length }) S.begun.fs }, 0) by unfold St.append; rw [if_neg hbx, hk, S.begun_fs]; simp only [← hu, hxl, hfull, if_false])
        have hdf : decide (S.cap < (u : Int) + (n : Int)) = false := by simpa using hfull
        have HXK := Lib.hid (fun w' (k : Keeps X w w') => (hx.keep k).sh)
        clear hb hbx hk hcl hi hfb hl hu hdd hun hxl hx
        unfold ptrTo at *
        go_enter Try.func21, Try.ntmps21
        go_wp2_with (first
          | (go_at_call 51; refine HB.out.mono ?_; rintro e w1 ⟨rfl, D1, K1⟩; have c2 := D1.c2; have hnm1 := D1.nm; have c0 := D1.c0; rw [HCAP.out] at c0; have HLI : Lies X g L S.begun w w1 := ⟨D1, K1⟩; clear D1 K1)
          | (at_lookup; refine wpList_look _ rfl _ _ rfl rfl hnm1 rfl hs ?_; rw [HN.out])
          | go_in)
        go_region_held3 (fun w' => w'.cell? ⟨g, 0, none⟩ = some (.int .i64 S.cap) ∧ Lies X g L S.begun w w') (((try dsimp only); (repeat' apply And.intro) <;> first | assumption | (apply Lies.drew; assumption) | (apply Lies.below <;> first | assumption | (apply Lies.drew; assumption)) | go_keep)) (first | (go_at_call 32; refine (HU.out _ ?_).mono ?_; (first | assumption | (apply Lies.drew; assumption)); rintro e w2 ⟨rfl, hb2, hb3⟩))
        obtain ⟨hrow, k0, k1, hold⟩ := app_facts hb3 HI.out HF.out
        have hsx := HXK.out _ hb3.2
        obtain ⟨A0, cc0, hv0, _, _⟩ := hrow.form
        have HB3 := Lib.hid hb3
        obtain ⟨v0, hv1⟩ : ∃ v0, v0 = L.row b := ⟨_, rfl⟩
        have CELLS := Lib.hid (fun w3 (hg : w2.grownBy w3 (L.row b).ownBlock) => app_cells HB3.out HI.out HF.out hg)
        have CLOSE := Lib.hid (fun w3 v (hr : Row w3 X 5 v (f.data.length + n) (by8 f.data ++ by8 xs)) (hg : w2.grownBy w3 (L.row b).ownBlock) (hl : v.ownBlock = (L.row b).ownBlock ∨ v.ownBlock = some w2.heap.size) => app_close HB3.out HI.out HF.out HXL.out hr hg hl)
        rw [← hv1] at hrow k0 hv0 CELLS CLOSE
        subst hv0
        have HV1 := Lib.hid hv1
        clear hb3 hv1
        go_wp2_with (first
          | (at_builtin; refine wpList_rowmore rfl (.tmp 36) (.tmp 37) 32 rfl rowB w2 X _ _ _ (by8 xs) rfl hrow _ A n c rfl hsx (by8_one _) hold (by omega) (by omega) ?_; intro v3 w3 hrow3 hg3 hl3; obtain ⟨A3, cc3, rfl, _, _⟩ := hrow3.form; obtain ⟨m0, m1, z0, z1⟩ := CELLS.out w3 hg3; have HL3 := Lib.hid hl3; clear hl3)
          | go_in)
        go_ret
        have := CLOSE.out w3 _ hrow3 hg3 HL3.out
        exact ⟨ret_int64 (by rw [HS.out]), by rw [HS.out]; exact this.1, this.2⟩
  · have hb1 : (S.berr != 0) = true := by simpa using hb
    have HS := Lib.hid (show S.append s.data.toList xs = (S.begun, S.berr) by unfold St.append; rw [if_pos hb])
    obtain ⟨y, hy⟩ : ∃ y, y = S.berr := ⟨_, rfl⟩
    rw [← hy] at hb1 HB HS
    clear hb hy
    unfold ptrTo at *
    go_enter Try.func21, Try.ntmps21
    go_wp2_with (first
      | (go_at_call 51; refine HB.out.mono ?_; rintro e w1 ⟨rfl, D1, K1⟩; have D1 := Lib.hid D1; have K1 := Lib.hid K1)
      | go_in)
    go_ret
    exact ⟨ret_int64 (by rw [HS.out]), ⟨L, by rw [HS.out]; exact D1.out⟩, K1.out⟩
end
end Go.Proofs.Ytfhbolhmfhgeaaa
