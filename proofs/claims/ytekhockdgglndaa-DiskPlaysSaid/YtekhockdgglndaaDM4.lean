/-
  CONTRACTS OF within and keepBytes.
  CONTRACT OF Boot.
  CONTRACT OF Boot: the walk.
  FILES THAT ARE HANDED IN; CONTRACT OF fits.
  A DISK THAT IS BEING MADE.
  CONTRACT OF New.
-/
import Derived.Test.YtekhockdgglndaaDM3
import Derived.BigRegion
import Derived.StillTailTactics
namespace Go.Proofs.Ytekhockdgglndaa
set_option linter.unusedVariables false
set_option linter.unusedSimpArgs false
open Go.RowKit Go.Maps

/-- n, or the nearest of 0 and most. -/
def withinN (n : Int) (most : Nat) : Nat := (min (max n 0) (most : Int)).toNat
theorem within_le (n : Int) (most : Nat) : withinN n most ≤ most := by unfold withinN; omega
theorem within_any (n : Int) (most : Nat) (w : World) : Calls Try.prog 50 #[.int .i64 n, .int .i64 (most : Int)] w fun e w' => e = .returned (.int .i64 (withinN n most : Nat)) ∧ w = w' := by
  by_cases h1 : n < 0
  · have H := Lib.hid (show ((withinN n most : Nat) : Int) = 0 by unfold withinN; omega)
    have h0 : (0 : Int) ≤ (most : Int) := by omega
    go_enter Try.func50, Try.ntmps50
    go_wp2
    all_goals
      go_ret
      exact ⟨ret_int64 (by rw [H.out]; try omega), rfl⟩
  · by_cases h2 : n ≤ (most : Int)
    · have H := Lib.hid (show ((withinN n most : Nat) : Int) = n by unfold withinN; omega)
      go_enter Try.func50, Try.ntmps50
      go_wp2
      all_goals
        go_ret
        exact ⟨ret_int64 (by rw [H.out]; try omega), rfl⟩
    · have H := Lib.hid (show ((withinN n most : Nat) : Int) = (most : Int) by unfold withinN; omega)
      go_enter Try.func50, Try.ntmps50
      go_wp2
      all_goals
        go_ret
        exact ⟨ret_int64 (by rw [H.out]; try omega), rfl⟩

/-- The i-th file that has bytes which aren't sure. -/
def keepAt (nums : List Int) (i : Nat) (f : Fl) : Fl :=
  if f.unsure = 0 then f else if f.named = true then { f with data := f.data.take (f.data.length - f.unsure + withinN (nums.getD i 0) f.unsure), unsure := 0 } else f
def dcntU (fs : List Fl) : Nat := (fs.filter fun f => f.unsure != 0).length
def keepB (nums : List Int) : Nat → List Fl → List Fl
  | _, [] => []
  | i, f :: r => keepAt nums i f :: keepB nums (if f.unsure = 0 then i else i + 1) r
theorem keepB_len (nums : List Int) : ∀ (i : Nat) (fs : List Fl), (keepB nums i fs).length = fs.length
  | _, [] => rfl
  | i, f :: r => by simp [keepB, keepB_len nums _ r]
theorem keepB_at (nums : List Int) : ∀ (i : Nat) (fs : List Fl) (k : Nat), (keepB nums i fs)[k]? = (fs[k]?).map (keepAt nums (i + dcntU (fs.take k)))
  | i, [], k => by simp [keepB]
  | i, f :: r, 0 => by simp [keepB, dcntU]
  | i, f :: r, k + 1 => by
    unfold keepB
    rw [List.getElem?_cons_succ, List.getElem?_cons_succ, keepB_at nums _ r k]
    have : (if f.unsure = 0 then i else i + 1) + dcntU (r.take k) = i + dcntU ((f :: r).take (k + 1)) := by
      unfold dcntU
      rw [List.take_succ_cons, List.filter_cons]
      by_cases h : f.unsure = 0
      · simp [h]
      · simp [h]
        omega
    rw [this]
def keptB (nums : List Int) (k : Nat) (fs : List Fl) : List Fl := (keepB nums 0 fs).take k ++ fs.drop k
theorem keptB_len (nums : List Int) (k : Nat) (fs : List Fl) : (keptB nums k fs).length = fs.length := by simp [keptB, keepB_len]; omega
theorem keptB_get (nums : List Int) (k j : Nat) (fs : List Fl) : (keptB nums k fs)[j]? = if j < k then (fs[j]?).map (keepAt nums (dcntU (fs.take j))) else fs[j]? := by
  unfold keptB
  rw [List.getElem?_append]
  simp only [List.length_take, keepB_len, List.getElem?_take, List.getElem?_drop, keepB_at, Nat.zero_add]
  by_cases h2 : j < fs.length
  · by_cases h1 : j < k
    · rw [if_pos h1, if_pos (by omega), if_pos h1]
    · rw [if_neg (show ¬ j < min k fs.length by omega), if_neg h1, show k + (j - min k fs.length) = j by omega]
  · have e : fs[j]? = none := List.getElem?_eq_none (by omega)
    rw [e, if_neg (by omega), List.getElem?_eq_none (by omega)]
    split <;> rfl
theorem keptB_at {nums : List Int} {k : Nat} {fs : List Fl} : (keptB nums k fs)[k]? = fs[k]? := by rw [keptB_get, if_neg (by omega)]
theorem keptB_step {nums : List Int} {k : Nat} {fs : List Fl} {f : Fl} (hf : fs[k]? = some f) : (keptB nums k fs).set k (keepAt nums (dcntU (fs.take k)) f) = keptB nums (k + 1) fs := by
  obtain ⟨hk, he⟩ := List.getElem?_eq_some_iff.1 hf
  refine List.ext_getElem? fun j => ?_
  by_cases e : k = j
  · subst e
    rw [List.getElem?_set_self (by rw [keptB_len]; exact hk), keptB_get, if_pos (by omega), hf]
    rfl
  · rw [List.getElem?_set_ne e, keptB_get, keptB_get]
    by_cases h1 : j < k
    · rw [if_pos h1, if_pos (by omega)]
    · rw [if_neg h1, if_neg (by omega)]
theorem keptB_same {nums : List Int} {k : Nat} {fs : List Fl} {f : Fl} (hf : fs[k]? = some f) (hu : keepAt nums (dcntU (fs.take k)) f = f) : keptB nums (k + 1) fs = keptB nums k fs := by
  rw [← keptB_step hf, hu]
  obtain ⟨hk, he⟩ := List.getElem?_eq_some_iff.1 hf
  refine List.ext_getElem? fun j => ?_
  by_cases e : k = j
  · subst e
    rw [List.getElem?_set_self (by rw [keptB_len]; exact hk), keptB_at, hf]
  · rw [List.getElem?_set_ne e]
theorem keptB_end (nums : List Int) (fs : List Fl) : keptB nums fs.length fs = keepB nums 0 fs := by
  unfold keptB
  rw [List.take_of_length_le (by rw [keepB_len]; exact Nat.le_refl _)]
  simp
theorem dcntU_snoc {fs : List Fl} {k : Nat} {f : Fl} (hf : fs[k]? = some f) : dcntU (fs.take (k + 1)) = dcntU (fs.take k) + if f.unsure = 0 then 0 else 1 := by
  obtain ⟨h1, h2⟩ := List.getElem?_eq_some_iff.1 hf
  unfold dcntU
  rw [List.take_succ_eq_append_getElem h1, h2, List.filter_append, List.length_append]
  congr 1
  by_cases h : f.unsure = 0 <;> simp [h]
theorem dcntU_le (fs : List Fl) (k : Nat) : dcntU (fs.take k) ≤ k := by
  unfold dcntU
  have := List.length_filter_le (fun f : Fl => f.unsure != 0) (fs.take k)
  have := List.length_take_le k fs
  omega
/-- Numbers, as cells. -/
def by64 (l : List Int) : List Value := l.map (Value.int .i64)
theorem ShX.num {w : World} {X : Nat → Prop} {A : Option Addr} {n : Nat} {l : List Int} (h : ShX w X A n (by64 l)) {k : Nat} (hk : k < n) :
    ∃ b off, A = some ⟨b, off, none⟩ ∧ w.cell? ⟨b, off + k, none⟩ = some (.int .i64 (l.getD k 0)) := by
  obtain ⟨b, off, e, hb, hc⟩ := h.2 (by omega)
  have hl : k < l.length := by have := h.1; simp [by64] at this; omega
  refine ⟨b, off, e, ?_⟩
  have := hc k (.int .i64 l[k]) (by simp [by64, hl])
  rw [this]
  simp [hl]

section
variable {w : World} {X : Nat → Prop} {g : Nat} {L : Lay} {S : St}
/-- A file keeps its first z bytes, and is sure. -/
theorem Lies.cut {w1 : World} (h : Lies X g L S w w1) {i : Nat} {f : Fl} (hi : S.fs[i]? = some f) {A : Option Addr} {c z : Nat} (hrf : L.row f.blk = .slice A f.data.length c) (hz : z ≤ f.data.length) (hp : 0 < f.data.length) :
    Lies X g (L.up f.blk (.slice A z c)) { S with fs := S.fs.set i { f with data := f.data.take z, unsure := 0 } } w ((w1.setCell ⟨f.blk, 0, none⟩ (.slice A z c)).setCell ⟨f.blk, 1, none⟩ (.int .i64 0)) := by
  have hfa := h.1.fo f (List.mem_of_getElem? hi)
  have hr := hfa.row
  rw [hrf] at hr
  obtain ⟨b, hA⟩ : ∃ b, A = some ⟨b, 0, none⟩ := by
    obtain ⟨g', cap', e, _⟩ := hr.1.form hp
    injection e with e _ _
    exact ⟨g', e⟩
  subst hA
  have hown : Value.ownBlock (.slice (some ⟨b, 0, none⟩) z c) = (L.row f.blk).ownBlock := by rw [hrf]; rfl
  have hstay : ∀ (k : Nat), k ≠ f.blk → ((w1.setCell ⟨f.blk, 0, none⟩ (.slice (some ⟨b, 0, none⟩) z c)).setCell ⟨f.blk, 1, none⟩ (.int .i64 0)).heap[k]? = w1.heap[k]? := fun k hne => (Below.heap_setCell _ _ _ _ hne).trans (Below.heap_setCell _ _ _ _ hne)
  have hr2 := hr.head hz
  rw [by8_take] at hr2
  refine ⟨h.1.file (w' := (w1.setCell ⟨f.blk, 0, none⟩ (.slice (some ⟨b, 0, none⟩) z c)).setCell ⟨f.blk, 1, none⟩ (.int .i64 0)) hi (f' := { f with data := f.data.take z, unsure := 0 }) rfl (v := .slice (some ⟨b, 0, none⟩) z c) (by simp) (fun k _ hk _ => hstay k hk) ((hfa.blk.set 0 _).set 1 _)
    ((hr2.cast (by simp; omega) rfl).stay fun j hj => hstay j (fun e => hr2.ne_blk hfa.blk (by decide) (by rw [hj, e]))) (fun j hj => .inl (by rw [← hown]; exact hj)), ?_⟩
  have hX := hfa.out
  exact (h.2.grown (grown_set w1 f.blk 0 _) h.1.old (fun k hk => by cases hk; exact hX)).grown (grown_set _ f.blk 1 _) (fun b hb => by have := h.1.old b hb; simpa using this) (fun k hk => by cases hk; exact hX)
def St.bytesKept (S : St) (nums : List Int) : St := { S with fs := keepB nums 0 S.fs }
set_option maxRecDepth 10000 in
set_option maxHeartbeats 1600000 in
theorem keepBytes_any (h : DAt w X g L S) (hf : S.fs.length ≤ 100000) (hun : ∀ f ∈ S.fs, f.unsure ≤ 1048576) (hd : ∀ f ∈ S.fs, f.data.length ≤ 1048576) (hnu : ∀ f ∈ S.fs, f.named = true → f.unsure ≤ f.data.length)
    (B : Option Addr) (m c : Nat) (nums : List Int) (hx : ShX w X B m (by64 nums)) (hm : m ≤ 1000000000) :
    Calls Try.prog 52 #[ptrTo g, .slice B m c] w fun e w' => e = .returned (.tuple #[]) ∧ (∃ L', DAt w' X g L' (S.bytesKept nums)) ∧ Keeps X w w' := by
  obtain ⟨A, cc, hfr, _, _⟩ := h.fr.form
  have c1 := h.c1
  rw [hfr] at c1
  obtain ⟨n, hn⟩ : ∃ n, n = S.fs.length := ⟨_, rfl⟩
  rw [← hn] at c1 hf
  have HN := Lib.hid hn.symm
  have HFR := Lib.hid (show L.fr = .slice A n cc by rw [hfr, hn])
  have HL := Lib.hid (⟨h, Keeps.refl X w⟩ : Lies X g L S w w)
  have HX := Lib.hid (fun w' (k : Keeps X w w') => hx.keep k)
  have HU := Lib.hid (fun f hf' => And.intro (hun f hf') (And.intro (hd f hf') (hnu f hf')))
  clear h hx hun hd hnu hn hfr
  unfold ptrTo
  go_enter Try.func52, Try.ntmps52
  go_wp2
  go_loopw [4, 13] (fun x i wr => ∃ (k : Nat) (L' : Lay), k ≤ n ∧ i = .int .i64 k ∧ x = .int .i64 (dcntU (S.fs.take k) : Nat) ∧ Hid (L'.fr = .slice A n cc) ∧ Lies X g L' { S with fs := keptB nums k S.fs } w wr) (fun _ i _ => n - (intOf i).toNat)
  case atStart => exact ⟨0, L, Nat.zero_le _, rfl, rfl, HFR.out, HL.out⟩
  case round =>
    obtain ⟨k, L', hk, rfl, rfl, hf1, hl⟩ := hrel
    by_cases hlt : k < n
    · obtain ⟨b, off, f, rfl, hfk, hcell⟩ := hl.1.ptr hf1.out (by show (keptB nums k S.fs).length = n; rw [keptB_len, HN.out]) hlt
      have hfk' : S.fs[k]? = some f := by rw [← keptB_at (nums := nums)]; exact hfk
      have hcu := dcntU_snoc hfk'
      have hcl := dcntU_le S.fs k
      obtain ⟨q, hq⟩ : ∃ q, q = dcntU (S.fs.take k) := ⟨_, rfl⟩
      rw [← hq] at hcu hcl ⊢
      have HQ := Lib.hid hq
      have HCU := Lib.hid hcu
      have hfa := hl.1.fo f (List.mem_of_getElem? hfk)
      obtain ⟨hu1, hu2, hu3⟩ := HU.out f (List.mem_of_getElem? hfk')
      have m1 := hfa.c1
      have m2 := hfa.c2
      obtain ⟨Af, cf, hrf, _, _⟩ := hfa.row.form
      have m0 := hfa.c0
      rw [hrf] at m0
      have z0 := hfa.blk.nf 0
      have z1 := hfa.blk.nf 1
      have HL1 := Lib.hid hl
      have HFK := Lib.hid hfk
      have HFK' := Lib.hid hfk'
      have HX1 := Lib.hid (HX.out wr hl.2)
      have HRF := Lib.hid hrf
      have HFA := Lib.hid hfa
      have HU3 := Lib.hid hu3
      clear hl hfk hfk' hq hcu hfa hrf hu3
      unfold ptrTo at *
      obtain ⟨fb, fd, fu, fn⟩ := f
      simp only at m0 m1 m2 z0 z1 hu1 hu2
      by_cases hu0 : fu = 0
      · subst hu0
        go_wp2
        go_roundw
        case rel =>
          refine ⟨k + 1, L', by omega, by go_num, ?_, hf1, by rw [keptB_same HFK'.out (by unfold keepAt; rfl)]; exact HL1.out⟩
          rw [HCU.out]
          rfl
        case measure => simp [intOf]; omega
      · have hne : ((fu : Int) == 0) = false := by simp; omega
        have hnu : Hid (¬ fu = 0) := Lib.hid hu0
        obtain ⟨y, hy⟩ : ∃ y, y = withinN (nums.getD q 0) fu := ⟨_, rfl⟩
        have hyle : y ≤ fu := by rw [hy]; exact within_le _ _
        have HY := Lib.hid hy
        clear hy
        by_cases hqm : q < m
        · obtain ⟨bx, ox, rfl, hnum⟩ := HX1.out.num hqm
          have HW := Lib.hid (fun w => within_any (nums.getD q 0) fu w)
          rw [← HY.out] at HW
          cases fn with
          | true =>
            go_wp2
            go_quiet ((go_at_call 50; exact Calls.quiet_of_same ((HW.out _).mono fun e w' ⟨h1, h2⟩ => ⟨h1, h2.symm⟩)))
            go_wp2
            have hz : ∃ z : Nat, (z : Int) = (fd.length : Int) - (fu : Int) + (y : Int) ∧ z ≤ fd.length := ⟨fd.length - fu + y, by have := HU3.out trivial; omega, by have := HU3.out trivial; omega⟩
            obtain ⟨z, hz, hzl⟩ := hz
            have hw1 : IntKind.i64.wrap ((fd.length : Int) - (fu : Int)) = (fd.length : Int) - (fu : Int) := IntWalk.i64_in _ (by omega)
            have hw2 : IntKind.i64.wrap ((fd.length : Int) - (fu : Int) + (y : Int)) = (z : Int) := by rw [← hz]; exact IntWalk.i64_in _ (by omega)
            have HZ := Lib.hid hz
            clear hz
            obtain ⟨w2, hw2⟩ : ∃ w2, w2 = wr.drewN nq := ⟨_, rfl⟩
            rw [← hw2]
            have n0 : w2.cell? ⟨fb, 0, none⟩ = some (.slice Af fd.length cf) := by rw [hw2]; exact m0
            have n1 : w2.cell? ⟨fb, 1, none⟩ = some (.int .i64 (fu : Int)) := by rw [hw2]; exact m1
            have y0 : w2.frozen? ⟨fb, 0, none⟩ = false := by rw [hw2]; exact z0
            have y1 : w2.frozen? ⟨fb, 1, none⟩ = false := by rw [hw2]; exact z1
            have HLW := Lib.hid (show Lies X g L' { S with fs := keptB nums k S.fs } w w2 by rw [hw2]; exact ⟨HL1.out.1.drewN _, HL1.out.2.quiet ⟨_, rfl⟩⟩)
            clear hw2
            go_region
            go_wp2
            go_roundw
            case rel =>
              have hcut := (HLW.out).cut HFK.out HRF.out hzl (by have := HU3.out trivial; have h2 := hnu.out; show 0 < fd.length; have h3 : fu ≤ fd.length := this; omega)
              refine ⟨k + 1, L'.up fb (.slice Af z cf), by omega, by go_num, ?_, hf1, ?_⟩
              · rw [HCU.out]
                simp [hnu.out]
              · have e := keptB_step (nums := nums) HFK'.out
                have e2 : keepAt nums (dcntU (S.fs.take k)) ⟨fb, fd, fu, true⟩ = ⟨fb, fd.take z, 0, true⟩ := by
                  unfold keepAt
                  rw [if_neg hnu.out, if_pos rfl, ← HQ.out]
                  simp only [Fl.mk.injEq, true_and, and_true]
                  congr 1
                  have := HZ.out
                  have := HY.out
                  have h3 : fu ≤ fd.length := HU3.out trivial
                  show fd.length - fu + withinN (nums.getD q 0) fu = z
                  omega
                rw [e2] at e
                rw [← e]
                exact hcut.drew
            case measure => simp [intOf]; omega
          | false =>
            go_wp2
            go_quiet ((go_at_call 50; exact Calls.quiet_of_same ((HW.out _).mono fun e w' ⟨h1, h2⟩ => ⟨h1, h2.symm⟩)))
            go_wp2
            go_roundw
            case rel => 
              refine ⟨k + 1, L', by omega, by go_num, ?_, hf1, by rw [keptB_same HFK'.out (by unfold keepAt; rw [if_neg hnu.out]; rfl)]; exact ⟨HL1.out.1.drewN _, HL1.out.2.quiet ⟨_, rfl⟩⟩⟩
              rw [HCU.out]
              simp [hnu.out]
            case measure => simp [intOf]; omega
        · have hg0 : nums.getD q 0 = 0 := by
            have hlen : nums.length = m := by have := HX1.out.1; simpa [by64] using this
            rw [List.getD_eq_getElem?_getD, List.getElem?_eq_none (by omega)]
            rfl
          obtain rfl : y = 0 := by rw [HY.out, hg0]; unfold withinN; omega
          clear hg0
          cases fn with
          | true =>
            go_wp2
            have hz : ∃ z : Nat, (z : Int) = (fd.length : Int) - (fu : Int) ∧ z ≤ fd.length := ⟨fd.length - fu, by have := HU3.out trivial; omega, by have := HU3.out trivial; omega⟩
            obtain ⟨z, hz, hzl⟩ := hz
            have hw1 : IntKind.i64.wrap ((fd.length : Int) - (fu : Int)) = (z : Int) := by rw [← hz]; exact IntWalk.i64_in _ (by omega)
            have hw2 : IntKind.i64.wrap (z : Int) = (z : Int) := IntWalk.i64_in _ (by omega)
            have HZ := Lib.hid hz
            clear hz
            obtain ⟨w2, hw2⟩ : ∃ w2, w2 = wr := ⟨_, rfl⟩
            rw [← hw2]
            have n0 : w2.cell? ⟨fb, 0, none⟩ = some (.slice Af fd.length cf) := by rw [hw2]; exact m0
            have n1 : w2.cell? ⟨fb, 1, none⟩ = some (.int .i64 (fu : Int)) := by rw [hw2]; exact m1
            have y0 : w2.frozen? ⟨fb, 0, none⟩ = false := by rw [hw2]; exact z0
            have y1 : w2.frozen? ⟨fb, 1, none⟩ = false := by rw [hw2]; exact z1
            have HLW := Lib.hid (show Lies X g L' { S with fs := keptB nums k S.fs } w w2 by rw [hw2]; exact HL1.out)
            clear hw2
            go_region
            go_wp2
            go_roundw
            case rel =>
              have hcut := (HLW.out).cut HFK.out HRF.out hzl (by have := HU3.out trivial; have h2 := hnu.out; show 0 < fd.length; have h3 : fu ≤ fd.length := this; omega)
              refine ⟨k + 1, L'.up fb (.slice Af z cf), by omega, by go_num, ?_, hf1, ?_⟩
              · rw [HCU.out]
                simp [hnu.out]
              · have e := keptB_step (nums := nums) HFK'.out
                have e2 : keepAt nums (dcntU (S.fs.take k)) ⟨fb, fd, fu, true⟩ = ⟨fb, fd.take z, 0, true⟩ := by
                  unfold keepAt
                  rw [if_neg hnu.out, if_pos rfl, ← HQ.out]
                  simp only [Fl.mk.injEq, true_and, and_true]
                  congr 1
                  have := HZ.out
                  have := HY.out
                  have h3 : fu ≤ fd.length := HU3.out trivial
                  show fd.length - fu + withinN (nums.getD q 0) fu = z
                  omega
                rw [e2] at e
                rw [← e]
                exact hcut.drew
            case measure => simp [intOf]; omega
          | false =>
            go_wp2
            go_roundw
            case rel => 
              refine ⟨k + 1, L', by omega, by go_num, ?_, hf1, by rw [keptB_same HFK'.out (by unfold keepAt; rw [if_neg hnu.out]; rfl)]; exact HL1.out⟩
              rw [HCU.out]
              simp [hnu.out]
            case measure => simp [intOf]; omega
    · obtain rfl : k = n := by omega
      have hk2 := hl.2
      have hd2 := hl.1
      have e : keptB nums k S.fs = keepB nums 0 S.fs := by rw [← HN.out, keptB_end]
      rw [e] at hd2
      have HD2 := Lib.hid hd2
      clear hl hd2 e
      go_wp2
      go_end0
      exact ⟨rfl, ⟨L', HD2.out⟩, hk2⟩
end
end Go.Proofs.Ytekhockdgglndaa
namespace Go.Proofs.Ytekhockdgglndaa
set_option linter.unusedVariables false
set_option linter.unusedSimpArgs false
open Go.RowKit Go.Maps

/-- Turns that can be done, one behind the other, and names that are never too many. -/
def Good : List Tn → NL → Prop
  | [], N => N.length ≤ 64
  | t :: r, N => N.length ≤ 64 ∧ t.ok N ∧ Good r (t.act N)
theorem acts_cons (t : Tn) (r : List Tn) (N : NL) : acts (t :: r) N = acts r (t.act N) := rfl
theorem acts_snoc {l : List Tn} {k : Nat} {t : Tn} (h : l[k]? = some t) (N : NL) : acts (l.take (k + 1)) N = t.act (acts (l.take k) N) := by
  obtain ⟨h1, h2⟩ := List.getElem?_eq_some_iff.1 h
  rw [List.take_succ_eq_append_getElem h1, h2]
  unfold acts
  rw [List.foldl_append]
  rfl
theorem Good.len : ∀ {l : List Tn} {N : NL}, Good l N → N.length ≤ 64
  | [], _, h => h
  | _ :: _, _, h => h.1
theorem Good.at : ∀ {l : List Tn} {N : NL}, Good l N → ∀ {k : Nat}, k ≤ l.length → (acts (l.take k) N).length ≤ 64 ∧ ∀ t, l[k]? = some t → t.ok (acts (l.take k) N)
  | [], N, h, k, hk => by
    have : k = 0 := by simpa using hk
    subst this
    exact ⟨h, fun t ht => by cases ht⟩
  | t :: r, N, h, 0, hk => ⟨h.1, fun t' ht => by
    simp at ht
    subst ht
    exact h.2.1⟩
  | t :: r, N, h, k + 1, hk => by
    have := Good.at h.2.2 (k := k) (by simpa using hk)
    rw [List.take_succ_cons, acts_cons]
    exact ⟨this.1, fun t' ht => this.2 t' (by simpa using ht)⟩
/-- Each name is a file's whose unsure bytes are there. -/
def Sound (N : NL) (fs : List Fl) : Prop := ∀ p ∈ N, ∃ f ∈ fs, f.blk = p.2 ∧ f.unsure ≤ f.data.length
theorem Sound.closed {N : NL} {fs : List Fl} (h : Sound N fs) : Closed N fs := fun p hp => by
  obtain ⟨f, h1, h2, _⟩ := h p hp
  exact ⟨f, h1, h2⟩

def St.boot (S : St) (turns : Int) (nums : List Int) : St × Int :=
  if S.dead = true then
    ({ (({ S with names := acts (S.waits.take (withinN turns S.waits.length)) S.sure } : St).keptNames.bytesKept nums) with
        fs := keep goneBoot (({ S with names := acts (S.waits.take (withinN turns S.waits.length)) S.sure } : St).keptNames.bytesKept nums).fs, fuse := 0, fault := 0, dead := false }, 0)
  else (S, 1)

section
variable {w : World} {X : Nat → Prop} {g : Nat} {L : Lay} {S : St}
/-- The closure of the k-th turn. -/
theorem DAt.turn (h : DAt w X g L S) {A : Option Addr} {n c : Nat} (hw : L.wr = .slice A n c) (hn : S.waits.length = n) {k : Nat} (hk : k < n) :
    ∃ b off v t, A = some ⟨b, off, none⟩ ∧ S.waits[k]? = some t ∧ w.cell? ⟨b, off + k, none⟩ = some v ∧ TurnAt w X L.fr v t := by
  subst hn
  obtain ⟨vs, hr, ht⟩ := h.wr
  rw [hw] at hr
  obtain ⟨b, off, u, e, _, hu, hc⟩ := hr.sh.at hk
  obtain ⟨v, t, h1, h2, h3⟩ := ht.at hk
  rw [hu] at h1
  cases h1
  exact ⟨b, off, u, t, e, h2, hc, h3⟩
/-- The names are a new map. -/
theorem Lies.names {w1 : World} (h : Lies X g L S w w1) {nm : Nat} {N : NL} (hs : NamesAt w1 nm N) (hX : ¬ X nm) (hne : nm ≠ L.sm) :
    Lies X g { L with nm := nm } { S with names := N } w (w1.setCell ⟨g, 2, none⟩ (.map (some nm))) := by
  have hgs : nm ≠ g := hs.ne_blk h.1.cells
  have hgn : L.sm ≠ g := h.1.sm.ne_blk h.1.cells
  refine ⟨h.1.maps (w' := w1.setCell ⟨g, 2, none⟩ (.map (some nm))) (N := N) (M := S.sure) (nm := nm) (sm := L.sm) (by simp) (fun k _ hk => Below.heap_setCell _ _ _ _ hk) (h.1.cells.set 2 (.map (some nm)))
    (hs.stay (Below.heap_setCell _ _ _ _ hgs)) hX (h.1.sm.stay (Below.heap_setCell _ _ _ _ hgn)) h.1.smX hne, h.2.grown (grown_set w1 g 2 _) h.1.old (fun k hk => by cases hk; exact h.1.gX)⟩
theorem boot_copy (h : DAt w X g L S) {w1 : World} (hn : NamesAt w1 w.heap.size S.sure) (hb : Below w.heap.size w w1) :
    w1.cell? ⟨g, 2, none⟩ = some (.map (some L.nm)) ∧ w1.frozen? ⟨g, 2, none⟩ = false ∧ Lies X g { L with nm := w.heap.size } { S with names := S.sure } w (w1.setCell ⟨g, 2, none⟩ (.map (some w.heap.size))) := by
  have hl : Lies X g L S w w := ⟨h, Keeps.refl _ _⟩
  have h1 := hl.below hb
  have hnX : ¬ X w.heap.size := fun hx => by have := h.old _ hx; omega
  have hlt := h.sm.lt
  exact ⟨h1.1.c2, h1.1.cells.nf 2, h1.names hn hnX (by omega)⟩
/-- A turn is done on the names. -/
theorem Lies.acted {w1 w2 : World} (h : Lies X g L S w w1) {t : Tn} (hn : NamesAt w2 L.nm (t.act S.names)) (hg : w1.grownBy w2 (some L.nm)) : Lies X g L { S with names := t.act S.names } w w2 :=
  ⟨h.1.names hg hn, h.2.grown hg h.1.old (fun k hk => by cases hk; exact h.1.nmX)⟩
/-- The power is on. -/
theorem Lies.on {w1 : World} (h : Lies X g L S w w1) : Lies X g L { S with fuse := 0, fault := 0, dead := false } w (((w1.setCell ⟨g, 6, none⟩ (.int .i64 0)).setCell ⟨g, 7, none⟩ (.int .i64 0)).setCell ⟨g, 9, none⟩ (.bool false)) := by
  have h1 := h.1.setg (S' := { S with fuse := 0 }) 6 (.int .i64 0) rfl rfl rfl rfl rfl
  have h2 := h1.setg (S' := { S with fuse := 0, fault := 0 }) 7 (.int .i64 0) rfl rfl rfl rfl rfl
  have h3 := h2.setg (S' := { S with fuse := 0, fault := 0, dead := false }) 9 (.bool false) rfl rfl rfl rfl rfl
  exact ⟨h3, ((h.2.grown (grown_set w1 g 6 _) h.1.old (fun k hk => by cases hk; exact h.1.gX)).grown (grown_set _ g 7 _) h1.old (fun k hk => by cases hk; exact h.1.gX)).grown (grown_set _ g 9 _) h2.old (fun k hk => by cases hk; exact h.1.gX)⟩

theorem boot_alive (h : DAt w X g L S) (hd : S.dead = false) (n : Int) (v : Value) : Calls Try.prog 21 #[ptrTo g, .int .i64 n, v] w fun e w' => e = .returned (.int .i64 1) ∧ w = w' := by
  have c9 := h.c9
  rw [hd] at c9
  clear h hd
  unfold ptrTo
  go_enter Try.func21, Try.ntmps21
  go_wp2
  go_ret
  exact ⟨rfl, rfl⟩
end
end Go.Proofs.Ytekhockdgglndaa
namespace Go.Proofs.Ytekhockdgglndaa
set_option linter.unusedVariables false
set_option linter.unusedSimpArgs false
open Go.RowKit Go.Maps

section
variable {w : World} {X : Nat → Prop} {g : Nat} {L : Lay} {S : St}
/-- The disk while turns are done again. -/
def bst (S : St) (N : NL) : St := { S with names := N }
theorem boot_turn {L1 : Lay} {N : NL} {wr : World} (h : Lies X g L1 (bst S N) w wr) {A : Option Addr} {n c : Nat} (hw : L1.wr = .slice A n c) (hn : S.waits.length = n) {k : Nat} (hk : k < n) (hlen : N.length ≤ 64) (hok : ∀ t, S.waits[k]? = some t → t.ok N) :
    ∃ b off t f caps, A = some ⟨b, off, none⟩ ∧ S.waits[k]? = some t ∧ wr.cell? ⟨b, off + k, none⟩ = some (.func (.func f) #[] caps) ∧ Calls Try.prog f (#[.map (some L1.nm)] ++ caps) wr (Turns wr L1.nm N t) ∧
      ((f = 47 ∧ ∃ p q, caps = #[ptrTo p, ptrTo q]) ∨ (f = 60 ∧ ∃ p q, caps = #[ptrTo p, ptrTo q]) ∨ (f = 49 ∧ ∃ p, caps = #[ptrTo p])) := by
  obtain ⟨b, off, v, t, e, ht, hc, hta⟩ := h.1.turn hw hn hk
  have ht' : S.waits[k]? = some t := ht
  have hnm : NamesAt wr L1.nm N := h.1.nm
  cases t with
  | create k1 b1 =>
    obtain ⟨p, q, s, hv, ⟨hp, _⟩, ⟨hq, _⟩, hk1, hs⟩ := hta
    subst hv
    refine ⟨b, off, _, _, _, e, ht', hc, ?_, .inl ⟨rfl, p, q, rfl⟩⟩
    rw [← hk1]
    exact create1_any L1.nm p q b1 s N wr hnm hp hq hs (by omega)
  | rename k1 m1 =>
    obtain ⟨p, q, s, r, hv, ⟨hp, _⟩, ⟨hq, _⟩, hk1, hs, hm1, hr⟩ := hta
    subst hv
    obtain ⟨b1, hb1⟩ := hok _ ht'
    refine ⟨b, off, _, _, _, e, ht', hc, ?_, .inr (.inl ⟨rfl, p, q, rfl⟩)⟩
    have ea : Tn.act (.rename k1 m1) N = nput m1 b1 (ndel k1 N) := by simp only [Tn.act, hb1]
    show Calls Try.prog _ _ wr (Turns wr L1.nm N (.rename k1 m1))
    unfold Turns
    rw [ea, ← hk1, ← hm1]
    exact rename1_any L1.nm p q b1 s r N wr hnm hp hq hs hr (by rw [hk1]; exact hb1) (by omega)
  | remove k1 =>
    obtain ⟨p, s, hv, ⟨hp, _⟩, hk1, hs⟩ := hta
    subst hv
    refine ⟨b, off, _, _, _, e, ht', hc, ?_, .inr (.inr ⟨rfl, p, rfl⟩)⟩
    rw [← hk1]
    exact remove1_any L1.nm p s N wr hnm hp hs

theorem boot_delete (h : DAt w X g L S) (hf : S.fs.length ≤ 100000) :
    ∃ A n c m, w.cell? ⟨g, 1, none⟩ = some (.slice A n c) ∧
      Calls Try.prog 53 #[.slice A n c, .func (.func 54) #[] #[]] w (fun e w' => e = .returned (.slice A m c) ∧ Row w' X 62 (.slice A m c) m (ptrs (keep goneBoot S.fs)) ∧ w.grownBy w' (Value.ownBlock (.slice A n c))) ∧
      ∀ w1, Row w1 X 62 (.slice A m c) m (ptrs (keep goneBoot S.fs)) → w.grownBy w1 (Value.ownBlock (.slice A n c)) → w1.cell? ⟨g, 1, none⟩ = some (.slice A n c) ∧ w1.frozen? ⟨g, 1, none⟩ = false ∧
        w1.cell? ⟨g, 6, none⟩ = some (.int .i64 (S.fuse : Int)) ∧ w1.cell? ⟨g, 7, none⟩ = some (.int .i64 (S.fault : Int)) ∧ w1.cell? ⟨g, 9, none⟩ = some (.bool S.dead) ∧ w1.frozen? ⟨g, 6, none⟩ = false ∧ w1.frozen? ⟨g, 7, none⟩ = false ∧ w1.frozen? ⟨g, 9, none⟩ = false ∧
        Lies X g { L with fr := .slice A m c } { S with fs := keep goneBoot S.fs, fuse := 0, fault := 0, dead := false } w ((((w1.setCell ⟨g, 1, none⟩ (.slice A m c)).setCell ⟨g, 6, none⟩ (.int .i64 0)).setCell ⟨g, 7, none⟩ (.int .i64 0)).setCell ⟨g, 9, none⟩ (.bool false)) := by
  obtain ⟨A, cc, hfr, _, _⟩ := h.fr.form
  have c1 := h.c1
  rw [hfr] at c1
  have hrow := h.fr
  rw [hfr] at hrow
  have hreads := h.reads
  rw [hfr] at hreads
  refine ⟨A, S.fs.length, cc, (keep goneBoot S.fs).length, c1, delete_any 54 (.inr rfl) goneBoot A S.fs.length cc S.fs w X (by omega) hrow hreads (fun f hf w hr => test_boot f w hr), fun w1 hr hg => ?_⟩
  obtain ⟨h1, h2, h3⟩ := delete_close h hfr goneBoot rfl hr hg
  have hg' := hg
  rw [← hfr] at hg'
  have hc1 : Blk w1 g 61 (cellsOf L S) := h.cells.keep hg' (fun e => h.fr.ne_blk h.cells (by decide) e)
  exact ⟨h1, h2, hc1.cell 6, hc1.cell 7, hc1.cell 9, hc1.nf 6, hc1.nf 7, hc1.nf 9, h3.on⟩
set_option maxRecDepth 10000 in
set_option maxHeartbeats 3200000 in
theorem boot_any (h : DAt w X g L S) (hdd : S.dead = true) (hf : S.fs.length ≤ 100000) (hwl : S.waits.length ≤ 100000) (hun : ∀ f ∈ S.fs, f.unsure ≤ 1048576) (hda : ∀ f ∈ S.fs, f.data.length ≤ 1048576)
    (hgood : Good S.waits S.sure) (hsound : ∀ k, k ≤ S.waits.length → Sound (acts (S.waits.take k) S.sure) S.fs) (turns : Int) (B : Option Addr) (m c : Nat) (nums : List Int) (hx : ShX w X B m (by64 nums)) (hm : m ≤ 1000000000) :
    Calls Try.prog 21 #[ptrTo g, .int .i64 turns, .slice B m c] w fun e w' => e = .returned (.int .i64 (S.boot turns nums).2) ∧ (∃ L', DAt w' X g L' (S.boot turns nums).1) ∧ Keeps X w w' := by
  obtain ⟨A, cc, hwr, hcc, hcm⟩ := h.wr.choose_spec.1.form
  obtain ⟨n, hn⟩ : ∃ n, n = S.waits.length := ⟨_, rfl⟩
  rw [← hn] at hwr hcc hwl
  obtain ⟨r, hr⟩ : ∃ r, r = withinN turns n := ⟨_, rfl⟩
  have hrn : r ≤ n := by rw [hr]; exact within_le _ _
  obtain ⟨N0, hN0⟩ : ∃ N0, N0 = acts (S.waits.take r) S.sure := ⟨_, rfl⟩
  have HS := Lib.hid (show S.boot turns nums = ({ ((bst S N0).keptNames.bytesKept nums) with fs := keep goneBoot ((bst S N0).keptNames.bytesKept nums).fs, fuse := 0, fault := 0, dead := false }, 0) by
    unfold St.boot
    rw [if_pos hdd, ← hn, ← hr, ← hN0]
    rfl)
  have c9 := h.c9
  rw [hdd] at c9
  have c3 := h.c3
  have hsl : S.sure.length ≤ 64 := hgood.len
  have HCP := Lib.hid (copied_any L.sm S.sure w h.sm (by omega))
  have HBC := Lib.hid (fun w1 (hn : NamesAt w1 w.heap.size S.sure) (hb : Below w.heap.size w w1) => boot_copy h hn hb)
  obtain ⟨L1, hL1⟩ : ∃ L1 : Lay, L1 = { L with nm := w.heap.size } := ⟨_, rfl⟩
  rw [← hL1] at HBC
  have HWR := Lib.hid (show L1.wr = .slice A n cc by rw [hL1]; exact hwr)
  have HWN := Lib.hid (fun w => within_any turns n w)
  rw [← hr] at HWN
  have HXK := Lib.hid (fun w' (k : Keeps X w w') => hx.keep k)
  have HN := Lib.hid hn.symm
  have HG := Lib.hid (fun k (hk : k ≤ n) => hgood.at (k := k) (by rw [← hn]; exact hk))
  have HSO := Lib.hid (hsound r (by rw [← hn]; exact hrn))
  rw [← hN0] at HSO
  have HN0 := Lib.hid hN0
  have HF := Lib.hid (And.intro hf (And.intro hun hda))
  have hwr1 : ∀ w1, Lies X g L1 (bst S S.sure) w w1 → w1.cell? ⟨g, 4, none⟩ = some (.slice A n cc) := fun w1 hl => hl.1.c4.trans (congrArg some HWR.out)
  have HW4 := Lib.hid hwr1
  clear h hdd hf hun hda hgood hsound hx hwr hn hr hN0 hL1 hwr1
  unfold ptrTo
  go_enter Try.func21, Try.ntmps21
  go_wp2_with (first
    | (go_at_call 24; refine HCP.out.mono ?_; rintro e w1 ⟨rfl, h1, hb1⟩; obtain ⟨k2, z2, hl⟩ := HBC.out w1 h1 hb1; have HL := Lib.hid hl; clear hl h1 hb1)
    | go_in)
  obtain ⟨w2, hw2⟩ : ∃ w2, w2 = w1.setCell ⟨g, 2, none⟩ (.map (some w.heap.size)) := ⟨_, rfl⟩
  rw [← hw2] at HL ⊢
  have k4 := HW4.out w2 HL.out
  have hc2n : n ≤ 100000 := hwl
  clear hw2 k2 z2
  go_quiet ((go_at_call 50; exact Calls.quiet_of_same ((HWN.out _).mono fun e w' ⟨h1, h2⟩ => ⟨h1, h2.symm⟩)))
  have HLQ := Lib.hid (show Lies X g L1 (bst S S.sure) w (w2.drewN nq) from ⟨HL.out.1.drewN nq, HL.out.2.quiet ⟨nq, rfl⟩⟩)
  go_wp2
  go_loopw [39] (fun i wr => ∃ k : Nat, k ≤ r ∧ i = .int .i64 k ∧ Lies X g L1 (bst S (acts (S.waits.take k) S.sure)) w wr) (fun i _ => r - (intOf i).toNat)
  case atStart => exact ⟨0, Nat.zero_le _, rfl, HLQ.out⟩
  case round =>
    obtain ⟨k, hk, rfl, hl⟩ := hrel
    by_cases hlt : k < r
    · obtain ⟨hlen, hok⟩ := HG.out k (by omega)
      obtain ⟨b, off, t, f, caps, rfl, ht, hcell, hcall, hcase⟩ := boot_turn hl HWR.out HN.out (by omega) hlen hok
      have c2 := hl.1.c2
      have HT := Lib.hid (acts_snoc ht S.sure)
      have HC := Lib.hid hcall
      have HL1 := Lib.hid hl
      clear hl ht hcall hok
      rcases hcase with ⟨rfl, p, q, rfl⟩ | ⟨rfl, p, q, rfl⟩ | ⟨rfl, p, rfl⟩
      all_goals
        unfold ptrTo at *
        go_wp2_with (first
          | (go_at_call 47; refine HC.out.mono ?_; rintro e w3 ⟨rfl, h3, hg3⟩; have HA := Lib.hid (HL1.out.acted h3 hg3); clear h3 hg3)
          | (go_at_call 60; refine HC.out.mono ?_; rintro e w3 ⟨rfl, h3, hg3⟩; have HA := Lib.hid (HL1.out.acted h3 hg3); clear h3 hg3)
          | (go_at_call 49; refine HC.out.mono ?_; rintro e w3 ⟨rfl, h3, hg3⟩; have HA := Lib.hid (HL1.out.acted h3 hg3); clear h3 hg3)
          | go_in)
        go_roundw
        case rel => exact ⟨k + 1, by omega, by go_num, by rw [HT.out]; exact HA.out⟩
        case measure => simp [intOf]; omega
    · obtain rfl : k = r := by omega
      have hl2 : Lies X g L1 (bst S N0) w wr := by rw [HN0.out]; exact hl
      obtain ⟨hlen, _⟩ := HG.out k (by omega)
      rw [← HN0.out] at hlen
      obtain ⟨hf, hun, hda⟩ := HF.out
      have HKN := Lib.hid (keepNames_any hl2.1 HSO.out.closed (by show N0.length ≤ 1000; omega) hf)
      have HKK := Lib.hid hl2.2
      have hfs : ∀ f ∈ (bst S N0).keptNames.fs, ∃ f0 ∈ S.fs, f = { f0 with named := N0.any fun p => p.2 == f0.blk } := fun f hf' => by
        obtain ⟨f0, h0, h1⟩ := List.mem_map.1 hf'
        exact ⟨f0, h0, h1.symm⟩
      have hkl : (bst S N0).keptNames.fs.length = S.fs.length := by show (marked N0 S.fs).length = _; unfold marked; rw [List.length_map]
      have hun1 : ∀ f ∈ (bst S N0).keptNames.fs, f.unsure ≤ 1048576 := fun f hf' => by
        obtain ⟨f0, h0, rfl⟩ := hfs f hf'
        exact hun f0 h0
      have hda1 : ∀ f ∈ (bst S N0).keptNames.fs, f.data.length ≤ 1048576 := fun f hf' => by
        obtain ⟨f0, h0, rfl⟩ := hfs f hf'
        exact hda f0 h0
      have hnu1 : ∀ f ∈ (bst S N0).keptNames.fs, f.named = true → f.unsure ≤ f.data.length := fun f hf' hnm => by
        obtain ⟨f0, h0, rfl⟩ := hfs f hf'
        obtain ⟨p, hp, hpe⟩ := List.any_eq_true.1 hnm
        obtain ⟨f1, h1, h2, h3⟩ := HSO.out p hp
        have hfb : f1.blk = f0.blk := by rw [h2]; simpa using hpe
        have e1 := find_blk hl2.1.nd h1
        have e0 := find_blk hl2.1.nd h0
        rw [hfb] at e1
        rw [e1] at e0
        cases e0
        exact h3
      have HKB := Lib.hid (fun w3 L3 (D3 : DAt w3 X g L3 (bst S N0).keptNames) (K3 : Keeps X w w3) => keepBytes_any D3 (by omega) hun1 hda1 hnu1 B m c nums (HXK.out w3 K3) hm)
      have hkb : ∀ f ∈ ((bst S N0).keptNames.bytesKept nums).fs, f.unsure ≤ 1048576 := fun f hf' => by
        obtain ⟨j, hj⟩ := List.getElem?_of_mem hf'
        have hj' : (keepB nums 0 (bst S N0).keptNames.fs)[j]? = some f := hj
        rw [keepB_at] at hj'
        obtain ⟨f0, h0, h1⟩ := Option.map_eq_some_iff.1 hj'
        have h2 := hun1 f0 (List.mem_of_getElem? h0)
        rw [← h1]
        unfold keepAt
        split
        · exact h2
        · split
          · exact Nat.zero_le _
          · exact h2
      have HDL := Lib.hid (fun w4 L4 (D4 : DAt w4 X g L4 ((bst S N0).keptNames.bytesKept nums)) => boot_delete D4 (by show (keepB nums 0 _).length ≤ 100000; rw [keepB_len, hkl]; exact hf))
      clear hl hl2 hfs hun1 hda1 hnu1 hkb hf hun hda hlen
      unfold ptrTo at *
      go_wp2_with (first
        | (go_at_call 51; refine HKN.out.mono ?_; rintro e w3 ⟨rfl, ⟨L3, D3⟩, K3⟩; have K3 := HKK.out.trans K3; have HKB3 := Lib.hid (HKB.out w3 L3 D3 K3); have HK3 := Lib.hid K3; clear D3 K3)
        | (go_at_call 52; refine HKB3.out.mono ?_; rintro e w4 ⟨rfl, ⟨L4, D4⟩, K4⟩; have HK4 := Lib.hid (HK3.out.trans K4); obtain ⟨A4, n4, c4, m4, d1, hdc, hcl4⟩ := HDL.out w4 L4 D4; have HDC := Lib.hid hdc; have HCL4 := Lib.hid hcl4; clear D4 K4 hdc hcl4)
        | (go_at_call 53; refine HDC.out.mono ?_; rintro e w5 ⟨rfl, hr5, hg5⟩; obtain ⟨d5, z5, q6, q7, q9, y6, y7, y9, hfin⟩ := HCL4.out w5 hr5 hg5; have HFIN := Lib.hid hfin; clear hr5 hg5 hfin)
        | go_in)
      go_ret
      exact ⟨ret_int64 (by rw [HS.out]), by rw [HS.out]; exact ⟨_, HFIN.out.1⟩, HK4.out.trans HFIN.out.2⟩
end
end Go.Proofs.Ytekhockdgglndaa
namespace Go.Proofs.Ytekhockdgglndaa
set_option linter.unusedVariables false
set_option linter.unusedSimpArgs false
open Go.RowKit Go.Maps

/-- A file that is handed in: its name and its bytes. -/
structure FIn where
  s : ByteArray
  d : List Int
/-- The slice shows the files l; all of it lies below U. -/
def InAt (w : World) (U : Nat) (A : Option Addr) (n : Nat) (l : List FIn) : Prop :=
  l.length = n ∧ ∀ k f, l[k]? = some f → ∃ b off D c, A = some ⟨b, off, none⟩ ∧ b < U ∧ w.cell? ⟨b, off + k * 2, none⟩ = some (.string f.s) ∧ w.cell? ⟨b, off + k * 2 + 1, none⟩ = some (.slice D f.d.length c) ∧ Sh w U D f.d.length (by8 f.d) ∧ f.s.size ≤ maxLen ∧ f.d.length ≤ maxLen
theorem InAt.below {w w' : World} {U : Nat} {A : Option Addr} {n : Nat} {l : List FIn} (h : InAt w U A n l) (hb : Below U w w') : InAt w' U A n l :=
  ⟨h.1, fun k f hf => by
    obtain ⟨b, off, D, c, e, hU, h1, h2, h3, h4⟩ := h.2 k f hf
    exact ⟨b, off, D, c, e, hU, (hb.cell (p := ⟨b, off + k * 2, none⟩) hU).trans h1, (hb.cell (p := ⟨b, off + k * 2 + 1, none⟩) hU).trans h2, h3.below hb, h4⟩⟩
theorem InAt.at {w : World} {U : Nat} {A : Option Addr} {n : Nat} {l : List FIn} (h : InAt w U A n l) {k : Nat} (hk : k < n) :
    ∃ b off D c f, l[k]? = some f ∧ A = some ⟨b, off, none⟩ ∧ b < U ∧ w.cell? ⟨b, off + k * 2, none⟩ = some (.string f.s) ∧ w.cell? ⟨b, off + k * 2 + 1, none⟩ = some (.slice D f.d.length c) ∧ Sh w U D f.d.length (by8 f.d) ∧ f.s.size ≤ maxLen ∧ f.d.length ≤ maxLen := by
  have hl : k < l.length := by rw [h.1]; exact hk
  obtain ⟨b, off, D, c, r⟩ := h.2 k l[k] (List.getElem?_eq_getElem hl)
  exact ⟨b, off, D, c, l[k], List.getElem?_eq_getElem hl, r⟩
def sizeF (l : List FIn) : Nat := (l.map fun f => f.d.length).sum
theorem sizeF_snoc {l : List FIn} {k : Nat} {f : FIn} (h : l[k]? = some f) : sizeF (l.take (k + 1)) = sizeF (l.take k) + f.d.length := by
  obtain ⟨h1, h2⟩ := List.getElem?_eq_some_iff.1 h
  unfold sizeF
  rw [List.take_succ_eq_append_getElem h1, h2, List.map_append, List.sum_append]
  simp
theorem sizeF_le (l : List FIn) (k : Nat) : sizeF (l.take k) ≤ sizeF l := by
  have h : l = l.take k ++ l.drop k := (List.take_append_drop k l).symm
  have : sizeF l = sizeF (l.take k) + sizeF (l.drop k) := by
    unfold sizeF
    rw [← List.sum_append, ← List.map_append, List.take_append_drop]
  omega
def fitsB (l : List FIn) (cap : Int) : Bool := decide (0 ≤ cap ∧ cap ≤ 1048576 ∧ l.length ≤ 64 ∧ (sizeF l : Int) ≤ cap)
theorem bel_alloc {U : Nat} {w w' : World} (h : Below U w w') (hU : U ≤ w.heap.size) (o : Obj) : Below U w (w'.alloc o) := h.alloc (Nat.le_trans hU h.size) o

set_option maxRecDepth 10000 in
set_option maxHeartbeats 1600000 in
theorem fits_any (A : Option Addr) (n c : Nat) (l : List FIn) (cap : Int) (w : World) (h : InAt w w.heap.size A n l) (hn : n ≤ maxLen) :
    Calls Try.prog 22 #[.slice A n c, .int .i64 cap] w fun e w' => e = .returned (.bool (fitsB l cap)) ∧ Below w.heap.size w w' := by
  have hl := h.1
  unfold maxLen at hn
  by_cases h1 : cap < 0
  · have H := Lib.hid (show fitsB l cap = false by unfold fitsB; rw [decide_eq_false (by omega)])
    clear h hl
    go_enter Try.func22, Try.ntmps22
    go_wp2
    go_ret
    exact ⟨ret_bool H.out.symm, Below.refl _ _⟩
  · by_cases h2 : 1048576 < cap
    · have H := Lib.hid (show fitsB l cap = false by unfold fitsB; rw [decide_eq_false (by omega)])
      clear h hl
      go_enter Try.func22, Try.ntmps22
      go_wp2
      go_ret
      exact ⟨ret_bool H.out.symm, Below.refl _ _⟩
    · by_cases h3 : 64 < n
      · have H := Lib.hid (show fitsB l cap = false by unfold fitsB; rw [decide_eq_false (by omega)])
        clear h hl
        go_enter Try.func22, Try.ntmps22
        go_wp2
        go_ret
        exact ⟨ret_bool H.out.symm, Below.refl _ _⟩
      · have HL := Lib.hid hl
        have HI := Lib.hid h
        have hzero : ∀ w : World, (zeroValue 46).run Try.prog w = .ok (.agg #[.string ByteArray.empty, .slice none 0 0]) w := fun w => by kernel_rfl
        have hh1 : 0 ≤ cap := by omega
        have hh2 : cap ≤ 1048576 := by omega
        have hh3 : n ≤ 64 := by omega
        clear h hl
        go_enter Try.func22, Try.ntmps22
        go_wp2
        go_loopw [5, 22] (fun x i wr => ∃ (k : Nat) (z : Nat), k ≤ n ∧ i = .int .i64 k ∧ x = .int .i64 (z : Int) ∧ Hid ((z : Int) = cap - (sizeF (l.take k) : Int)) ∧ (z : Int) ≤ cap ∧ Below w.heap.size w wr) (fun _ i _ => n - (intOf i).toNat)
        case atStart => exact ⟨0, cap.toNat, Nat.zero_le _, rfl, by rw [Int.toNat_of_nonneg hh1], by show ((cap.toNat : Nat) : Int) = _; rw [Int.toNat_of_nonneg hh1]; simp [sizeF], by omega, Below.refl _ _⟩
        case round =>
          obtain ⟨k, z, hk, rfl, rfl, hz, hzc, hb⟩ := hrel
          by_cases hlt : k < n
          · obtain ⟨b, off, D, cd, f, hf, rfl, hbU, hc0, hc1, hsh, hs, hd⟩ := (HI.out.below hb).at hlt
            have hsn := sizeF_snoc hf
            have hsl := sizeF_le l (k + 1)
            obtain ⟨len, hlen⟩ : ∃ len, len = f.d.length := ⟨_, rfl⟩
            rw [← hlen] at hc1 hsn hd
            have HSN := Lib.hid hsn
            have HSL := Lib.hid hsl
            have hbs := Lib.hid hb
            unfold maxLen at hd
            clear hf hlen hsn hsl hb hsh
            by_cases hgt : z < len
            · have H := Lib.hid (show fitsB l cap = false by
                unfold fitsB
                rw [decide_eq_false]
                have := HSN.out
                have := HSL.out
                have := hz.out
                omega)
              go_wp2
              go_ret
              exact ⟨ret_bool H.out.symm, bel_alloc hbs.out (Nat.le_refl _) _⟩
            · have hzl : len ≤ z := by omega
              go_wp2
              go_roundw
              case rel =>
                refine ⟨k + 1, z - len, by omega, by go_num, by go_num, ?_, by omega, bel_alloc hbs.out (Nat.le_refl _) _⟩
                show ((z - len : Nat) : Int) = _
                have := HSN.out
                have := hz.out
                omega
              case measure => simp [intOf]; omega
          · obtain rfl : k = n := by omega
            have H := Lib.hid (show fitsB l cap = true by
              have := hz.out
              rw [List.take_of_length_le (by rw [HL.out]; exact Nat.le_refl _)] at this
              have := HL.out
              unfold fitsB
              rw [decide_eq_true]
              omega)
            go_wp2
            go_ret
            exact ⟨ret_bool H.out.symm, hb⟩
end Go.Proofs.Ytekhockdgglndaa
namespace Go.Proofs.Ytekhockdgglndaa
set_option linter.unusedVariables false
set_option linter.unusedSimpArgs false
open Go.RowKit Go.Maps

/-- Blocks below U. -/
def Low (U : Nat) : Nat → Prop := fun b => b < U
/-- A disk under way: names are not sure yet. -/
structure NAt (w : World) (U : Nat) (g : Nat) (L : Lay) (cap : Int) (fs : List Fl) (N : NL) : Prop where
  gU : U ≤ g
  cells : Blk w g 61 [.int .i64 cap, L.fr, .map (some L.nm), .map none, .slice none 0 0, .int .i64 0, .int .i64 0, .int .i64 0, .int .i64 0, .bool false]
  fr : Row w (Low U) 62 L.fr fs.length (ptrs fs)
  nm : NamesAt w L.nm N
  nmU : U ≤ L.nm
  fo : ∀ f ∈ fs, FileAt w (Low U) (L.row f.blk) f
  nd : fs.Pairwise (Apart L)
section
variable {w w' : World} {U g : Nat} {L : Lay} {cap : Int} {fs : List Fl} {N : NL}
theorem NAt.grown (h : NAt w U g L cap fs N) (hg : w.grownBy w' none) : NAt w' U g L cap fs N := by
  have rk : ∀ {t : TypeId} {v : Value} {n : Nat} {xs : List Value}, Row w (Low U) t v n xs → Row w' (Low U) t v n xs := fun r => r.stay fun j hj => hg.block j (r.lt hj) (by simp)
  exact ⟨h.gU, h.cells.keep hg (by simp), rk h.fr, h.nm.keep hg (by simp), h.nmU, fun f hf => ⟨(h.fo f hf).blk.keep hg (by simp), (h.fo f hf).out, rk (h.fo f hf).row⟩, h.nd⟩
theorem NAt.put (h : NAt w U g L cap fs N) {N' : NL} (hg : w.grownBy w' (some L.nm)) (hn : NamesAt w' L.nm N') : NAt w' U g L cap fs N' := by
  have kb : ∀ {b : Nat} {t : TypeId} {xs : List Value}, Blk w b t xs → Blk w' b t xs := fun hb => hb.keep hg (fun e => h.nm.ne_blk hb (by injection e))
  have rk : ∀ {t : TypeId} {v : Value} {n : Nat} {xs : List Value}, Row w (Low U) t v n xs → Row w' (Low U) t v n xs := fun r => r.stay fun j hj => hg.block j (r.lt hj) (fun e => r.ne_names h.nm (by rw [hj]; exact e))
  exact ⟨h.gU, kb h.cells, rk h.fr, hn, h.nmU, fun f hf => ⟨kb (h.fo f hf).blk, (h.fo f hf).out, rk (h.fo f hf).row⟩, h.nd⟩
theorem NAt.push {w6 : World} (h : NAt w U g L cap fs N) {f : Fl} {v : Value} (hf : FileAt w (Low U) v f) (hfree : Free fs f.blk) (hv : ∀ f2 ∈ fs, ∀ j, v.ownBlock = some j → (L.row f2.blk).ownBlock ≠ some j) {v6 : Value} {u : Value}
    (hr : Row w6 (Low U) 62 v6 (fs.length + 1) (ptrs fs ++ [ptrTo f.blk])) (hg : (w.alloc (.cells #[u] 62)).grownBy w6 L.fr.ownBlock) :
    NAt (w6.setCell ⟨g, 1, none⟩ v6) U g { L.up f.blk v with fr := v6 } cap (fs ++ [f]) N := by
  have hga : w.grownBy w6 L.fr.ownBlock := grown_trans (World.grownBy_alloc _ _ _) hg
  have kb : ∀ {b : Nat} {t : TypeId} {xs : List Value}, t ≠ 62 → Blk w b t xs → b ≠ g → Blk (w6.setCell ⟨g, 1, none⟩ v6) b t xs := fun ht hb hne => (hb.keep hga (fun e => h.fr.ne_blk hb (fun e => ht e.symm) e)).stay (Below.heap_setCell _ _ _ _ hne)
  have hc6 : Blk w6 g 61 _ := h.cells.keep hga (fun e => h.fr.ne_blk h.cells (by decide) e)
  have rk : ∀ {t : TypeId} {v : Value} {n : Nat} {xs : List Value}, t ≠ 62 → t ≠ 61 → Row w (Low U) t v n xs → Row (w6.setCell ⟨g, 1, none⟩ v6) (Low U) t v n xs := fun ht ht2 r =>
    r.stay fun j hj => (Below.heap_setCell _ _ _ _ (fun e => r.ne_blk h.cells ht2 (by rw [hj]; simp at e; rw [e]))).trans (hga.block j (r.lt hj) (fun e => h.fr.ne_row r (fun e => ht e.symm) hj e.symm))
  have hfb : ∀ f2 ∈ fs, f2.blk ≠ f.blk := fun f2 h2 => hfree f2 h2
  refine ⟨h.gU, hc6.set 1 v6, (hr.cast (by simp) (by simp [ptrs])).stay fun j hj => Below.heap_setCell _ _ _ _ (fun e => hr.ne_blk hc6 (by decide) (by rw [hj]; simp at e; rw [e])), ?_, h.nmU, fun f2 h2 => ?_, ?_⟩
  · exact (h.nm.keep hga (fun e => h.fr.ne_names h.nm e)).stay (Below.heap_setCell _ _ _ _ (h.nm.ne_blk h.cells))
  · rcases List.mem_append.1 h2 with h3 | h3
    · have h4 := h.fo f2 h3
      have e2 : ({ L.up f.blk v with fr := v6 } : Lay).row f2.blk = L.row f2.blk := Lay.up_other _ _ (hfb f2 h3)
      rw [e2]
      exact ⟨kb (by decide) h4.blk (h4.blk.ne h.cells (by decide)), h4.out, rk (by decide) (by decide) h4.row⟩
    · have e := List.mem_singleton.1 h3
      subst e
      have e2 : ({ L.up f2.blk v with fr := v6 } : Lay).row f2.blk = v := Lay.up_same _ _ _
      rw [e2]
      exact ⟨kb (by decide) hf.blk (hf.blk.ne h.cells (by decide)), hf.out, rk (by decide) (by decide) hf.row⟩
  · rw [List.pairwise_append]
    refine ⟨h.nd.imp_of_mem fun {a b} ha hb hab => ⟨hab.1, ?_⟩, by simp, fun f2 h3 f' h4 => ?_⟩
    · have e1 : ({ L.up f.blk v with fr := v6 } : Lay).row a.blk = L.row a.blk := Lay.up_other _ _ (hfb a ha)
      have e2 : ({ L.up f.blk v with fr := v6 } : Lay).row b.blk = L.row b.blk := Lay.up_other _ _ (hfb b hb)
      rw [e1, e2]
      exact hab.2
    · have e := List.mem_singleton.1 h4
      subst e
      have e1 : ({ L.up f'.blk v with fr := v6 } : Lay).row f2.blk = L.row f2.blk := Lay.up_other _ _ (hfb f2 h3)
      have e2 : ({ L.up f'.blk v with fr := v6 } : Lay).row f'.blk = v := Lay.up_same _ _ _
      refine ⟨hfb f2 h3, fun j hj e => ?_⟩
      rw [e1] at hj
      rw [e2] at e
      exact hv f2 h3 j e hj
/-- A new disk. -/
def newSt (cap : Int) (fs : List Fl) (N : NL) : St := { cap := cap, fs := fs, names := N, sure := N, waits := [], calls := 0, fuse := 0, fault := 0, fe := 0, dead := false }
theorem NAt.disk (h : NAt w U g L cap fs N) {sm : Nat} (hs : NamesAt w' sm N) (hsU : w.heap.size ≤ sm) (hb : Below w.heap.size w w') (hU : U ≤ w.heap.size) :
    w'.cell? ⟨g, 3, none⟩ = some (.map none) ∧ w'.frozen? ⟨g, 3, none⟩ = false ∧ DAt (w'.setCell ⟨g, 3, none⟩ (.map (some sm))) (Low U) g { L with sm := sm, wr := .slice none 0 0 } (newSt cap fs N) := by
  have h1 := h.grown (grown_of_below hb none)
  have kb : ∀ {b : Nat} {t : TypeId} {xs : List Value}, Blk w' b t xs → b ≠ g → Blk (w'.setCell ⟨g, 3, none⟩ (.map (some sm))) b t xs := fun hb hne => hb.stay (Below.heap_setCell _ _ _ _ hne)
  have rk : ∀ {t : TypeId} {v : Value} {n : Nat} {xs : List Value}, t ≠ 61 → Row w' (Low U) t v n xs → Row (w'.setCell ⟨g, 3, none⟩ (.map (some sm))) (Low U) t v n xs := fun ht r =>
    r.stay fun j hj => Below.heap_setCell _ _ _ _ (fun e => r.ne_blk h1.cells ht (by rw [hj]; simp at e; rw [e]))
  have hnl := h.nm.lt
  refine ⟨h1.cells.cell 3, h1.cells.nf 3, ⟨by have := h.gU; unfold Low; omega, fun b hb' => ?_, h1.cells.set 3 _, rk (by decide) h1.fr, h1.nm.stay (Below.heap_setCell _ _ _ _ (h1.nm.ne_blk h1.cells)), by have := h.nmU; unfold Low; show ¬ L.nm < U; omega, hs.stay (Below.heap_setCell _ _ _ _ (hs.ne_blk h1.cells)), by unfold Low; show ¬ sm < U; omega, by show L.nm ≠ sm; omega, ⟨[], Row.nil _ _ _, trivial⟩, fun f hf => ?_, h1.nd⟩⟩
  · unfold Low at hb'
    have := hb.size
    simp
    omega
  · have h4 := h1.fo f hf
    exact ⟨kb h4.blk (h4.blk.ne h1.cells (by decide)), h4.out, rk (by decide) h4.row⟩
end

/-- The files that are made of those that are handed in. -/
def Made : List Fl → List FIn → Prop
  | [], [] => True
  | f :: fs, x :: l => (f.data = x.d ∧ f.unsure = 0 ∧ f.named = false) ∧ Made fs l
  | _, _ => False
def namesZ : List FIn → List Fl → NL → NL
  | x :: l, f :: fs, N => namesZ l fs (nput x.s.data.toList f.blk N)
  | _, _, N => N
theorem Made.len : ∀ {fs : List Fl} {l : List FIn}, Made fs l → fs.length = l.length
  | [], [], _ => rfl
  | _ :: fs, _ :: l, h => by simp [Made.len h.2]
theorem Made.snoc {f : Fl} {x : FIn} (hf : f.data = x.d ∧ f.unsure = 0 ∧ f.named = false) : ∀ {fs : List Fl} {l : List FIn}, Made fs l → Made (fs ++ [f]) (l ++ [x])
  | [], [], _ => ⟨hf, trivial⟩
  | _ :: fs, _ :: l, h => ⟨h.1, Made.snoc hf h.2⟩
theorem namesZ_snoc (f : Fl) (x : FIn) : ∀ {fs : List Fl} {l : List FIn} (N : NL), fs.length = l.length → namesZ (l ++ [x]) (fs ++ [f]) N = nput x.s.data.toList f.blk (namesZ l fs N)
  | [], [], N, _ => rfl
  | g :: fs, y :: l, N, h => namesZ_snoc f x (nput y.s.data.toList g.blk N) (by simpa using h)
theorem Made.mem : ∀ {fs : List Fl} {l : List FIn}, Made fs l → ∀ f ∈ fs, ∃ x ∈ l, f.data = x.d ∧ f.unsure = 0 ∧ f.named = false
  | [], [], _, f, hf => by cases hf
  | g :: fs, x :: l, h, f, hf => by
    rcases List.mem_cons.1 hf with rfl | hf
    · exact ⟨x, by simp, h.1⟩
    · obtain ⟨y, hy, r⟩ := Made.mem h.2 f hf
      exact ⟨y, by simp [hy], r⟩
def keyF (x : FIn) : Nm := x.s.data.toList
theorem ris_namesZ : ∀ {l : List FIn} {fs : List Fl} {N : NL}, Ris N → Ris (namesZ l fs N)
  | [], [], _, h => h
  | [], _ :: _, _, h => h
  | _ :: _, [], _, h => h
  | x :: l, f :: fs, N, h => show Ris (namesZ l fs (nput x.s.data.toList f.blk N)) from ris_namesZ (h.put _ _)
theorem namesZ_none {k : Nm} : ∀ {l : List FIn} {fs : List Fl} {N : NL}, Ris N → fs.length = l.length → (nat? k (namesZ l fs N) = none ↔ nat? k N = none ∧ ∀ x ∈ l, keyF x ≠ k)
  | [], [], N, _, _ => by simp [namesZ]
  | x :: l, f :: fs, N, h, hl => by
    show nat? k (namesZ l fs (nput (keyF x) f.blk N)) = none ↔ _
    rw [namesZ_none (h.put _ _) (by simpa using hl)]
    by_cases e : keyF x = k
    · subst e
      rw [nat?_put_same h]
      simp
    · rw [nat?_put_other h (fun e' => e e'.symm)]
      simp [e]
def namesB (l : List FIn) : Bool := decide ((l.map keyF).Nodup ∧ ∀ x ∈ l, nameB (keyF x) = true)
theorem namesB_bad {l : List FIn} {k : Nat} {x : FIn} (hx : l[k]? = some x) (h : nameB (keyF x) = false ∨ ∃ y ∈ l.take k, keyF y = keyF x) : namesB l = false := by
  unfold namesB
  rw [decide_eq_false]
  rintro ⟨h1, h2⟩
  rcases h with h | ⟨y, hy, e⟩
  · rw [h2 x (List.mem_of_getElem? hx)] at h
    cases h
  · obtain ⟨j, hj⟩ := List.getElem?_of_mem hy
    have hjk : j < k := by have := (List.getElem?_eq_some_iff.1 hj).1; simp at this; omega
    rw [List.getElem?_take, if_pos hjk] at hj
    obtain ⟨a1, a2⟩ := List.getElem?_eq_some_iff.1 hj
    obtain ⟨b1, b2⟩ := List.getElem?_eq_some_iff.1 hx
    have := List.pairwise_iff_getElem.1 h1 j k (by simpa using a1) (by simpa using b1) hjk
    simp only [List.getElem_map, a2, b2] at this
    exact this e
theorem namesB_all {l : List FIn} (h : ∀ k x, l[k]? = some x → nameB (keyF x) = true ∧ ∀ y ∈ l.take k, keyF y ≠ keyF x) : namesB l = true := by
  unfold namesB
  rw [decide_eq_true]
  refine ⟨?_, fun x hx => ?_⟩
  · rw [List.Nodup, List.pairwise_iff_getElem]
    intro i j hi hj hij
    simp only [List.getElem_map]
    have hi' : i < l.length := by simpa using hi
    have hj' : j < l.length := by simpa using hj
    refine (h j l[j] (List.getElem?_eq_getElem hj')).2 l[i] ?_
    refine List.mem_of_getElem? (i := i) ?_
    rw [List.getElem?_take, if_pos hij, List.getElem?_eq_getElem hi']
  · obtain ⟨k, hk⟩ := List.getElem?_of_mem hx
    exact (h k x hk).1
end Go.Proofs.Ytekhockdgglndaa
namespace Go.Proofs.Ytekhockdgglndaa
set_option linter.unusedVariables false
set_option linter.unusedSimpArgs false
open Go.RowKit Go.Maps

/-- What New answers: a disk with the files that were handed in, or nil. -/
structure IsNew (w w' : World) (l : List FIn) (cap : Int) (g : Nat) (L : Lay) (fs : List Fl) : Prop where
  at_ : DAt w' (Low w.heap.size) g L (newSt cap fs (namesZ l fs []))
  made : Made fs l
def Newd (w : World) (l : List FIn) (cap : Int) (e : Ending) (w' : World) : Prop :=
  Below w.heap.size w w' ∧ ((fitsB l cap && namesB l) = true ∧ (∃ g L fs, e = .returned (ptrTo g) ∧ IsNew w w' l cap g L fs) ∨ (fitsB l cap && namesB l) = false ∧ e = .returned (.pointer none))
theorem zeroDisk (w : World) : (zeroValue 61).run Try.prog w = .ok (.agg #[.int .i64 0, .slice none 0 0, .map none, .map none, .slice none 0 0, .int .i64 0, .int .i64 0, .int .i64 0, .int .i64 0, .bool false]) w := by kernel_rfl
theorem zeroIn (w : World) : (zeroValue 46).run Try.prog w = .ok (.agg #[.string ByteArray.empty, .slice none 0 0]) w := by kernel_rfl
theorem Own.toRow {w : World} {B U : Nat} {e : TypeId} {v : Value} {n : Nat} {xs : List Value} (h : Own w B e 1 v n xs) (hU : U ≤ B) : Row w (Low U) e v n xs := by
  refine ⟨?_, fun j hj => ?_⟩
  · refine ⟨h.1.1, ?_⟩
    rcases h.1.2 with h1 | ⟨g, cap, cur, h1, h2, h3⟩
    · exact .inl h1
    · exact .inr ⟨g, cap, cur, h1, Nat.zero_le _, h3⟩
  · have := (h.1.lt j hj).1
    unfold Low
    omega
/-- 'm[k] = p', as a run. -/
theorem NamesAt.update {w : World} {b : Nat} {N : NL} (h : NamesAt w b N) (hn : N.length < maxLen) {s : ByteArray} (hs : s.size ≤ maxLen) (c : Nat) :
    ∃ w', (Instr.mapUpdate 52 (.map (some b)) (.string s) (ptrTo c)).run Try.prog w = .ok () w' ∧ NamesAt w' b (nput s.data.toList c N) ∧ w.grownBy w' (some b) := by
  obtain ⟨w', h1, h2, h3⟩ := World.ownsMap.update h strLaw underlyingM hn (keyStr hs) (ptrElem_to c)
  refine ⟨w', h1, ?_, h3⟩
  rw [toD_put] at h2
  exact ownsMap_tight h2
section
variable {U g : Nat} {L : Lay} {cap : Int} {fs : List Fl} {N : NL}
theorem NAt.c2 {w : World} (h : NAt w U g L cap fs N) : w.cell? ⟨g, 2, none⟩ = some (.map (some L.nm)) := h.cells.cell 2
theorem NAt.c1 {w : World} (h : NAt w U g L cap fs N) : w.cell? ⟨g, 1, none⟩ = some L.fr := h.cells.cell 1
/-- A round of New, behind the copy of the bytes. -/
theorem new_file {u2 u3 u5 : World} (h : NAt u2 U g L cap fs N) (hU : U ≤ u2.heap.size) {v : Value} {d : List Int} (ho : Own u3 u2.heap.size 5 1 v d.length (by8 d)) (hb : Below u2.heap.size u2 u3) {N' : NL}
    (hn : NamesAt u5 L.nm N') (hg : ((u3.alloc (.cells #[v, .int .i64 0, .bool false] 65)).drew).grownBy u5 (some L.nm)) :
    NAt u5 U g L cap fs N' ∧ FileAt u5 (Low U) v ⟨u3.heap.size, d, 0, false⟩ ∧ Free fs u3.heap.size ∧ (∀ f2 ∈ fs, ∀ j, v.ownBlock = some j → (L.row f2.blk).ownBlock ≠ some j) ∧ g < u5.heap.size ∧
      ∀ (w6 : World) (v6 : Value), Row w6 (Low U) 62 v6 (fs.length + 1) (ptrs fs ++ [ptrTo u3.heap.size]) → (u5.alloc (.cells #[ptrTo u3.heap.size] 62)).grownBy w6 L.fr.ownBlock →
        w6.cell? ⟨g, 1, none⟩ = some L.fr ∧ w6.frozen? ⟨g, 1, none⟩ = false ∧ NAt (w6.setCell ⟨g, 1, none⟩ v6) U g { L.up u3.heap.size v with fr := v6 } cap (fs ++ [⟨u3.heap.size, d, 0, false⟩]) N' := by
  have h4 : NAt ((u3.alloc (.cells #[v, .int .i64 0, .bool false] 65)).drew) U g L cap fs N := ((h.grown (grown_of_below hb none)).grown (World.grownBy_alloc _ _ none)).grown ((Quiet.one _ 1).grown none)
  have h5 := h4.put hg hn
  have hrow0 : Row ((u3.alloc (.cells #[v, .int .i64 0, .bool false] 65)).drew) (Low U) 5 v d.length (by8 d) := (ho.toRow hU).stay fun j hj => Below.heap_alloc _ _ _ ((ho.toRow hU).lt hj)
  have hb0 : Blk ((u3.alloc (.cells #[v, .int .i64 0, .bool false] 65)).drew) u3.heap.size 65 (fileCells v ⟨u3.heap.size, d, 0, false⟩) := Blk.new u3 _ _
  have hsz := hb.size
  have hfa : FileAt u5 (Low U) v ⟨u3.heap.size, d, 0, false⟩ := ⟨hb0.keep hg (fun e => h4.nm.ne_blk hb0 (by injection e)), by unfold Low; show ¬ u3.heap.size < U; omega,
    hrow0.stay fun j hj => hg.block j (hrow0.lt hj) (fun e => hrow0.ne_names h4.nm (by rw [hj]; exact e))⟩
  have hfree : Free fs u3.heap.size := fun f hf e => by
    have := (h.fo f hf).blk.lt
    omega
  have hv : ∀ f2 ∈ fs, ∀ j, v.ownBlock = some j → (L.row f2.blk).ownBlock ≠ some j := fun f2 h2 j hj e => by
    have h3 := (h.fo f2 h2).row.lt e
    have h6 := (ho.1.lt j hj).1
    omega
  refine ⟨h5, hfa, hfree, hv, h5.cells.lt, fun w6 v6 hr6 hg6 => ?_⟩
  have hga := grown_trans (World.grownBy_alloc u5 (.cells #[ptrTo u3.heap.size] 62) L.fr.ownBlock) hg6
  have hc6 := h5.cells.keep hga (fun e => h5.fr.ne_blk h5.cells (by decide) e)
  exact ⟨hc6.cell 1, hc6.nf 1, h5.push hfa hfree hv hr6 hg6⟩
end

theorem namesZ_len : ∀ (l : List FIn) (fs : List Fl) (N : NL), (namesZ l fs N).length ≤ N.length + l.length
  | [], [], N => by simp [namesZ]
  | [], _ :: _, N => by simp [namesZ]
  | _ :: _, [], N => by simp [namesZ]
  | x :: l, f :: fs, N => by
    have h1 := namesZ_len l fs (nput x.s.data.toList f.blk N)
    have h2 := len_nput_le x.s.data.toList f.blk N
    show (namesZ l fs (nput x.s.data.toList f.blk N)).length ≤ _
    simp only [List.length_cons]
    omega
/-- How far New has come. -/
structure Under (w wr : World) (g : Nat) (l : List FIn) (cap : Int) (k : Nat) (L : Lay) (fs : List Fl) : Prop where
  at_ : NAt wr w.heap.size g L cap fs (namesZ (l.take k) fs [])
  made : Made fs (l.take k)
  good : ∀ j x, j < k → l[j]? = some x → nameB (keyF x) = true ∧ ∀ y ∈ l.take j, keyF y ≠ keyF x
  below : Below w.heap.size w wr

set_option maxRecDepth 100000 in
set_option maxHeartbeats 6400000 in
theorem new_any (A : Option Addr) (n c : Nat) (l : List FIn) (cap : Int) (w : World) (h : InAt w w.heap.size A n l) (hn : n ≤ maxLen) :
    Calls Try.prog 7 #[.slice A n c, .int .i64 cap] w (Newd w l cap) := by
  have hmm := @run_makeMap Try.prog
  have hzd := zeroDisk
  have hzi := zeroIn
  have hzf := zeroFile
  have HF := Lib.hid (fits_any A n c l cap w h hn)
  have HI := Lib.hid h
  have HL := Lib.hid h.1
  have HNM := Lib.hid hn
  cases hfit : fitsB l cap with
  | false =>
    rw [hfit] at HF
    have HFI := Lib.hid hfit
    clear h hn hfit
    go_enter Try.func7, Try.ntmps7
    go_wp2_with (first
      | (go_at_call 22; refine HF.out.mono ?_; rintro e w1 ⟨rfl, hb1⟩; have HB1 := Lib.hid hb1; clear hb1)
      | go_in)
    go_ret
    exact ⟨HB1.out, .inr ⟨by rw [HFI.out]; rfl, rfl⟩⟩
  | true =>
    rw [hfit] at HF
    have hn64 : n ≤ 64 := by
      have h1 := h.1
      unfold fitsB at hfit
      have := of_decide_eq_true hfit
      omega
    have HFI := Lib.hid hfit
    clear h hn hfit
    go_enter Try.func7, Try.ntmps7
    go_wp2_with (first
      | (go_at_call 22; refine HF.out.mono ?_; rintro e w1 ⟨rfl, hb1⟩; have HB1 := Lib.hid hb1; clear hb1)
      | go_in)
    obtain ⟨wS, hwS⟩ : ∃ wS, wS = (w1.alloc (.map #[] 0)).alloc (.cells #[.int .i64 cap, .slice none 0 0, .map (some w1.heap.size), .map none, .slice none 0 0, .int .i64 0, .int .i64 0, .int .i64 0, .int .i64 0, .bool false] 61) := ⟨_, rfl⟩
    have hst : Under w wS (w1.heap.size + 1) l cap 0 { fr := .slice none 0 0, wr := .slice none 0 0, nm := w1.heap.size, sm := 0, row := fun _ => .slice none 0 0 } [] := by
      have hsz := HB1.out.size
      have hb2 : Below w.heap.size w wS := by
        rw [hwS]
        exact (HB1.out.alloc hsz _).alloc (by simp; omega) _
      have hnm : NamesAt wS w1.heap.size [] := by
        rw [hwS]
        exact (NamesAt.made w1).keep (World.grownBy_alloc _ _ none) (by simp)
      have hcl : Blk wS (w1.heap.size + 1) 61 [.int .i64 cap, .slice none 0 0, .map (some w1.heap.size), .map none, .slice none 0 0, .int .i64 0, .int .i64 0, .int .i64 0, .int .i64 0, .bool false] := by
        rw [hwS]
        have := Blk.new (w1.alloc (.map #[] 0)) 61 [.int .i64 cap, .slice none 0 0, .map (some w1.heap.size), .map none, .slice none 0 0, .int .i64 0, .int .i64 0, .int .i64 0, .int .i64 0, .bool false]
        simpa using this
      refine ⟨⟨by omega, hcl, Row.nil _ _ _, hnm, hsz, (fun f hf => by cases hf), List.Pairwise.nil⟩, trivial, (fun j x hj _ => by omega), hb2⟩
    have HST := Lib.hid hst
    rw [← hwS]
    clear hst hwS
    obtain ⟨g, hg⟩ : ∃ g, g = w1.heap.size + 1 := ⟨_, rfl⟩
    have hg' : ((w1.heap.size + 1 : Nat)) = g := hg.symm
    rw [hg'] at HST ⊢
    clear hg hg'
    go_loopw [19] (fun i wr => ∃ (k : Nat) (L : Lay) (fs : List Fl), k ≤ n ∧ i = .int .i64 k ∧ Under w wr g l cap k L fs) (fun i _ => n - (intOf i).toNat)
    case atStart => exact ⟨0, _, [], Nat.zero_le _, rfl, HST.out⟩
    case round =>
      obtain ⟨k, L, fs, hk, rfl, hu⟩ := hrel
      obtain ⟨wq, hwq⟩ : ∃ wq, wq = wr := ⟨_, rfl⟩
      subst hwq
      have hszU := hu.below.size
      by_cases hlt : k < n
      · obtain ⟨b, off, D, cd, f, hf, rfl, hbU, hc0, hc1, hsh, hs, hd⟩ := (HI.out.below hu.below).at hlt
        have hU := Lib.hid hu
        have hfs : fs.length = k := by have := hu.made.len; have h1 := HL.out; rw [List.length_take] at this; omega
        have hnk : (namesZ (l.take k) fs []).length ≤ 64 := by
          have := namesZ_len (l.take k) fs []
          rw [List.length_take] at this
          simp at this
          omega
        have hdl : f.d.length ≤ 1048576 := by
          have h1 := sizeF_le l (k + 1)
          rw [sizeF_snoc hf] at h1
          have h2 := HFI.out
          unfold fitsB at h2
          have := of_decide_eq_true h2
          omega
        obtain ⟨u1, hu1⟩ : ∃ u1, u1 = wq.alloc (.cells #[.string f.s, .slice D f.d.length cd] 46) := ⟨_, rfl⟩
        have hb1' : Below w.heap.size w u1 := by rw [hu1]; exact hu.below.alloc hszU _
        have hN1 : NAt u1 w.heap.size g L cap fs (namesZ (l.take k) fs []) := by rw [hu1]; exact hu.at_.grown (World.grownBy_alloc _ _ none)
        have hbox : Blk u1 wq.heap.size 46 [.string f.s, .slice D f.d.length cd] := by rw [hu1]; exact Blk.new wq _ _
        have hsh1 : Sh u1 w.heap.size D f.d.length (by8 f.d) := by rw [hu1]; exact hsh.alloc hszU _
        have x0 := hbox.cell 0
        have x1 := hbox.cell 1
        have c2 := hN1.c2
        have HBX := Lib.hid hbox
        have HN1 := Lib.hid hN1
        have HSH := Lib.hid hsh1
        have HB1' := Lib.hid hb1'
        have HFF := Lib.hid hf
        have HFS := Lib.hid hfs
        have HK := Lib.hid (namesZ_none (k := keyF f) (l := l.take k) (fs := fs) (N := []) Ris.nil (by have := hu.made.len; exact this))
        have HU1 := Lib.hid hu1.symm
        clear hu hf hu1 hN1 hbox hsh hsh1 hb1' hfs
        cases hlk : nat? (keyF f) (namesZ (l.take k) fs []) with
        | some b0 =>
          have hbad : namesB l = false := by
            refine namesB_bad HFF.out (.inr ?_)
            refine Classical.byContradiction fun hno => ?_
            have : nat? (keyF f) (namesZ (l.take k) fs []) = none := HK.out.2 ⟨rfl, fun x hx e => hno ⟨x, hx, e⟩⟩
            rw [hlk] at this
            cases this
          have hl := looks HN1.out.nm hs (v := .pointer (some ⟨b0, 0, none⟩)) (by unfold keyF at hlk; rw [hlk]; rfl)
          have HBAD := Lib.hid hbad
          clear hbad hlk
          go_wp2
          rw [HU1.out]
          go_quiet (fail)
          go_wp2
          go_ret
          exact ⟨HB1'.out.trans ((Quiet.one u1 _).below _), .inr ⟨by rw [HBAD.out, Bool.and_false], rfl⟩⟩
        | none =>
          have hl := looks HN1.out.nm hs (v := .pointer none) (by unfold keyF at hlk; rw [hlk]; rfl)
          have hnew := HK.out.1 hlk
          have HNEW := Lib.hid hnew
          have HLK := Lib.hid hlk
          clear hnew hlk
          cases hnb : nameB f.s.data.toList with
          | false =>
            have hbad : namesB l = false := namesB_bad HFF.out (.inl hnb)
            have HBAD := Lib.hid hbad
            have HNA := Lib.hid (fun w => name_any f.s w hs)
            rw [hnb] at HNA
            clear hbad hnb
            go_wp2
            rw [HU1.out]
            go_quiet ((go_at_call 14; exact Calls.quiet_of_same ((HNA.out _).mono fun e w' ⟨h1, h2⟩ => ⟨h1, h2.symm⟩)))
            go_wp2
            go_ret
            exact ⟨HB1'.out.trans ((Quiet.one u1 _).below _), .inr ⟨by rw [HBAD.out, Bool.and_false], rfl⟩⟩
          | true =>
            have HNB := Lib.hid hnb
            have HNA := Lib.hid (fun w => name_any f.s w hs)
            rw [hnb] at HNA
            clear hnb
            go_wp2
            rw [HU1.out]
            go_quiet ((go_at_call 14; exact Calls.quiet_of_same ((HNA.out _).mono fun e w' ⟨h1, h2⟩ => ⟨h1, h2.symm⟩)))
            obtain ⟨u2, hu2⟩ : ∃ u2, u2 = u1.drewN nq := ⟨_, rfl⟩
            have hN2 : NAt u2 w.heap.size g L cap fs (namesZ (l.take k) fs []) := by rw [hu2]; exact HN1.out.grown ((Quiet.one u1 nq).grown none)
            have hbox2 : Blk u2 wq.heap.size 46 [.string f.s, .slice D f.d.length cd] := by rw [hu2]; exact HBX.out
            have hb2 : Below w.heap.size w u2 := by rw [hu2]; exact HB1'.out.trans ((Quiet.one u1 nq).below _)
            have HCL := Lib.hid (clone_any D f.d.length cd f.d u2 w.heap.size (by rw [hu2]; exact HSH.out) hb2.size (by omega))
            have y1 := hbox2.cell 1
            have hlt2 := hbox2.lt
            have HN2 := Lib.hid hN2
            have HBX2 := Lib.hid hbox2
            have HB2 := Lib.hid hb2
            rw [← hu2]
            clear hu2 hN2 hbox2 hb2 hl x0 x1 c2
            go_wp2_with (first
              | (go_at_call 23; refine HCL.out.mono ?_; rintro e u3 ⟨v3, rfl, ho3, hb3⟩; obtain ⟨A3, c3, rfl⟩ := ho3.form; have HO3 := Lib.hid ho3; have HB3 := Lib.hid hb3; clear ho3 hb3)
              | fail)
            obtain ⟨u4, hu4⟩ : ∃ u4, u4 = u3.alloc (.cells #[.slice A3 f.d.length c3, .int .i64 0, .bool false] 65) := ⟨_, rfl⟩
            have hgr3 : u2.grownBy u3 none := grown_of_below HB3.out none
            have hbox4 : Blk u4 wq.heap.size 46 [.string f.s, .slice D f.d.length cd] := by rw [hu4]; exact (HBX2.out.keep hgr3 (by simp)).keep (World.grownBy_alloc _ _ none) (by simp)
            have hN4 : NAt u4 w.heap.size g L cap fs (namesZ (l.take k) fs []) := by rw [hu4]; exact (HN2.out.grown hgr3).grown (World.grownBy_alloc _ _ none)
            obtain ⟨u5, hrun, hn5, hg5⟩ := (show NamesAt u4.drew L.nm (namesZ (l.take k) fs []) from hN4.nm).update (by unfold maxLen; omega) hs u3.heap.size
            have d0 := hbox4.cell 0
            have d2 := hN4.c2
            have hfile := new_file HN2.out HB2.out.size HO3.out HB3.out hn5 (by rw [← hu4]; exact hg5)
            obtain ⟨hN5, hfa, hfree, hvv, hg5l, hfin⟩ := hfile
            have e1 := hN5.c1
            have hr5 := hN5.fr
            have hold5 : ∀ b, Low w.heap.size b → b < u5.heap.size := fun b hb => by
              have h1 := HB2.out.size
              have h2 := hgr3.size
              have h3 := hg5.size
              have h4 : u4.drew.heap.size = u3.heap.size + 1 := by rw [hu4]; simp
              unfold Low at hb
              omega
            have HFIN := Lib.hid hfin
            have HBEL := Lib.hid (show Below w.heap.size w u5 by
              have h1 : Below w.heap.size w u4 := by rw [hu4]; exact (HB2.out.trans (HB3.out.mono HB2.out.size)).alloc (by have := HB2.out.size; have := hgr3.size; omega) _
              exact (h1.trans ((Quiet.one u4 1).below _)).grown hg5 h1.size (fun j hj => by cases hj; exact hN4.nmU))
            have HGU := Lib.hid hN5.gU
            have HU4 := Lib.hid hu4.symm
            rw [HU4.out]
            have hfl5 : fs.length ≤ 1099511627776 := by have := HFS.out; omega
            clear hgr3 hbox4 hN4 hn5 hg5 hfa hfree hvv hfin hN5 hu4 y1 hlt2
            unfold ptrs ptrTo at hr5
            unfold ptrs ptrTo at HFIN
            unfold ptrTo at hrun
            go_region
            go_wp2_with (first
              | (at_builtin; refine wpList_rowpush rfl (.tmp 53) (.tmp 55) 53 rfl rowFl u5 (Low w.heap.size) L.fr _ _ _ rfl hr5 rfl rfl hold5 hfl5 (by omega) ?_; intro v6 w6 hrow6 hg6 hl6; obtain ⟨A6, cc6, rfl, _, _⟩ := hrow6.form; obtain ⟨m1, z1, hN6⟩ := HFIN.out w6 _ hrow6 hg6; have HN6 := Lib.hid hN6; have HG6 := Lib.hid hg6; clear hN6)
              | go_in)
            go_roundw
            case rel =>
              have hmk : Made fs (l.take k) := hU.out.made
              have htk : l.take (k + 1) = l.take k ++ [f] := by
                obtain ⟨a1, a2⟩ := List.getElem?_eq_some_iff.1 HFF.out
                rw [List.take_succ_eq_append_getElem a1, a2]
              refine ⟨k + 1, { L.up u3.heap.size (.slice A3 f.d.length c3) with fr := .slice A6 (fs.length + 1) cc6 }, fs ++ [⟨u3.heap.size, f.d, 0, false⟩], by omega, by go_num, ⟨?_, ?_, ?_, ?_⟩⟩
              · have e := namesZ_snoc (⟨u3.heap.size, f.d, 0, false⟩ : Fl) f ([] : NL) hmk.len
                rw [htk, e]
                exact HN6.out
              · rw [htk]
                exact hmk.snoc ⟨rfl, rfl, rfl⟩
              · intro j x hj hx
                by_cases e : j = k
                · subst e
                  rw [HFF.out] at hx
                  cases hx
                  exact ⟨HNB.out, HNEW.out.2⟩
                · exact hU.out.good j x (by omega) hx
              · exact (HBEL.out.grown (grown_trans (World.grownBy_alloc u5 _ _) HG6.out) HBEL.out.size (fun j hj => by
                  have := hr5.2 j hj
                  unfold Low at this
                  omega)).setCell (p := ⟨g, 1, none⟩) HGU.out _
            case measure => simp [intOf]; omega
      · obtain rfl : k = n := by omega
        have htl : l.take k = l := List.take_of_length_le (by rw [HL.out]; exact Nat.le_refl _)
        have hN := hu.at_
        have hMd := hu.made
        have hgd := hu.good
        rw [htl] at hN hMd
        have hok : (fitsB l cap && namesB l) = true := by
          rw [HFI.out, Bool.true_and]
          exact namesB_all fun j x hx => hgd j x (by have := (List.getElem?_eq_some_iff.1 hx).1; have := HL.out; omega) hx
        have hlen : (namesZ l fs []).length ≤ 1000000 := by
          have h1 := namesZ_len l fs []
          have h2 := HL.out
          simp at h1
          omega
        have c2 := hN.c2
        have HCP := Lib.hid (copied_any L.nm (namesZ l fs []) wq hN.nm hlen)
        have HDK := Lib.hid (fun w8 (hs : NamesAt w8 wq.heap.size (namesZ l fs [])) (hb : Below wq.heap.size wq w8) => hN.disk hs (Nat.le_refl _) hb hszU)
        have HGU := Lib.hid hN.gU
        have HMD := Lib.hid hMd
        have HOK := Lib.hid hok
        have HBW := Lib.hid hu.below
        clear hu hN hMd hgd hok htl
        go_wp2_with (first
          | (go_at_call 24; refine HCP.out.mono ?_; rintro e w8 ⟨rfl, h8, hb8⟩; obtain ⟨m3, z3, hd8⟩ := HDK.out w8 h8 hb8; have HD8 := Lib.hid hd8; have HB8 := Lib.hid hb8; clear h8 hb8 hd8)
          | go_in)
        go_ret
        exact ⟨(HBW.out.trans (HB8.out.mono HBW.out.size)).setCell (p := ⟨g, 3, none⟩) HGU.out _, .inl ⟨HOK.out, g, _, fs, rfl, HD8.out, HMD.out⟩⟩
end Go.Proofs.Ytekhockdgglndaa
