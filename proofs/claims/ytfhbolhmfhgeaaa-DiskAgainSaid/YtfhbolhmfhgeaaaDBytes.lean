/-
  CONTRACTS OF within and keepBytes.
-/
import Derived.Test.YtfhbolhmfhgeaaaDForget
import Derived.BigRegion
import Derived.StillTailTactics
namespace Go.Proofs.Ytfhbolhmfhgeaaa
set_option linter.unusedVariables false
set_option linter.unusedSimpArgs false
open Go.RowKit Go.Maps

/-- n, or the nearest of 0 and most. -/
def withinN (n : Int) (most : Nat) : Nat := (min (max n 0) (most : Int)).toNat
theorem within_le (n : Int) (most : Nat) : withinN n most ≤ most := by unfold withinN; omega
theorem within_any (n : Int) (most : Nat) (w : World) : Calls Try.prog 57 #[.int .i64 n, .int .i64 (most : Int)] w fun e w' => e = .returned (.int .i64 (withinN n most : Nat)) ∧ w = w' := by
  by_cases h1 : n < 0
  · have H := Lib.hid (show ((withinN n most : Nat) : Int) = 0 by unfold withinN; omega)
    have h0 : (0 : Int) ≤ (most : Int) := by omega
    go_enter Try.func57, Try.ntmps57
    go_wp2
    all_goals
      go_ret
      exact ⟨ret_int64 (by rw [H.out]; try omega), rfl⟩
  · by_cases h2 : n ≤ (most : Int)
    · have H := Lib.hid (show ((withinN n most : Nat) : Int) = n by unfold withinN; omega)
      go_enter Try.func57, Try.ntmps57
      go_wp2
      all_goals
        go_ret
        exact ⟨ret_int64 (by rw [H.out]; try omega), rfl⟩
    · have H := Lib.hid (show ((withinN n most : Nat) : Int) = (most : Int) by unfold withinN; omega)
      go_enter Try.func57, Try.ntmps57
      go_wp2
      all_goals
        go_ret
        exact ⟨ret_int64 (by rw [H.out]; try omega), rfl⟩

/-- The i-th file that has bytes which aren't sure. -/
def keepAt (nums : List Int) (i : Nat) (f : Fl) : Fl :=
  if f.unsure = 0 then f else if f.named = true then { f with data := f.data.take (f.data.length - f.unsure + withinN (nums.getD i 0) f.unsure), unsure := 0 } else f
def cntU (fs : List Fl) : Nat := (fs.filter fun f => f.unsure != 0).length
def keepB (nums : List Int) : Nat → List Fl → List Fl
  | _, [] => []
  | i, f :: r => keepAt nums i f :: keepB nums (if f.unsure = 0 then i else i + 1) r
theorem keepB_len (nums : List Int) : ∀ (i : Nat) (fs : List Fl), (keepB nums i fs).length = fs.length
  | _, [] => rfl
  | i, f :: r => by simp [keepB, keepB_len nums _ r]
theorem keepB_at (nums : List Int) : ∀ (i : Nat) (fs : List Fl) (k : Nat), (keepB nums i fs)[k]? = (fs[k]?).map (keepAt nums (i + cntU (fs.take k)))
  | i, [], k => by simp [keepB]
  | i, f :: r, 0 => by simp [keepB, cntU]
  | i, f :: r, k + 1 => by
    unfold keepB
    rw [List.getElem?_cons_succ, List.getElem?_cons_succ, keepB_at nums _ r k]
    have : (if f.unsure = 0 then i else i + 1) + cntU (r.take k) = i + cntU ((f :: r).take (k + 1)) := by
      unfold cntU
      rw [List.take_succ_cons, List.filter_cons]
      by_cases h : f.unsure = 0
      · simp [h]
      · simp [h]
        omega
    rw [this]
def keptB (nums : List Int) (k : Nat) (fs : List Fl) : List Fl := (keepB nums 0 fs).take k ++ fs.drop k
theorem keptB_len (nums : List Int) (k : Nat) (fs : List Fl) : (keptB nums k fs).length = fs.length := by simp [keptB, keepB_len]; omega
theorem keptB_get (nums : List Int) (k j : Nat) (fs : List Fl) : (keptB nums k fs)[j]? = if j < k then (fs[j]?).map (keepAt nums (cntU (fs.take j))) else fs[j]? := by
  unfold keptB
  rw [List.getElem?_append]
  simp only [List.length_take, keepB_len, List.getElem?_take, List.getElem?_drop, keepB_at, Nat.zero_add]
  by_cases h2 : j < fs.length
  · by_cases h1 : j < k
    · rw [if_pos h1, if_pos (by omega), if_pos h1]
    · rw [if_neg (show ¬ j < min k fs.length by omega), if_neg h1, show k + (j - min k fs.length) = j by omega]
  · have e : fs[j]? = none := List.getElem?_eq_none (by omega)
    rw [e, if_neg (by omega), List.getElem?_eq_none (by omega)]
    split <;> rfl
theorem keptB_at {nums : List Int} {k : Nat} {fs : List Fl} : (keptB nums k fs)[k]? = fs[k]? := by rw [keptB_get, if_neg (by omega)]
theorem keptB_step {nums : List Int} {k : Nat} {fs : List Fl} {f : Fl} (hf : fs[k]? = some f) : (keptB nums k fs).set k (keepAt nums (cntU (fs.take k)) f) = keptB nums (k + 1) fs := by
  obtain ⟨hk, he⟩ := List.getElem?_eq_some_iff.1 hf
  refine List.ext_getElem? fun j => ?_
  by_cases e : k = j
  · subst e
    rw [List.getElem?_set_self (by rw [keptB_len]; exact hk), keptB_get, if_pos (by omega), hf]
    rfl
  · rw [List.getElem?_set_ne e, keptB_get, keptB_get]
    by_cases h1 : j < k
    · rw [if_pos h1, if_pos (by omega)]
    · rw [if_neg h1, if_neg (by omega)]
theorem keptB_same {nums : List Int} {k : Nat} {fs : List Fl} {f : Fl} (hf : fs[k]? = some f) (hu : keepAt nums (cntU (fs.take k)) f = f) : keptB nums (k + 1) fs = keptB nums k fs := by
  rw [← keptB_step hf, hu]
  obtain ⟨hk, he⟩ := List.getElem?_eq_some_iff.1 hf
  refine List.ext_getElem? fun j => ?_
  by_cases e : k = j
  · subst e
    rw [List.getElem?_set_self (by rw [keptB_len]; exact hk), keptB_at, hf]
  · rw [List.getElem?_set_ne e]
theorem keptB_end (nums : List Int) (fs : List Fl) : keptB nums fs.length fs = keepB nums 0 fs := by
  unfold keptB
  rw [List.take_of_length_le (by rw [keepB_len]; exact Nat.le_refl _)]
  simp
theorem cntU_snoc {fs : List Fl} {k : Nat} {f : Fl} (hf : fs[k]? = some f) : cntU (fs.take (k + 1)) = cntU (fs.take k) + if f.unsure = 0 then 0 else 1 := by
  obtain ⟨h1, h2⟩ := List.getElem?_eq_some_iff.1 hf
  unfold cntU
  rw [List.take_succ_eq_append_getElem h1, h2, List.filter_append, List.length_append]
  congr 1
  by_cases h : f.unsure = 0 <;> simp [h]
theorem cntU_le (fs : List Fl) (k : Nat) : cntU (fs.take k) ≤ k := by
  unfold cntU
  have := List.length_filter_le (fun f : Fl => f.unsure != 0) (fs.take k)
  have := List.length_take_le k fs
  omega
/-- Numbers, as cells. -/
def by64 (l : List Int) : List Value := l.map (Value.int .i64)
theorem ShX.num {w : World} {X : Nat → Prop} {A : Option Addr} {n : Nat} {l : List Int} (h : ShX w X A n (by64 l)) {k : Nat} (hk : k < n) :
    ∃ b off, A = some ⟨b, off, none⟩ ∧ w.cell? ⟨b, off + k, none⟩ = some (.int .i64 (l.getD k 0)) := by
  obtain ⟨b, off, e, hb, hc⟩ := h.2 (by omega)
  have hl : k < l.length := by have := h.1; simp [by64] at this; omega
  refine ⟨b, off, e, ?_⟩
  have := hc k (.int .i64 l[k]) (by simp [by64, hl])
  rw [this]
  simp [hl]

section
variable {w : World} {X : Nat → Prop} {g : Nat} {L : Lay} {S : St}
/-- A file keeps its first z bytes, and is sure. -/
theorem Lies.cut {w1 : World} (h : Lies X g L S w w1) {i : Nat} {f : Fl} (hi : S.fs[i]? = some f) {A : Option Addr} {c z : Nat} (hrf : L.row f.blk = .slice A f.data.length c) (hz : z ≤ f.data.length) (hp : 0 < f.data.length) :
    Lies X g (L.up f.blk (.slice A z c)) { S with fs := S.fs.set i { f with data := f.data.take z, unsure := 0 } } w ((w1.setCell ⟨f.blk, 0, none⟩ (.slice A z c)).setCell ⟨f.blk, 1, none⟩ (.int .i64 0)) := by
  have hfa := h.1.fo f (List.mem_of_getElem? hi)
  have hr := hfa.row
  rw [hrf] at hr
  obtain ⟨b, hA⟩ : ∃ b, A = some ⟨b, 0, none⟩ := by
    obtain ⟨g', cap', e, _⟩ := hr.1.form hp
    injection e with e _ _
    exact ⟨g', e⟩
  subst hA
  have hown : Value.ownBlock (.slice (some ⟨b, 0, none⟩) z c) = (L.row f.blk).ownBlock := by rw [hrf]; rfl
  have hstay : ∀ (k : Nat), k ≠ f.blk → ((w1.setCell ⟨f.blk, 0, none⟩ (.slice (some ⟨b, 0, none⟩) z c)).setCell ⟨f.blk, 1, none⟩ (.int .i64 0)).heap[k]? = w1.heap[k]? := fun k hne => (Below.heap_setCell _ _ _ _ hne).trans (Below.heap_setCell _ _ _ _ hne)
  have hr2 := hr.head hz
  rw [by8_take] at hr2
  refine ⟨h.1.file (w' := (w1.setCell ⟨f.blk, 0, none⟩ (.slice (some ⟨b, 0, none⟩) z c)).setCell ⟨f.blk, 1, none⟩ (.int .i64 0)) hi (f' := { f with data := f.data.take z, unsure := 0 }) rfl (v := .slice (some ⟨b, 0, none⟩) z c) (by simp) (fun k _ hk _ => hstay k hk) ((hfa.blk.set 0 _).set 1 _)
    ((hr2.cast (by simp; omega) rfl).stay fun j hj => hstay j (fun e => hr2.ne_blk hfa.blk (by decide) (by rw [hj, e]))) (fun j hj => .inl (by rw [← hown]; exact hj)), ?_⟩
  have hX := hfa.out
  exact (h.2.grown (grown_set w1 f.blk 0 _) h.1.old (fun k hk => by cases hk; exact hX)).grown (grown_set _ f.blk 1 _) (fun b hb => by have := h.1.old b hb; simpa using this) (fun k hk => by cases hk; exact hX)
def St.bytesKept (S : St) (nums : List Int) : St := { S with fs := keepB nums 0 S.fs }
set_option maxRecDepth 10000 in
set_option maxHeartbeats 1600000 in
theorem keepBytes_any (h : DAt w X g L S) (hf : S.fs.length ≤ 100000) (hun : ∀ f ∈ S.fs, f.unsure ≤ 1048576) (hd : ∀ f ∈ S.fs, f.data.length ≤ 1048576) (hnu : ∀ f ∈ S.fs, f.named = true → f.unsure ≤ f.data.length)
    (B : Option Addr) (m c : Nat) (nums : List Int) (hx : ShX w X B m (by64 nums)) (hm : m ≤ 1000000000) :
    Calls Try.prog 58 #[ptrTo g, .slice B m c] w fun e w' => e = .returned (.tuple #[]) ∧ (∃ L', DAt w' X g L' (S.bytesKept nums)) ∧ Keeps X w w' := by
  obtain ⟨A, cc, hfr, _, _⟩ := h.fr.form
  have c1 := h.c1
  rw [hfr] at c1
  obtain ⟨n, hn⟩ : ∃ n, n = S.fs.length := ⟨_, rfl⟩
  rw [← hn] at c1 hf
  have HN := Lib.hid hn.symm
  have HFR := Lib.hid (show L.fr = .slice A n cc by rw [hfr, hn])
  have HL := Lib.hid (⟨h, Keeps.refl X w⟩ : Lies X g L S w w)
  have HX := Lib.hid (fun w' (k : Keeps X w w') => hx.keep k)
  have HU := Lib.hid (fun f hf' => And.intro (hun f hf') (And.intro (hd f hf') (hnu f hf')))
  clear h hx hun hd hnu hn hfr
  unfold ptrTo
  go_enter Try.func58, Try.ntmps58
  go_wp2
  go_loopw [4, 13] (fun x i wr => ∃ (k : Nat) (L' : Lay), k ≤ n ∧ i = .int .i64 k ∧ x = .int .i64 (cntU (S.fs.take k) : Nat) ∧ Hid (L'.fr = .slice A n cc) ∧ Lies X g L' { S with fs := keptB nums k S.fs } w wr) (fun _ i _ => n - (intOf i).toNat)
  case atStart => exact ⟨0, L, Nat.zero_le _, rfl, rfl, HFR.out, HL.out⟩
  case round =>
    obtain ⟨k, L', hk, rfl, rfl, hf1, hl⟩ := hrel
    by_cases hlt : k < n
    · obtain ⟨b, off, f, rfl, hfk, hcell⟩ := hl.1.ptr hf1.out (by show (keptB nums k S.fs).length = n; rw [keptB_len, HN.out]) hlt
      have hfk' : S.fs[k]? = some f := by rw [← keptB_at (nums := nums)]; exact hfk
      have hcu := cntU_snoc hfk'
      have hcl := cntU_le S.fs k
      obtain ⟨q, hq⟩ : ∃ q, q = cntU (S.fs.take k) := ⟨_, rfl⟩
      rw [← hq] at hcu hcl ⊢
      have HQ := Lib.hid hq
      have HCU := Lib.hid hcu
      have hfa := hl.1.fo f (List.mem_of_getElem? hfk)
      obtain ⟨hu1, hu2, hu3⟩ := HU.out f (List.mem_of_getElem? hfk')
      have m1 := hfa.c1
      have m2 := hfa.c2
      obtain ⟨Af, cf, hrf, _, _⟩ := hfa.row.form
      have m0 := hfa.c0
      rw [hrf] at m0
      have z0 := hfa.blk.nf 0
      have z1 := hfa.blk.nf 1
      have HL1 := Lib.hid hl
      have HFK := Lib.hid hfk
      have HFK' := Lib.hid hfk'
      have HX1 := Lib.hid (HX.out wr hl.2)
      have HRF := Lib.hid hrf
      have HFA := Lib.hid hfa
      have HU3 := Lib.hid hu3
      clear hl hfk hfk' hq hcu hfa hrf hu3
      unfold ptrTo at *
      obtain ⟨fb, fd, fu, fn⟩ := f
      simp only at m0 m1 m2 z0 z1 hu1 hu2
      by_cases hu0 : fu = 0
      · subst hu0
        go_wp2
        go_roundw
        case rel =>
          refine ⟨k + 1, L', by omega, by go_num, ?_, hf1, by rw [keptB_same HFK'.out (by unfold keepAt; rfl)]; exact HL1.out⟩
          rw [HCU.out]
          rfl
        case measure => simp [intOf]; omega
      · have hne : ((fu : Int) == 0) = false := by simp; omega
        have hnu : Hid (¬ fu = 0) := Lib.hid hu0
        obtain ⟨y, hy⟩ : ∃ y, y = withinN (nums.getD q 0) fu := ⟨_, rfl⟩
        have hyle : y ≤ fu := by rw [hy]; exact within_le _ _
        have HY := Lib.hid hy
        clear hy
        by_cases hqm : q < m
        · obtain ⟨bx, ox, rfl, hnum⟩ := HX1.out.num hqm
          have HW := Lib.hid (fun w => within_any (nums.getD q 0) fu w)
          rw [← HY.out] at HW
          cases fn with
          | true =>
            go_wp2
            go_quiet ((go_at_call 57; exact Calls.quiet_of_same ((HW.out _).mono fun e w' ⟨h1, h2⟩ => ⟨h1, h2.symm⟩)))
            go_wp2
            have hz : ∃ z : Nat, (z : Int) = (fd.length : Int) - (fu : Int) + (y : Int) ∧ z ≤ fd.length := ⟨fd.length - fu + y, by have := HU3.out trivial; omega, by have := HU3.out trivial; omega⟩
            obtain ⟨z, hz, hzl⟩ := hz
            have hw1 : IntKind.i64.wrap ((fd.length : Int) - (fu : Int)) = (fd.length : Int) - (fu : Int) := IntWalk.i64_in _ (by omega)
            have hw2 : IntKind.i64.wrap ((fd.length : Int) - (fu : Int) + (y : Int)) = (z : Int) := by rw [← hz]; exact IntWalk.i64_in _ (by omega)
            have HZ := Lib.hid hz
            clear hz
            obtain ⟨w2, hw2⟩ : ∃ w2, w2 = wr.drewN nq := ⟨_, rfl⟩
            rw [← hw2]
            have n0 : w2.cell? ⟨fb, 0, none⟩ = some (.slice Af fd.length cf) := by rw [hw2]; exact m0
            have n1 : w2.cell? ⟨fb, 1, none⟩ = some (.int .i64 (fu : Int)) := by rw [hw2]; exact m1
            have y0 : w2.frozen? ⟨fb, 0, none⟩ = false := by rw [hw2]; exact z0
            have y1 : w2.frozen? ⟨fb, 1, none⟩ = false := by rw [hw2]; exact z1
            have HLW := Lib.hid (show Lies X g L' { S with fs := keptB nums k S.fs } w w2 by rw [hw2]; exact ⟨HL1.out.1.drewN _, HL1.out.2.quiet ⟨_, rfl⟩⟩)
            clear hw2
            go_region
            go_wp2
            go_roundw
            case rel =>
              have hcut := (HLW.out).cut HFK.out HRF.out hzl (by have := HU3.out trivial; have h2 := hnu.out; show 0 < fd.length; have h3 : fu ≤ fd.length := this; omega)
              refine ⟨k + 1, L'.up fb (.slice Af z cf), by omega, by go_num, ?_, hf1, ?_⟩
              · rw [HCU.out]
                simp [hnu.out]
              · have e := keptB_step (nums := nums) HFK'.out
                have e2 : keepAt nums (cntU (S.fs.take k)) ⟨fb, fd, fu, true⟩ = ⟨fb, fd.take z, 0, true⟩ := by
                  unfold keepAt
                  rw [if_neg hnu.out, if_pos rfl, ← HQ.out]
                  simp only [Fl.mk.injEq, true_and, and_true]
                  congr 1
                  have := HZ.out
                  have := HY.out
                  have h3 : fu ≤ fd.length := HU3.out trivial
                  show fd.length - fu + withinN (nums.getD q 0) fu = z
                  omega
                rw [e2] at e
                rw [← e]
                exact hcut.drew
            case measure => simp [intOf]; omega
          | false =>
            go_wp2
            go_quiet ((go_at_call 57; exact Calls.quiet_of_same ((HW.out _).mono fun e w' ⟨h1, h2⟩ => ⟨h1, h2.symm⟩)))
            go_wp2
            go_roundw
            case rel => 
              refine ⟨k + 1, L', by omega, by go_num, ?_, hf1, by rw [keptB_same HFK'.out (by unfold keepAt; rw [if_neg hnu.out]; rfl)]; exact ⟨HL1.out.1.drewN _, HL1.out.2.quiet ⟨_, rfl⟩⟩⟩
              rw [HCU.out]
              simp [hnu.out]
            case measure => simp [intOf]; omega
        · have hg0 : nums.getD q 0 = 0 := by
            have hlen : nums.length = m := by have := HX1.out.1; simpa [by64] using this
            rw [List.getD_eq_getElem?_getD, List.getElem?_eq_none (by omega)]
            rfl
          obtain rfl : y = 0 := by rw [HY.out, hg0]; unfold withinN; omega
          clear hg0
          cases fn with
          | true =>
            go_wp2
            have hz : ∃ z : Nat, (z : Int) = (fd.length : Int) - (fu : Int) ∧ z ≤ fd.length := ⟨fd.length - fu, by have := HU3.out trivial; omega, by have := HU3.out trivial; omega⟩
            obtain ⟨z, hz, hzl⟩ := hz
            have hw1 : IntKind.i64.wrap ((fd.length : Int) - (fu : Int)) = (z : Int) := by rw [← hz]; exact IntWalk.i64_in _ (by omega)
            have hw2 : IntKind.i64.wrap (z : Int) = (z : Int) := IntWalk.i64_in _ (by omega)
            have HZ := Lib.hid hz
            clear hz
            obtain ⟨w2, hw2⟩ : ∃ w2, w2 = wr := ⟨_, rfl⟩
            rw [← hw2]
            have n0 : w2.cell? ⟨fb, 0, none⟩ = some (.slice Af fd.length cf) := by rw [hw2]; exact m0
            have n1 : w2.cell? ⟨fb, 1, none⟩ = some (.int .i64 (fu : Int)) := by rw [hw2]; exact m1
            have y0 : w2.frozen? ⟨fb, 0, none⟩ = false := by rw [hw2]; exact z0
            have y1 : w2.frozen? ⟨fb, 1, none⟩ = false := by rw [hw2]; exact z1
            have HLW := Lib.hid (show Lies X g L' { S with fs := keptB nums k S.fs } w w2 by rw [hw2]; exact HL1.out)
            clear hw2
            go_region
            go_wp2
            go_roundw
            case rel =>
              have hcut := (HLW.out).cut HFK.out HRF.out hzl (by have := HU3.out trivial; have h2 := hnu.out; show 0 < fd.length; have h3 : fu ≤ fd.length := this; omega)
              refine ⟨k + 1, L'.up fb (.slice Af z cf), by omega, by go_num, ?_, hf1, ?_⟩
              · rw [HCU.out]
                simp [hnu.out]
              · have e := keptB_step (nums := nums) HFK'.out
                have e2 : keepAt nums (cntU (S.fs.take k)) ⟨fb, fd, fu, true⟩ = ⟨fb, fd.take z, 0, true⟩ := by
                  unfold keepAt
                  rw [if_neg hnu.out, if_pos rfl, ← HQ.out]
                  simp only [Fl.mk.injEq, true_and, and_true]
                  congr 1
                  have := HZ.out
                  have := HY.out
                  have h3 : fu ≤ fd.length := HU3.out trivial
                  show fd.length - fu + withinN (nums.getD q 0) fu = z
                  omega
                rw [e2] at e
                rw [← e]
                exact hcut.drew
            case measure => simp [intOf]; omega
          | false =>
            go_wp2
            go_roundw
            case rel => 
              refine ⟨k + 1, L', by omega, by go_num, ?_, hf1, by rw [keptB_same HFK'.out (by unfold keepAt; rw [if_neg hnu.out]; rfl)]; exact HL1.out⟩
              rw [HCU.out]
              simp [hnu.out]
            case measure => simp [intOf]; omega
    · obtain rfl : k = n := by omega
      have hk2 := hl.2
      have hd2 := hl.1
      have e : keptB nums k S.fs = keepB nums 0 S.fs := by rw [← HN.out, keptB_end]
      rw [e] at hd2
      have HD2 := Lib.hid hd2
      clear hl hd2 e
      go_wp2
      go_end0
      exact ⟨rfl, ⟨L', HD2.out⟩, hk2⟩
end
end Go.Proofs.Ytfhbolhmfhgeaaa
