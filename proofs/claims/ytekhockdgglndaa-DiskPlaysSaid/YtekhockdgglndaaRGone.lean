/-
  CONTRACT OF the document's gone.
-/
import Derived.Test.YtekhockdgglndaaRList
namespace Go.Proofs.Ytekhockdgglndaa
set_option linter.unusedVariables false
set_option linter.unusedSimpArgs false
open Go.RowKit

/-- The names of the file i, put at the place p. -/
def gput (i p : Nat) (acc : List RE) (q : RE) : List RE := if q.2 = i then rput acc (q.1, p) else acc
def gin (i p : Nat) (N acc : List RE) : List RE := N.foldl (gput i p) acc
def hasB (i : Nat) (N : List RE) : Bool := N.any fun q => q.2 == i
/-- The first k files, as far as they have names. -/
def gone (fs : List RFl) (N : List RE) : Nat → List RFl × List RE
  | 0 => ([], [])
  | k + 1 => (if hasB k N = true then (gone fs N k).1 ++ (match fs[k]? with | some f => [f] | none => []) else (gone fs N k).1, gin k (gone fs N k).1.length N (gone fs N k).2)
theorem gin_next {i p : Nat} {N acc : List RE} {j : Nat} {q : RE} (h : N[j]? = some q) : gin i p (N.take (j + 1)) acc = gput i p (gin i p (N.take j) acc) q := by
  rw [take_more h]; simp [gin, List.foldl_append]
theorem hasB_next {i : Nat} {N : List RE} {j : Nat} {q : RE} (h : N[j]? = some q) : hasB i (N.take (j + 1)) = (hasB i (N.take j) || (q.2 == i)) := by
  rw [take_more h]; simp [hasB]
def cntIn (i : Nat) (N : List RE) : Nat := (N.filter fun q => q.2 == i).length
def cntTo (k : Nat) (N : List RE) : Nat := (N.filter fun q => decide (q.2 < k)).length
theorem gin_len (i p : Nat) : ∀ (N acc : List RE), (gin i p N acc).length ≤ acc.length + cntIn i N
  | [], acc => by simp [gin, cntIn]
  | q :: N, acc => by
    have e : gin i p (q :: N) acc = gin i p N (gput i p acc q) := rfl
    have := gin_len i p N (gput i p acc q)
    rw [e]
    unfold gput at this ⊢
    unfold cntIn at this ⊢
    by_cases h : q.2 = i
    · rw [if_pos h] at this ⊢
      have h2 := rput_len acc (q.1, p)
      rw [List.filter_cons_of_pos (by simpa using h), List.length_cons]
      omega
    · rw [if_neg h] at this ⊢
      rw [List.filter_cons_of_neg (by simpa using h)]
      exact this
theorem cntTo_next (k : Nat) : ∀ N : List RE, cntTo (k + 1) N = cntTo k N + cntIn k N
  | [] => rfl
  | q :: N => by
    have := cntTo_next k N
    unfold cntTo cntIn at this ⊢
    simp only [List.filter_cons]
    rcases Nat.lt_trichotomy q.2 k with h | h | h
    · rw [if_pos (by simp; omega), if_pos (by simp; omega), if_neg (by simp; omega)]; simp; omega
    · rw [if_pos (by simp; omega), if_neg (by simp; omega), if_pos (by simp; omega)]; simp; omega
    · rw [if_neg (by simp; omega), if_neg (by simp; omega), if_neg (by simp; omega)]; exact this
theorem gone_len (fs : List RFl) (N : List RE) : ∀ k, (gone fs N k).2.length ≤ cntTo k N
  | 0 => Nat.zero_le _
  | k + 1 => by
    have h1 := gone_len fs N k
    have h2 := gin_len k (gone fs N k).1.length N (gone fs N k).2
    have h3 := cntTo_next k N
    simp only [gone]
    omega
theorem cntTo_le (k : Nat) (N : List RE) : cntTo k N ≤ N.length := List.length_filter_le _ _
theorem cntIn_take (i : Nat) (N : List RE) (j : Nat) : cntIn i (N.take j) ≤ cntIn i N := by
  unfold cntIn
  conv => rhs; rw [← List.take_append_drop j N]
  rw [List.filter_append, List.length_append]
  omega
theorem gin_take_len (fs : List RFl) (N : List RE) (k j : Nat) (hn : N.length ≤ 900) : (gin k (gone fs N k).1.length (N.take j) (gone fs N k).2).length ≤ 900 := by
  have h1 := gone_len fs N k
  have h2 := gin_len k (gone fs N k).1.length (N.take j) (gone fs N k).2
  have h3 := cntTo_next k N
  have h4 := cntTo_le (k + 1) N
  have h5 := cntIn_take k N j
  omega
theorem gone_flen (fs : List RFl) (N : List RE) : ∀ k, (gone fs N k).1.length ≤ k
  | 0 => Nat.le_refl _
  | k + 1 => by
    have h1 := gone_flen fs N k
    simp only [gone]
    split
    · split <;> simp <;> omega
    · omega

/-- What gone leaves. -/
def RS.goned (R : RS) (N : List RE) : RS := { R with files := (gone R.files N R.files.length).1, now := (gone R.files N R.files.length).2, sure := (gone R.files N R.files.length).2 }
theorem gone_mem {fs : List RFl} {N : List RE} : ∀ {k : Nat} {f : RFl}, f ∈ (gone fs N k).1 → f ∈ fs
  | 0, f, h => by simp [gone] at h
  | k + 1, f, h => by
    simp only [gone] at h
    split at h
    · rcases List.mem_append.1 h with h | h
      · exact gone_mem h
      · split at h
        · rename_i g hg
          rw [List.mem_singleton.1 h]
          exact List.mem_of_getElem? hg
        · cases h
    · exact gone_mem h

theorem RRow.setx {w : World} {X : Nat → Prop} {x j : Nat} {v : Value} {A : Option Addr} {n c size : Nat} {xs : List Value} (h : RRow w (out X x) A n c size xs) : RRow (w.setCell ⟨x, j, none⟩ v) (out X x) A n c size xs :=
  h.go fun b hb => ⟨Below.heap_setCell _ _ _ _ hb.2, hb⟩
theorem gone_end {X : Nat → Prop} {x : Nat} {V : RL} {R : RS} {w wa : World} {N : List RE} {Af An : Option Addr} {cf cn k : Nat} (H : RAt w X x V R) (hb : Below w.heap.size w wa)
    (hf : Own wa w.heap.size 74 2 (.slice Af (gone R.files N R.files.length).1.length cf) (gone R.files N R.files.length).1.length (fcells (gone R.files N R.files.length).1))
    (hn : Own wa w.heap.size 77 2 (.slice An (gone R.files N R.files.length).2.length cn) (gone R.files N R.files.length).2.length (recells (gone R.files N R.files.length).2)) (hk : k = R.files.length) :
    (∃ V', RAt (((wa.setCell ⟨x, 0, none⟩ (.slice Af (gone R.files N k).1.length cf)).setCell ⟨x, 1, none⟩ (.slice An (gone R.files N k).2.length cn)).setCell ⟨x, 2, none⟩ (.slice An (gone R.files N k).2.length cn))
      (wid X w (((wa.setCell ⟨x, 0, none⟩ (.slice Af (gone R.files N k).1.length cf)).setCell ⟨x, 1, none⟩ (.slice An (gone R.files N k).2.length cn)).setCell ⟨x, 2, none⟩ (.slice An (gone R.files N k).2.length cn))) x V' (R.goned N)) ∧
    w.grownBy (((wa.setCell ⟨x, 0, none⟩ (.slice Af (gone R.files N k).1.length cf)).setCell ⟨x, 1, none⟩ (.slice An (gone R.files N k).2.length cn)).setCell ⟨x, 2, none⟩ (.slice An (gone R.files N k).2.length cn)) (some x) := by
  subst hk
  have hxl := H.lt
  have h0 := H.wider hb
  have hw : ∀ z, w.heap.size ≤ z → z < wa.heap.size → out (wid X w wa) x z := fun z h1 h2 => ⟨.inr ⟨h1, h2⟩, by omega⟩
  have r1 : RRow wa (out (wid X w wa) x) Af (gone R.files N R.files.length).1.length cf 2 (fcells (gone R.files N R.files.length).1) := ⟨SX.of_own hf hw, hf.cap.1, hf.cap.2⟩
  have r2 : RRow wa (out (wid X w wa) x) An (gone R.files N R.files.length).2.length cn 2 (recells (gone R.files N R.files.length).2) := ⟨SX.of_own hn hw, hn.cap.1, hn.cap.2⟩
  have h1 := h0.setFiles r1 (fun f hm => h0.fo f (gone_mem hm))
  have h2 := h1.setNow (A := An) (c := cn) (N := (gone R.files N R.files.length).2) r2.setx
  have h3 := h2.setSure (A := An) (c := cn) (N := (gone R.files N R.files.length).2) r2.setx.setx
  have e : wid X w (((wa.setCell ⟨x, 0, none⟩ (.slice Af (gone R.files N R.files.length).1.length cf)).setCell ⟨x, 1, none⟩ (.slice An (gone R.files N R.files.length).2.length cn)).setCell ⟨x, 2, none⟩ (.slice An (gone R.files N R.files.length).2.length cn)) = wid X w wa := by funext b; simp [wid]
  refine ⟨?_, grownx_set (grownx_set (grownx_set (grownx_below (grownx_refl w x) hb) 0 _) 1 _) 2 _⟩
  rw [e]
  exact ⟨_, h3⟩

set_option maxRecDepth 10000 in
set_option maxHeartbeats 1600000 in
theorem rgone_any (X : Nat → Prop) (x : Nat) (V : RL) (R : RS) (w : World) (h : RAt w X x V R) (A : Option Addr) (m c : Nat) (N : List RE) (hl : N.length = m) (hm : m ≤ 900) (hN : SX w (out X x) A m 2 (recells N)) (hnf : R.files.length ≤ 900) :
    Calls Try.prog 62 #[.pointer (some ⟨x, 0, none⟩), .slice A m c] w fun e w' => e = .returned (.tuple #[]) ∧ (∃ V', RAt w' (wid X w w') x V' (R.goned N)) ∧ w.grownBy w' (some x) := by
  obtain ⟨nf, hnn⟩ : ∃ nf, nf = R.files.length := ⟨_, rfl⟩
  have c0 : w.cell? ⟨x, 0, none⟩ = some (.slice V.fA nf V.fc) := by rw [hnn]; exact h.cell 0
  rw [← hnn] at hnf
  have HNF := Lib.hid hnn
  have H := Lib.hid h
  have hxl : x < w.heap.size := h.lt
  have HC0 : Hid (∀ w', Below w.heap.size w w' → w'.cell? ⟨x, 0, none⟩ = some (.slice V.fA nf V.fc)) := Lib.hid fun w' b => (b.cell (p := ⟨x, 0, none⟩) hxl).trans c0
  have HL := Lib.hid hl
  have HN := Lib.hid (fun w' (hb : Below w.heap.size w w') (j : Nat) (q : RE) (hq : N[j]? = some q) => NX.at (hN.stay fun b hx => hb.block b (h.old b hx.1)) hl hq)
  have HGL := Lib.hid (gin_take_len R.files N)
  have HGF := Lib.hid (gone_flen R.files N)
  clear h hnn hl hN c0
  go_enter Try.func62, Try.ntmps62
  go_wp2
  go_loopw [4, 5, 6, 7, 8] (fun vf vn i hd kk wr => ∃ k : Nat, k ≤ nf ∧ i = .int .i64 k ∧ (∃ b, hd = b) ∧ (∃ z, kk = z) ∧ Own wr w.heap.size 74 2 vf (gone R.files N k).1.length (fcells (gone R.files N k).1) ∧ Own wr w.heap.size 77 2 vn (gone R.files N k).2.length (recells (gone R.files N k).2) ∧ Below w.heap.size w wr) (fun _ _ i _ _ _ => nf - (intOf i).toNat)
  case atStart => exact ⟨0, Nat.zero_le _, rfl, ⟨_, rfl⟩, ⟨_, rfl⟩, Own.nil _ _ _ _ (Nat.le_refl _), Own.nil _ _ _ _ (Nat.le_refl _), Below.refl _ _⟩
  case round =>
    obtain ⟨k, hk, rfl, ⟨hd0, rfl⟩, ⟨z0, rfl⟩, hof, hon, hb⟩ := hrel
    have e0 := HC0.out wr hb
    obtain ⟨wa, hwa⟩ : ∃ wa, wa = wr := ⟨_, rfl⟩
    subst hwa
    by_cases hlt : k < nf
    · obtain ⟨f, hf⟩ : ∃ f, R.files[k]? = some f := ⟨_, List.getElem?_eq_getElem (by rw [← HNF.out]; exact hlt)⟩
      obtain ⟨b2, off2, hA2, d2, d3⟩ := H.out.file hf
      have HFA : Hid (∀ w', Below w.heap.size w w' → w'.cell? ⟨x, 0, none⟩ = some (.slice (some ⟨b2, off2, none⟩) nf V.fc) ∧ w'.cell? ⟨b2, off2 + k * 2, none⟩ = some (.slice f.A f.n f.c) ∧ w'.cell? ⟨b2, off2 + k * 2 + 1, none⟩ = some (.int .i64 (f.sure : Int))) := Lib.hid fun w' b => by
        rw [← hA2]
        exact ⟨HC0.out w' b, (b.cell (p := ⟨b2, _, none⟩) (World.block_lt_of_cell? _ _ d2)).trans d2, (b.cell (p := ⟨b2, _, none⟩) (World.block_lt_of_cell? _ _ d3)).trans d3⟩
      have HG1 : Hid ((gone R.files N (k + 1)).1 = if hasB k N = true then (gone R.files N k).1 ++ [f] else (gone R.files N k).1) := Lib.hid (by simp only [gone, hf])
      have HG2 : Hid ((gone R.files N (k + 1)).2 = gin k (gone R.files N k).1.length N (gone R.files N k).2) := Lib.hid rfl
      have hgf := HGF.out k
      have hgl := HGL.out k
      obtain ⟨G, hG⟩ : ∃ G, G = gone R.files N k := ⟨_, rfl⟩
      rw [← hG] at HG1 HG2 hof hon hgf hgl
      obtain ⟨F, NN⟩ := G
      simp only at HG1 HG2 hof hon hgf hgl
      obtain ⟨lf, hlf⟩ : ∃ lf, lf = F.length := ⟨_, rfl⟩
      rw [← hlf] at HG2 hof hgf hgl
      have HLF := Lib.hid hlf
      have HOF := Lib.hid hof
      have HON := Lib.hid hon
      have HB := Lib.hid hb
      have HGLL := Lib.hid hgl
      clear hf hA2 d2 d3 hG hlf hof hon hb hgl
      obtain ⟨Af, cf, rfl⟩ := HOF.out.form
      go_wp2
      go_loopw [5, 7, 8] (fun vn hd kk wr => ∃ j : Nat, j ≤ m ∧ kk = .int .i64 j ∧ hd = .bool (hasB k (N.take j)) ∧ Own wr w.heap.size 77 2 vn (gin k lf (N.take j) NN).length (recells (gin k lf (N.take j) NN)) ∧ Below wa.heap.size wa wr) (fun _ _ kk _ => m - (intOf kk).toNat)
      case atStart => exact ⟨0, Nat.zero_le _, rfl, rfl, HON.out, Below.refl _ _⟩
      case round =>
        obtain ⟨j, hj, rfl, rfl, hon, hb⟩ := hrel
        have hbw : Below w.heap.size w wr := HB.out.trans (hb.mono HB.out.size)
        by_cases hjl : j < m
        · obtain ⟨q, hq⟩ : ∃ q, N[j]? = some q := ⟨_, List.getElem?_eq_getElem (by rw [HL.out]; exact hjl)⟩
          obtain ⟨b, off, rfl, hXb, e2, e3⟩ := HN.out wr hbw j q hq
          have hbl : b < w.heap.size := H.out.old b hXb.1
          have HGI := Lib.hid (gin_next (i := k) (p := lf) (acc := NN) hq)
          have HHB := Lib.hid (hasB_next (i := k) hq)
          have hgl := HGLL.out j (by rw [HL.out]; exact hm)
          have HONN := Lib.hid hon
          have HBW := Lib.hid hbw
          have HBJ := Lib.hid hb
          obtain ⟨acc, hacc⟩ : ∃ acc, acc = gin k lf (N.take j) NN := ⟨_, rfl⟩
          obtain ⟨hv, hhv⟩ : ∃ hv, hv = hasB k (N.take j) := ⟨_, rfl⟩
          rw [← hacc] at hgl HGI HONN
          rw [← hhv] at HHB ⊢
          obtain ⟨An, cn, rfl⟩ := HONN.out.form
          clear hq hon hb hbw hacc hhv
          obtain ⟨p, hp⟩ : ∃ p, p = q.2 := ⟨_, rfl⟩
          rw [← hp] at e3
          by_cases hpk : p = k
          · subst hpk
            have hpe : ((p : Int) == (p : Int)) = true := by simp
            have HG3 : Hid (gput p lf acc q = rput acc (q.1, lf)) := Lib.hid (by unfold gput; rw [if_pos hp.symm])
            have HG4 : Hid ((hv || (q.2 == p)) = true) := Lib.hid (by rw [← hp]; simp)
            have HPU := Lib.hid (put_any (fun z => w.heap.size ≤ z ∧ z < wr.heap.size) An acc.length cn acc (q.1, lf) wr (fun z hz => hz.2) rfl (by omega) (SX.of_own HONN.out fun z h1 h2 => ⟨h1, h2⟩))
            clear hp
            go_wp2_with (first
              | (go_at_call 26; refine HPU.out.mono ?_; rintro e w3 ⟨v3, rfl, ho3, hb3⟩)
              | fail)
            go_roundw
            case rel => exact ⟨j + 1, by omega, by go_num, by rw [HHB.out, HG4.out], by rw [HGI.out, HG3.out]; exact ho3.lower HBW.out.size, HBJ.out.trans (hb3.mono HBJ.out.size)⟩
            case measure => simp [intOf]; omega
          · have hpe : ((p : Int) == (k : Int)) = false := by simp; omega
            have HG3 : Hid (gput k lf acc q = acc) := Lib.hid (by unfold gput; rw [if_neg (by omega)])
            have HG4 : Hid ((hv || (q.2 == k)) = hv) := Lib.hid (by rw [← hp]; simp [hpk])
            clear hp
            go_wp2
            go_roundw
            case rel => exact ⟨j + 1, by omega, by go_num, by rw [HHB.out, HG4.out], by rw [HGI.out, HG3.out]; exact HONN.out, HBJ.out⟩
            case measure => simp [intOf]; omega
        · obtain rfl : j = m := by omega
          have HT : Hid (N.take j = N) := Lib.hid (List.take_of_length_le (by rw [HL.out]; exact Nat.le_refl _))
          rw [HT.out] at hon
          rw [HT.out]
          rw [← HG2.out] at hon
          obtain ⟨An, cn, rfl⟩ := hon.form
          have HONN := Lib.hid hon
          have HBW := Lib.hid hbw
          have HBJ := Lib.hid hb
          have hof2 := HOF.out.below (hb.mono (Nat.le_refl _))
          have HOF2 := Lib.hid hof2
          obtain ⟨f0, f1, f2⟩ := HFA.out wr hbw
          obtain ⟨hv, hhv⟩ : ∃ hv, hv = hasB k N := ⟨_, rfl⟩
          rw [← hhv] at HG1 ⊢
          clear hon hb hbw hof2 hhv
          cases hv
          · go_wp2
            go_roundw
            case rel => exact ⟨k + 1, by omega, by go_num, ⟨_, rfl⟩, ⟨_, rfl⟩, by rw [HG1.out]; simp only [Bool.false_eq_true, if_false]; rw [← HLF.out]; exact HOF2.out, HONN.out, HBW.out⟩
            case measure => simp [intOf]; omega
          · go_wp2_with (at_builtin; refine wpList_push_g rfl (.tmp 42) (.tmp 50) 67 rfl rowF wr w.heap.size _ lf (fcells F) [.slice f.A f.n f.c, .int .i64 (f.sure : Int)] rfl HOF2.out rfl rfl rfl (by intro z hz; simp at hz; rcases hz with rfl | rfl <;> rfl) (by omega) (by omega) ?_; intro v2 w2 ho2 hg2)
            go_roundw
            case rel => exact ⟨k + 1, by omega, by go_num, ⟨_, rfl⟩, ⟨_, rfl⟩, by rw [HG1.out]; simp only [if_true]; rw [List.length_append, List.length_singleton, ← HLF.out, fcells_snoc]; exact ho2, (HONN.out.alloc _).other (HOF2.out.alloc _) (by decide) hg2, ((HBW.out.alloc HBW.out.size _).grown hg2 (by have := HBW.out.size; simp; omega) HOF2.out.block_ge)⟩
            case measure => simp [intOf]; omega
    · obtain rfl : k = nf := by omega
      obtain ⟨Af, cf, rfl⟩ := hof.form
      obtain ⟨An, cn, rfl⟩ := hon.form
      have HOF := Lib.hid hof
      have HON := Lib.hid hon
      have HB := Lib.hid hb
      have hnf := fun j => (H.out.below hb).nf j
      have e1 : wa.cell? ⟨x, 1, none⟩ = some (.slice V.nA R.now.length V.nc) := (H.out.below hb).cell 1
      have e2 : wa.cell? ⟨x, 2, none⟩ = some (.slice V.sA R.sure.length V.sc) := (H.out.below hb).cell 2
      clear hof hon hb
      go_wp2
      first | go_end0 | skip
      have hk := HNF.out
      exact ⟨rfl, gone_end H.out HB.out (by rw [← hk]; exact HOF.out) (by rw [← hk]; exact HON.out) hk⟩
end Go.Proofs.Ytekhockdgglndaa
