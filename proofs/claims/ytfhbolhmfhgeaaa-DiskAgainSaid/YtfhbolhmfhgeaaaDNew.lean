/-
  A DISK THAT IS BEING MADE.
-/
import Derived.Test.YtfhbolhmfhgeaaaDFits
namespace Go.Proofs.Ytfhbolhmfhgeaaa
set_option linter.unusedVariables false
set_option linter.unusedSimpArgs false
open Go.RowKit Go.Maps

/-- Blocks below U. -/
def Low (U : Nat) : Nat → Prop := fun b => b < U
/-- A disk under way: names are not sure yet. -/
structure NAt (w : World) (U : Nat) (g : Nat) (L : Lay) (cap : Int) (fs : List Fl) (N : NL) : Prop where
  gU : U ≤ g
  cells : Blk w g 77 [.int .i64 cap, L.fr, .map (some L.nm), .map none, .slice none 0 0, .int .i64 0, .int .i64 0, .int .i64 0, .int .i64 0, .bool false]
  fr : Row w (Low U) 78 L.fr fs.length (ptrs fs)
  nm : NamesAt w L.nm N
  nmU : U ≤ L.nm
  fo : ∀ f ∈ fs, FileAt w (Low U) (L.row f.blk) f
  nd : fs.Pairwise (Apart L)
section
variable {w w' : World} {U g : Nat} {L : Lay} {cap : Int} {fs : List Fl} {N : NL}
theorem NAt.grown (h : NAt w U g L cap fs N) (hg : w.grownBy w' none) : NAt w' U g L cap fs N := by
  have rk : ∀ {t : TypeId} {v : Value} {n : Nat} {xs : List Value}, Row w (Low U) t v n xs → Row w' (Low U) t v n xs := fun r => r.stay fun j hj => hg.block j (r.lt hj) (by simp)
  exact ⟨h.gU, h.cells.keep hg (by simp), rk h.fr, h.nm.keep hg (by simp), h.nmU, fun f hf => ⟨(h.fo f hf).blk.keep hg (by simp), (h.fo f hf).out, rk (h.fo f hf).row⟩, h.nd⟩
theorem NAt.put (h : NAt w U g L cap fs N) {N' : NL} (hg : w.grownBy w' (some L.nm)) (hn : NamesAt w' L.nm N') : NAt w' U g L cap fs N' := by
  have kb : ∀ {b : Nat} {t : TypeId} {xs : List Value}, Blk w b t xs → Blk w' b t xs := fun hb => hb.keep hg (fun e => h.nm.ne_blk hb (by injection e))
  have rk : ∀ {t : TypeId} {v : Value} {n : Nat} {xs : List Value}, Row w (Low U) t v n xs → Row w' (Low U) t v n xs := fun r => r.stay fun j hj => hg.block j (r.lt hj) (fun e => r.ne_names h.nm (by rw [hj]; exact e))
  exact ⟨h.gU, kb h.cells, rk h.fr, hn, h.nmU, fun f hf => ⟨kb (h.fo f hf).blk, (h.fo f hf).out, rk (h.fo f hf).row⟩, h.nd⟩
theorem NAt.push {w6 : World} (h : NAt w U g L cap fs N) {f : Fl} {v : Value} (hf : FileAt w (Low U) v f) (hfree : Free fs f.blk) (hv : ∀ f2 ∈ fs, ∀ j, v.ownBlock = some j → (L.row f2.blk).ownBlock ≠ some j) {v6 : Value} {u : Value}
    (hr : Row w6 (Low U) 78 v6 (fs.length + 1) (ptrs fs ++ [ptrTo f.blk])) (hg : (w.alloc (.cells #[u] 78)).grownBy w6 L.fr.ownBlock) :
    NAt (w6.setCell ⟨g, 1, none⟩ v6) U g { L.up f.blk v with fr := v6 } cap (fs ++ [f]) N := by
  have hga : w.grownBy w6 L.fr.ownBlock := grown_trans (World.grownBy_alloc _ _ _) hg
  have kb : ∀ {b : Nat} {t : TypeId} {xs : List Value}, t ≠ 78 → Blk w b t xs → b ≠ g → Blk (w6.setCell ⟨g, 1, none⟩ v6) b t xs := fun ht hb hne => (hb.keep hga (fun e => h.fr.ne_blk hb (fun e => ht e.symm) e)).stay (Below.heap_setCell _ _ _ _ hne)
  have hc6 : Blk w6 g 77 _ := h.cells.keep hga (fun e => h.fr.ne_blk h.cells (by decide) e)
  have rk : ∀ {t : TypeId} {v : Value} {n : Nat} {xs : List Value}, t ≠ 78 → t ≠ 77 → Row w (Low U) t v n xs → Row (w6.setCell ⟨g, 1, none⟩ v6) (Low U) t v n xs := fun ht ht2 r =>
    r.stay fun j hj => (Below.heap_setCell _ _ _ _ (fun e => r.ne_blk h.cells ht2 (by rw [hj]; simp at e; rw [e]))).trans (hga.block j (r.lt hj) (fun e => h.fr.ne_row r (fun e => ht e.symm) hj e.symm))
  have hfb : ∀ f2 ∈ fs, f2.blk ≠ f.blk := fun f2 h2 => hfree f2 h2
  refine ⟨h.gU, hc6.set 1 v6, (hr.cast (by simp) (by simp [ptrs])).stay fun j hj => Below.heap_setCell _ _ _ _ (fun e => hr.ne_blk hc6 (by decide) (by rw [hj]; simp at e; rw [e])), ?_, h.nmU, fun f2 h2 => ?_, ?_⟩
  · exact (h.nm.keep hga (fun e => h.fr.ne_names h.nm e)).stay (Below.heap_setCell _ _ _ _ (h.nm.ne_blk h.cells))
  · rcases List.mem_append.1 h2 with h3 | h3
    · have h4 := h.fo f2 h3
      have e2 : ({ L.up f.blk v with fr := v6 } : Lay).row f2.blk = L.row f2.blk := Lay.up_other _ _ (hfb f2 h3)
      rw [e2]
      exact ⟨kb (by decide) h4.blk (h4.blk.ne h.cells (by decide)), h4.out, rk (by decide) (by decide) h4.row⟩
    · have e := List.mem_singleton.1 h3
      subst e
      have e2 : ({ L.up f2.blk v with fr := v6 } : Lay).row f2.blk = v := Lay.up_same _ _ _
      rw [e2]
      exact ⟨kb (by decide) hf.blk (hf.blk.ne h.cells (by decide)), hf.out, rk (by decide) (by decide) hf.row⟩
  · rw [List.pairwise_append]
    refine ⟨h.nd.imp_of_mem fun {a b} ha hb hab => ⟨hab.1, ?_⟩, by simp, fun f2 h3 f' h4 => ?_⟩
    · have e1 : ({ L.up f.blk v with fr := v6 } : Lay).row a.blk = L.row a.blk := Lay.up_other _ _ (hfb a ha)
      have e2 : ({ L.up f.blk v with fr := v6 } : Lay).row b.blk = L.row b.blk := Lay.up_other _ _ (hfb b hb)
      rw [e1, e2]
      exact hab.2
    · have e := List.mem_singleton.1 h4
      subst e
      have e1 : ({ L.up f'.blk v with fr := v6 } : Lay).row f2.blk = L.row f2.blk := Lay.up_other _ _ (hfb f2 h3)
      have e2 : ({ L.up f'.blk v with fr := v6 } : Lay).row f'.blk = v := Lay.up_same _ _ _
      refine ⟨hfb f2 h3, fun j hj e => ?_⟩
      rw [e1] at hj
      rw [e2] at e
      exact hv f2 h3 j e hj
/-- A new disk. -/
def newSt (cap : Int) (fs : List Fl) (N : NL) : St := { cap := cap, fs := fs, names := N, sure := N, waits := [], calls := 0, fuse := 0, fault := 0, fe := 0, dead := false }
theorem NAt.disk (h : NAt w U g L cap fs N) {sm : Nat} (hs : NamesAt w' sm N) (hsU : w.heap.size ≤ sm) (hb : Below w.heap.size w w') (hU : U ≤ w.heap.size) :
    w'.cell? ⟨g, 3, none⟩ = some (.map none) ∧ w'.frozen? ⟨g, 3, none⟩ = false ∧ DAt (w'.setCell ⟨g, 3, none⟩ (.map (some sm))) (Low U) g { L with sm := sm, wr := .slice none 0 0 } (newSt cap fs N) := by
  have h1 := h.grown (grown_of_below hb none)
  have kb : ∀ {b : Nat} {t : TypeId} {xs : List Value}, Blk w' b t xs → b ≠ g → Blk (w'.setCell ⟨g, 3, none⟩ (.map (some sm))) b t xs := fun hb hne => hb.stay (Below.heap_setCell _ _ _ _ hne)
  have rk : ∀ {t : TypeId} {v : Value} {n : Nat} {xs : List Value}, t ≠ 77 → Row w' (Low U) t v n xs → Row (w'.setCell ⟨g, 3, none⟩ (.map (some sm))) (Low U) t v n xs := fun ht r =>
    r.stay fun j hj => Below.heap_setCell _ _ _ _ (fun e => r.ne_blk h1.cells ht (by rw [hj]; simp at e; rw [e]))
  have hnl := h.nm.lt
  refine ⟨h1.cells.cell 3, h1.cells.nf 3, ⟨by have := h.gU; unfold Low; omega, fun b hb' => ?_, h1.cells.set 3 _, rk (by decide) h1.fr, h1.nm.stay (Below.heap_setCell _ _ _ _ (h1.nm.ne_blk h1.cells)), by have := h.nmU; unfold Low; show ¬ L.nm < U; omega, hs.stay (Below.heap_setCell _ _ _ _ (hs.ne_blk h1.cells)), by unfold Low; show ¬ sm < U; omega, by show L.nm ≠ sm; omega, ⟨[], Row.nil _ _ _, trivial⟩, fun f hf => ?_, h1.nd⟩⟩
  · unfold Low at hb'
    have := hb.size
    simp
    omega
  · have h4 := h1.fo f hf
    exact ⟨kb h4.blk (h4.blk.ne h1.cells (by decide)), h4.out, rk (by decide) h4.row⟩
end

/-- The files that are made of those that are handed in. -/
def Made : List Fl → List FIn → Prop
  | [], [] => True
  | f :: fs, x :: l => (f.data = x.d ∧ f.unsure = 0 ∧ f.named = false) ∧ Made fs l
  | _, _ => False
def namesZ : List FIn → List Fl → NL → NL
  | x :: l, f :: fs, N => namesZ l fs (nput x.s.data.toList f.blk N)
  | _, _, N => N
theorem Made.len : ∀ {fs : List Fl} {l : List FIn}, Made fs l → fs.length = l.length
  | [], [], _ => rfl
  | _ :: fs, _ :: l, h => by simp [Made.len h.2]
theorem Made.snoc {f : Fl} {x : FIn} (hf : f.data = x.d ∧ f.unsure = 0 ∧ f.named = false) : ∀ {fs : List Fl} {l : List FIn}, Made fs l → Made (fs ++ [f]) (l ++ [x])
  | [], [], _ => ⟨hf, trivial⟩
  | _ :: fs, _ :: l, h => ⟨h.1, Made.snoc hf h.2⟩
theorem namesZ_snoc (f : Fl) (x : FIn) : ∀ {fs : List Fl} {l : List FIn} (N : NL), fs.length = l.length → namesZ (l ++ [x]) (fs ++ [f]) N = nput x.s.data.toList f.blk (namesZ l fs N)
  | [], [], N, _ => rfl
  | g :: fs, y :: l, N, h => namesZ_snoc f x (nput y.s.data.toList g.blk N) (by simpa using h)
theorem Made.mem : ∀ {fs : List Fl} {l : List FIn}, Made fs l → ∀ f ∈ fs, ∃ x ∈ l, f.data = x.d ∧ f.unsure = 0 ∧ f.named = false
  | [], [], _, f, hf => by cases hf
  | g :: fs, x :: l, h, f, hf => by
    rcases List.mem_cons.1 hf with rfl | hf
    · exact ⟨x, by simp, h.1⟩
    · obtain ⟨y, hy, r⟩ := Made.mem h.2 f hf
      exact ⟨y, by simp [hy], r⟩
def keyF (x : FIn) : Nm := x.s.data.toList
theorem ris_namesZ : ∀ {l : List FIn} {fs : List Fl} {N : NL}, Ris N → Ris (namesZ l fs N)
  | [], [], _, h => h
  | [], _ :: _, _, h => h
  | _ :: _, [], _, h => h
  | x :: l, f :: fs, N, h => show Ris (namesZ l fs (nput x.s.data.toList f.blk N)) from ris_namesZ (h.put _ _)
theorem namesZ_none {k : Nm} : ∀ {l : List FIn} {fs : List Fl} {N : NL}, Ris N → fs.length = l.length → (nat? k (namesZ l fs N) = none ↔ nat? k N = none ∧ ∀ x ∈ l, keyF x ≠ k)
  | [], [], N, _, _ => by simp [namesZ]
  | x :: l, f :: fs, N, h, hl => by
    show nat? k (namesZ l fs (nput (keyF x) f.blk N)) = none ↔ _
    rw [namesZ_none (h.put _ _) (by simpa using hl)]
    by_cases e : keyF x = k
    · subst e
      rw [nat?_put_same h]
      simp
    · rw [nat?_put_other h (fun e' => e e'.symm)]
      simp [e]
def namesB (l : List FIn) : Bool := decide ((l.map keyF).Nodup ∧ ∀ x ∈ l, nameB (keyF x) = true)
theorem namesB_bad {l : List FIn} {k : Nat} {x : FIn} (hx : l[k]? = some x) (h : nameB (keyF x) = false ∨ ∃ y ∈ l.take k, keyF y = keyF x) : namesB l = false := by
  unfold namesB
  rw [decide_eq_false]
  rintro ⟨h1, h2⟩
  rcases h with h | ⟨y, hy, e⟩
  · rw [h2 x (List.mem_of_getElem? hx)] at h
    cases h
  · obtain ⟨j, hj⟩ := List.getElem?_of_mem hy
    have hjk : j < k := by have := (List.getElem?_eq_some_iff.1 hj).1; simp at this; omega
    rw [List.getElem?_take, if_pos hjk] at hj
    obtain ⟨a1, a2⟩ := List.getElem?_eq_some_iff.1 hj
    obtain ⟨b1, b2⟩ := List.getElem?_eq_some_iff.1 hx
    have := List.pairwise_iff_getElem.1 h1 j k (by simpa using a1) (by simpa using b1) hjk
    simp only [List.getElem_map, a2, b2] at this
    exact this e
theorem namesB_all {l : List FIn} (h : ∀ k x, l[k]? = some x → nameB (keyF x) = true ∧ ∀ y ∈ l.take k, keyF y ≠ keyF x) : namesB l = true := by
  unfold namesB
  rw [decide_eq_true]
  refine ⟨?_, fun x hx => ?_⟩
  · rw [List.Nodup, List.pairwise_iff_getElem]
    intro i j hi hj hij
    simp only [List.getElem_map]
    have hi' : i < l.length := by simpa using hi
    have hj' : j < l.length := by simpa using hj
    refine (h j l[j] (List.getElem?_eq_getElem hj')).2 l[i] ?_
    refine List.mem_of_getElem? (i := i) ?_
    rw [List.getElem?_take, if_pos hij, List.getElem?_eq_getElem hi']
  · obtain ⟨k, hk⟩ := List.getElem?_of_mem hx
    exact (h k x hk).1
end Go.Proofs.Ytfhbolhmfhgeaaa
