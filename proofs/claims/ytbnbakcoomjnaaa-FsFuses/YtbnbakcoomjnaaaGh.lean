/- Steps of a FS in memory: what is laid ahead of a thing, and the thing done. -/
import Derived.Test.YtbnbakcoomjnaaaGs
namespace Go.Proofs.Ytbnbakcoomjnaaa
open Go.RowKit Go.Maps
set_option linter.unusedSimpArgs false
/-- What is new is its own. -/
def grow (O : Nat → Prop) (w w' : World) : Nat → Prop := fun q => O q ∨ (w.heap.size ≤ q ∧ q < w'.heap.size)
theorem Rm.kept {w w' : World} {K : Nat → Option (List UInt8)} {v : Value} (h : Rm w K v) (hw : ∀ g l, K g = some l → w'.heap[g]? = w.heap[g]?) : Rm w' K v := fun g n c e hlt => by
  obtain ⟨l, cur, h1, h2, h3, h4⟩ := h g n c e hlt
  exact ⟨l, cur, h1, h2, by rw [hw g l h1]; exact h3, h4⟩
theorem FsM.tagged {w w' : World} {f : Nat} {lk : Int} {S : Fs} {X : List Th} {O : Nat → Prop} {K : Nat → Option (List UInt8)} {n l : Lie} {pv : Value} {ps : List Value} (h : FsM w f lk S X O K n l pv ps) (hF : TFr f n.m n.F n.b w w') {q : Nat} {x : Array Value} {t : TypeId} {z : Nat × Nat} (hq : w.heap[q]? = some (.cells x t z)) (h1 : t ≠ 67) (h2 : t ≠ 94) : w'.heap[q]? = w.heap[q]? :=
  hF.rest q (Array.getElem?_eq_some_iff.1 hq).1 (tag_ne hq h.blk h1) (fun e => by
    have := h.now.tab.tab
    rw [e] at this
    exact map_ne this hq rfl) (fun i hi => tag_ne hq (h.now.tab.file i hi) h2)
/-- A thing is done. -/
theorem FsM.did {w w' : World} {f : Nat} {lk : Int} {S : Fs} {X : List Th} {O : Nat → Prop} {K : Nat → Option (List UInt8)} {n l : Lie} {pv : Value} {ps : List Value} (h : FsM w f lk S X O K n l pv ps) {T' : Tb} {n' : Lie} {t : Th} (hF : TFr f n.m n.F n.b w w') (hT : TabL w' K (grow O w w') T' n')
    (hb : w'.heap[f]? = some (fsBlk lk { S with now := T' } n'.m l.m pv)) (hd : ∀ i, n'.F i → (n.F i ∧ n'.b i = n.b i) ∨ w.heap.size ≤ n'.b i) (hm : ∀ q, n'.m = some q → n.m = some q ∨ w.heap.size ≤ q) (hr : ∀ i, n'.F i → Rm w K (n'.h i)) (ha : ∀ i j, n'.F i → n'.F j → i ≠ j → Apart (n'.h i) (n'.h j))
    (hrun : t.ap (S.now, n.z) = some (T', n'.z)) (hk : n.k + 3 ≤ n'.k) : FsM w' f lk { S with now := T' } (X ++ [t]) (grow O w w') K n' l pv ps := by
  have hK : ∀ g x, K g = some x → w'.heap[g]? = w.heap[g]? := fun g x hg => by
    obtain ⟨cur, hc, _⟩ := h.kok g x hg
    exact h.tagged hF hc (by decide) (by decide)
  have hl1 : ∀ q, l.m = some q → w'.heap[q]? = w.heap[q]? := fun q e => by
    refine hF.rest q (h.lt q (h.las.om q e)) (h.mne h.las q e) (fun e2 => h.mdis q e2 e) (fun i hi e2 => ?_)
    have := h.las.tab.tab
    rw [e] at this
    exact map_ne this (h.now.tab.file i hi) e2
  have hl2 : ∀ j, l.F j → w'.heap[l.b j]? = w.heap[l.b j]? := fun j hj => by
    refine hF.rest _ (h.lt _ (h.las.ob j hj)) (h.bne h.las j hj) (fun e2 => ?_) (fun i hi e2 => h.dis i j hi hj e2.symm)
    have := h.now.tab.tab
    rw [e2] at this
    exact map_ne this (h.las.tab.file j hj) rfl
  have hsz := hF.size
  have hrow : w'.ownsRow 0 70 1 pv S.pend.length ps := by
    refine ⟨h.row.1, h.row.2.imp id ?_⟩
    rintro ⟨g, cap, cur, e, h1, h2, h3⟩
    exact ⟨g, cap, cur, e, h1, by rw [h.tagged hF h2 (by decide) (by decide)]; exact h2, h3⟩
  refine ⟨hb, hT, ⟨h.las.tab.kept hl1 hl2, h.las.ok, h.las.nk, fun q e => .inl (h.las.om q e), fun i hi => .inl (h.las.ob i hi), h.las.st⟩, fun i j hi hj e => ?_, fun q e e2 => ?_, fun g x hg => ?_, fun i hi _ => (hr i hi).kept hK, fun i j hi hj _ _ hne => ha i j hi hj hne, hrow, fun j v t e1 e2 => (h.ths j v t e1 e2).mono (Kle.refl _) (fun _ o => .inl o) (fun q x ty _ hq ht => h.tagged hF hq (by rcases ht with rfl | rfl <;> decide) (by rcases ht with rfl | rfl <;> decide)), ?_, ?_, ?_, h.pl, h.room, h.fz, .inl h.of, fun g x hg => .inl (h.oK g x hg), fun q e => .inl (h.op q e), fun q o => ?_⟩
  · rcases hd i hi with ⟨hi', e'⟩ | e'
    · exact h.dis i j hi' hj (e'.symm.trans e)
    · have := h.lt _ (h.las.ob j hj)
      omega
  · rcases hm q e with e' | e'
    · exact h.mdis q e' e2
    · have := h.lt _ (h.las.om q e2)
      omega
  · obtain ⟨cur, hc, hp⟩ := h.kok g x hg
    exact ⟨cur, by rw [hK g x hg]; exact hc, hp⟩
  · rw [runs_snoc, h.run]; exact hrun
  · have := h.kb
    simp only [List.length_append, List.length_singleton]
    omega
  · have := h.nb
    simp only [List.length_append, List.length_singleton]
    omega
  · rcases o with o | o
    · have := h.lt q o; omega
    · exact o.2
theorem blk_done {w w' : World} {f mb : Nat} {lk : Int} {S : Fs} {mn ml : Option Nat} {pv : Value} {T' : Tb} (hb : w.heap[f]? = some (fsBlk lk S mn ml pv)) (h : w'.heap[f]? = ((w.setCell ⟨f, 3 + 1, none⟩ (.int .i64 T'.u)).setCell ⟨f, 3, none⟩ (.map (some mb))).heap[f]?) : w'.heap[f]? = some (fsBlk lk { S with now := T' } (some mb) ml pv) := by
  rw [h]
  simp [World.setCell, Array.getElem?_modify, hb, fsBlk]
theorem blk_kept {w w' : World} {f : Nat} {lk : Int} {S : Fs} {mn ml : Option Nat} {pv : Value} {T' : Tb} (hb : w.heap[f]? = some (fsBlk lk S mn ml pv)) (h : w'.heap[f]? = (w.setCell ⟨f, 3 + 1, none⟩ (.int .i64 T'.u)).heap[f]?) : w'.heap[f]? = some (fsBlk lk { S with now := T' } mn ml pv) := by
  rw [h]
  simp [World.setCell, Array.getElem?_modify, hb, fsBlk]
theorem FsM.wrote {w w' : World} {f : Nat} {lk : Int} {S : Fs} {X : List Th} {O : Nat → Prop} {K : Nat → Option (List UInt8)} {n l : Lie} {pv : Value} {ps : List Value} (h : FsM w f lk S X O K n l pv ps) {s : ByteArray} {d : List UInt8} {v : Value} {mb : Nat} (hd : d.length ≤ 1048576)
    (hT : TabM w' K (some mb) (n.n + 1) (S.now.write s d n.z) (addF n.F n.z) (updN n.b n.z w.heap.size) (updN n.h n.z v)) (hD : Done f 3 n.m n.F n.b (S.now.write s d n.z).u mb w w') (hr : Rm w K v) (ha : ∀ i, n.F i → Apart v (n.h i) ∧ Apart (n.h i) v) (he : ∀ i, ¬ n.e i) :
    FsM w' f lk { S with now := S.now.write s d n.z } (X ++ [.write s d n.z]) (grow O w w') K ⟨some mb, n.n + 1, addF n.F n.z, updN n.b n.z w.heap.size, updN n.h n.z v, n.k + 3, n.z + 1, fun _ => False⟩ l pv ps := by
  have hni : ∀ i, n.F i → i ≠ n.z := fun i hi => Nat.ne_of_lt (h.now.st i hi)
  have hnew : w.heap.size < w'.heap.size := by
    have := hT.file n.z (.inl rfl)
    rw [updN_same] at this
    exact (Array.getElem?_eq_some_iff.1 this).1
  have hmb : mb < w'.heap.size := by
    obtain ⟨es, cl, hb⟩ := hT.tab.block
    exact (Array.getElem?_eq_some_iff.1 hb).1
  refine h.did hD.fr ⟨hT, h.now.ok.write s d n.z hd, by have := h.now.nk; show n.n + 1 ≤ n.k + 3; omega, fun q e => ?_, fun i hi => ?_, fun i hi => ?_⟩ (blk_done h.blk hD.blk) (fun i hi => ?_) (fun q e => ?_) (fun i hi => ?_) (fun i j hi hj hne => ?_) (by simp [Th.ap]) (Nat.le_refl _)
  · cases e
    rcases hD.new with e | ⟨_, e⟩
    · exact .inl (h.now.om _ e)
    · exact .inr ⟨e, hmb⟩
  · show grow O w w' (updN n.b n.z w.heap.size i)
    by_cases e : i = n.z
    · rw [e, updN_same]; exact .inr ⟨Nat.le_refl _, hnew⟩
    · rw [updN_ne _ _ e]; exact .inl (h.now.ob i (hi.resolve_left e))
  · show i < n.z + 1
    rcases hi with e | hi
    · omega
    · have := h.now.st i hi; omega
  · show (n.F i ∧ updN n.b n.z w.heap.size i = n.b i) ∨ w.heap.size ≤ updN n.b n.z w.heap.size i
    by_cases e : i = n.z
    · rw [e, updN_same]; exact .inr (Nat.le_refl _)
    · rw [updN_ne _ _ e]; exact .inl ⟨hi.resolve_left e, rfl⟩
  · cases e
    rcases hD.new with e | ⟨_, e⟩
    · exact .inl e
    · exact .inr e
  · show Rm w K (updN n.h n.z v i)
    by_cases e : i = n.z
    · rw [e, updN_same]; exact hr
    · rw [updN_ne _ _ e]; exact h.rm i (hi.resolve_left e) (he i)
  · show Apart (updN n.h n.z v i) (updN n.h n.z v j)
    by_cases ei : i = n.z
    · by_cases ej : j = n.z
      · exact absurd (ei.trans ej.symm) hne
      · rw [ei, updN_same, updN_ne _ _ ej]; exact (ha j (hj.resolve_left ej)).1
    · by_cases ej : j = n.z
      · rw [ej, updN_same, updN_ne _ _ ei]; exact (ha i (hi.resolve_left ei)).2
      · rw [updN_ne _ _ ei, updN_ne _ _ ej]; exact h.ap i j (hi.resolve_left ei) (hj.resolve_left ej) (he i) (he j) hne
theorem FsM.linked {w w' : World} {f : Nat} {lk : Int} {S : Fs} {X : List Th} {O : Nat → Prop} {K : Nat → Option (List UInt8)} {n l : Lie} {pv : Value} {ps : List Value} (h : FsM w f lk S X O K n l pv ps) {s old : ByteArray} {i mb : Nat} (hN : S.now.N old = some i)
    (hT : TabM w' K (some mb) (n.n + 1) (S.now.lay s i) n.F n.b n.h) (hD : Done f 3 n.m n.F n.b (S.now.lay s i).u mb w w') (he : ∀ i, ¬ n.e i) :
    FsM w' f lk { S with now := S.now.lay s i } (X ++ [.lay s old]) (grow O w w') K ⟨some mb, n.n + 1, n.F, n.b, n.h, n.k + 3, n.z, fun _ => False⟩ l pv ps := by
  have hmb : mb < w'.heap.size := by
    obtain ⟨es, cl, hb⟩ := hT.tab.block
    exact (Array.getElem?_eq_some_iff.1 hb).1
  refine h.did hD.fr ⟨hT, (h.now.ok.lay s i).mono (by show n.k + 2 ≤ n.k + 3; omega), by have := h.now.nk; show n.n + 1 ≤ n.k + 3; omega, fun q e => ?_, fun i hi => .inl (h.now.ob i hi), h.now.st⟩ (blk_done h.blk hD.blk) (fun i hi => .inl ⟨hi, rfl⟩) (fun q e => ?_) (fun i hi => h.rm i hi (he i)) (fun i j hi hj hne => h.ap i j hi hj (he i) (he j) hne) (by simp [Th.ap, hN]) (Nat.le_refl _)
  · cases e
    rcases hD.new with e | ⟨_, e⟩
    · exact .inl (h.now.om _ e)
    · exact .inr ⟨e, hmb⟩
  · cases e
    rcases hD.new with e | ⟨_, e⟩
    · exact .inl e
    · exact .inr e
theorem FsM.filled {w w' : World} {f : Nat} {lk : Int} {S : Fs} {X : List Th} {O : Nat → Prop} {K : Nat → Option (List UInt8)} {n l : Lie} {pv : Value} {ps : List Value} (h : FsM w f lk S X O K n l pv ps) {s : ByteArray} {d : List UInt8} {v : Value} {i : Nat} (hN : S.now.N s = some i) (hd : d.length ≤ 1048576)
    (hT : TabM w' K n.m n.n (S.now.put i d) n.F n.b (updN n.h i v)) (hD : Kept f 3 n.m n.F n.b (S.now.put i d).u w w') (hr : Rm w K v) (ha : ∀ j, n.F j → j ≠ i → Apart v (n.h j) ∧ Apart (n.h j) v) (he : ∀ j, j ≠ i → ¬ n.e j) :
    FsM w' f lk { S with now := S.now.put i d } (X ++ [.fill s d]) (grow O w w') K ⟨n.m, n.n, n.F, n.b, updN n.h i v, n.k + 3, n.z, fun _ => False⟩ l pv ps := by
  refine h.did hD.fr ⟨hT, (h.now.ok.put i d hd).mono (by show n.k + 1 ≤ n.k + 3; omega), by have := h.now.nk; show n.n ≤ n.k + 3; omega, fun q e => .inl (h.now.om q e), fun i hi => .inl (h.now.ob i hi), h.now.st⟩ (blk_kept h.blk hD.blk) (fun i hi => .inl ⟨hi, rfl⟩) (fun q e => .inl e) (fun j hj => ?_) (fun j k hj hk hne => ?_) (by simp [Th.ap, hN]) (Nat.le_refl _)
  · show Rm w K (updN n.h i v j)
    by_cases e : j = i
    · rw [e, updN_same]; exact hr
    · rw [updN_ne _ _ e]; exact h.rm j hj (he j e)
  · show Apart (updN n.h i v j) (updN n.h i v k)
    by_cases ei : j = i
    · by_cases ej : k = i
      · exact absurd (ei.trans ej.symm) hne
      · rw [ei, updN_same, updN_ne _ _ ej]; exact (ha k hk ej).1
    · by_cases ej : k = i
      · rw [ej, updN_same, updN_ne _ _ ei]; exact (ha j hj ei).2
      · rw [updN_ne _ _ ei, updN_ne _ _ ej]; exact h.ap j k hj hk (he j ei) (he k ej) hne
end Go.Proofs.Ytbnbakcoomjnaaa
