/- A tree rewritten: names and data with other digits laid, names in order anew: the plain mathematics. No Go text is named here. -/
import Derived.Test.YtlbfcneboaihnaaK4
import Derived.Test.YtlbfcneboaihnaaK3
import Derived.Test.YtlbfcneboaihnaaPlc
import Derived.Test.YtlbfcneboaihnaaK6
namespace Go.Proofs.Ytlbfcneboaihnaa.Tn
/-- Bytes with digits laid in the place of others. -/
def rp (F D : List Nat) (s : ByteArray) : ByteArray := strOf (layAll D (bytesOf s) (plcs (bytesOf s) F 0))
/-- How often. -/
def rc (F : List Nat) (s : ByteArray) : Nat := (plcs (bytesOf s) F 0).length
theorem rp_size {F D : List Nat} (hF : F.length = 32) (hD : D.length = 32) (s : ByteArray) : (rp F D s).size = s.size := by
  unfold rp
  rw [strOf_size, layAll_length _ _ (fun p hp => by have := plcs_in (by omega) hp; omega), bytesOf_length]
theorem rc_le {F : List Nat} (hF : F.length = 32) (s : ByteArray) : rc F s ≤ s.size := by
  have := plcs_len (B := bytesOf s) (D := F) (by omega) (s.size + 1) 0 (by rw [bytesOf_length]; omega)
  rw [bytesOf_length] at this
  exact this
abbrev En := ByteArray × Tr
/-- Laid behind all that are not greater, from the front. -/
def insP (e : En) : List En → List En
  | [] => [e]
  | a :: r => if e.1.toList < a.1.toList then e :: a :: r else a :: insP e r
mutual
/-- The tree as the document rewrites it. -/
def rwD (F D : List Nat) : Tr → Tr
  | .mk k x d ns ks => .mk k x (rp F D d) ((rwEs F D ns ks []).map Prod.fst) ((rwEs F D ns ks []).map Prod.snd)
def rwEs (F D : List Nat) : List ByteArray → List Tr → List En → List En
  | n :: ns, t :: ks, acc => rwEs F D ns ks (insP (rp F D n, rwD F D t) acc)
  | _, _, acc => acc
end
mutual
/-- Its data alone rewritten. -/
def dat (F D : List Nat) : Tr → Tr
  | .mk k x d ns ks => .mk k x (rp F D d) ns (dats F D ks)
def dats (F D : List Nat) : List Tr → List Tr
  | [] => []
  | t :: r => dat F D t :: dats F D r
end
theorem dats_map (F D : List Nat) (l : List Tr) : dats F D l = l.map (dat F D) := by
  induction l with
  | nil => rw [dats]; rfl
  | cons a r ih => rw [dats, ih]; rfl
/-- Names rewritten, and in order anew, in whatever order those that are the same. -/
inductive Srt (F D : List Nat) : Tr → Tr → Prop
  | mk (k : Int) (x : Bool) (d : ByteArray) (ns : List ByteArray) (ks Cs : List Tr) (es : List En) (hl : ns.length = ks.length) (hC : Cs.length = ks.length)
      (hK : ∀ (i : Nat) (t c : Tr), ks[i]? = some t → Cs[i]? = some c → Srt F D t c) (hp : es.Perm ((ns.map (rp F D)).zip Cs)) (hs : es.Pairwise fun a b => ¬ b.1.toList < a.1.toList) :
      Srt F D (.mk k x d ns ks) (.mk k x d (es.map Prod.fst) (es.map Prod.snd))
/-- Each node is right but perhaps for the order of its names. -/
inductive Weak : Tr → Prop
  | mk (k : Int) (x : Bool) (d : ByteArray) (ns : List ByteArray) (ks : List Tr) (h0 : locErr k x d.size ns ks.length = 0 ∨ locErr k x d.size ns ks.length = 9) (h5 : ∀ t ∈ ks, Weak t) : Weak (.mk k x d ns ks)
mutual
/-- Levels. -/
def dp : Tr → Nat | .mk _ _ _ _ ks => 1 + dps ks
def dps : List Tr → Nat | [] => 0 | t :: r => max (dp t) (dps r)
end
theorem dps_mem {l : List Tr} {t : Tr} (h : t ∈ l) : dp t ≤ dps l := by
  induction l with
  | nil => cases h
  | cons a r ih =>
    rw [dps]
    rcases List.mem_cons.1 h with rfl | h
    · omega
    · have := ih h; omega
theorem dps_le {l : List Tr} {m : Nat} (h : ∀ t ∈ l, dp t ≤ m) : dps l ≤ m := by
  induction l with
  | nil => rw [dps]; omega
  | cons a r ih =>
    rw [dps]
    have := h a (by simp)
    have := ih fun t ht => h t (by simp [ht])
    omega
theorem chk_deep (T : Tr) : ∀ deep n, (chk T deep n).1 = 0 → deep + dp T ≤ 65 := by
  induction T using Tr.ind with
  | h k x d ns ks ih =>
  have hs : ∀ l : List Tr, (∀ t ∈ l, t ∈ ks) → ∀ deep n, deep ≤ 65 → (chks l deep n).1 = 0 → deep + dps l ≤ 65 := by
    intro l
    induction l with
    | nil => intro _ deep n hd _; rw [dps]; omega
    | cons t r ihr =>
      intro hm deep n hd h
      rw [chks] at h
      by_cases he : (chk t deep n).1 = 0
      · rw [if_pos he] at h
        have h1 := ih t (hm t (by simp)) deep n he
        have h2 := ihr (fun t ht => hm t (by simp [ht])) deep _ hd h
        rw [dps]; omega
      · rw [if_neg he] at h
        exact absurd h he
  intro deep n h
  rw [chk] at h
  split at h
  · simp at h
  · split at h
    · have := hs ks (fun _ h => h) _ _ (by omega) h
      rw [dp]; omega
    · rename_i h0; exact absurd h h0
open Classical in
theorem chk_weak (T : Tr) (hw : Weak T) : ∀ deep n, deep + dp T ≤ 65 → n + cn T ≤ 65536 → (chk T deep n).1 = if Vld T then 0 else 9 := by
  induction T using Tr.ind with
  | h k x d ns ks ih =>
  cases hw with
  | mk _ _ _ _ _ h0 h5 =>
  have hs : ∀ l : List Tr, (∀ t ∈ l, t ∈ ks) → ∀ deep n, deep + dps l ≤ 65 → n + cns l ≤ 65536 → (chks l deep n).1 = if ∀ t ∈ l, Vld t then 0 else 9 := by
    intro l
    induction l with
    | nil => intro _ deep n _ _; rw [chks, if_pos (fun t ht => by cases ht)]
    | cons t r ihr =>
      intro hm deep n hd hn
      rw [dps] at hd
      rw [cns] at hn
      have h1 := ih t (hm t (by simp)) (h5 t (hm t (by simp))) deep n (by omega) (by omega)
      rw [chks]
      by_cases hv : Vld t
      · rw [if_pos hv] at h1
        rw [if_pos h1]
        have h2 := (chk_vld t deep n h1).2
        rw [ihr (fun t ht => hm t (by simp [ht])) deep _ (by omega) (by omega)]
        by_cases ha : ∀ t ∈ r, Vld t
        · rw [if_pos ha, if_pos fun u hu => by rcases List.mem_cons.1 hu with rfl | hu; exact hv; exact ha u hu]
        · rw [if_neg ha, if_neg fun h => ha fun u hu => h u (by simp [hu])]
      · rw [if_neg hv] at h1
        rw [if_neg (by omega), h1, if_neg fun h => hv (h t (by simp))]
  intro deep n hd hn
  rw [dp] at hd
  rw [cn] at hn
  rw [chk, if_neg (by omega)]
  rcases h0 with h0 | h0
  · rw [if_pos h0, hs ks (fun _ h => h) _ _ (by omega) (by omega)]
    by_cases ha : ∀ t ∈ ks, Vld t
    · rw [if_pos ha, if_pos (.mk k x d ns ks h0 ha)]
    · rw [if_neg ha, if_neg fun h => ha h.here.2]
  · rw [if_neg (by omega), if_neg fun h => by have := h.here.1; omega, h0]
theorem cns_perm {a b : List Tr} (h : a.Perm b) : cns a = cns b := by
  induction h with
  | nil => rfl
  | cons x _ ih => simp only [cns, ih]
  | swap x y l => simp only [cns]; omega
  | trans _ _ h1 h2 => rw [h1, h2]
theorem dps_perm {a b : List Tr} (h : a.Perm b) : dps a = dps b := by
  induction h with
  | nil => rfl
  | cons x _ ih => simp only [dps, ih]
  | swap x y l => simp only [dps]; omega
  | trans _ _ h1 h2 => rw [h1, h2]
theorem same_sum {f : List Tr → Nat} (g : Tr → Nat) (op : Nat → Nat → Nat) (hf : ∀ t r, f (t :: r) = op (g t) (f r)) : ∀ (a b : List Tr), a.length = b.length → (∀ (i : Nat) (t c : Tr), a[i]? = some t → b[i]? = some c → g t = g c) → f a = f b
  | [], [], _, _ => rfl
  | t :: r, c :: s, hl, h => by
    rw [hf, hf, h 0 t c rfl rfl, same_sum g op hf r s (by simpa using hl) (fun i t c h1 h2 => h (i + 1) t c (by simpa using h1) (by simpa using h2))]
  | [], _ :: _, hl, _ => by simp at hl
  | _ :: _, [], hl, _ => by simp at hl
theorem snd_perm {F D : List Nat} {ns : List ByteArray} {Cs : List Tr} {es : List En} (hl : ns.length = Cs.length) (hp : es.Perm ((ns.map (rp F D)).zip Cs)) : (es.map Prod.snd).Perm Cs := by
  have := hp.map Prod.snd
  rwa [List.map_snd_zip (by simp [hl])] at this
theorem fst_perm {F D : List Nat} {ns : List ByteArray} {Cs : List Tr} {es : List En} (hl : ns.length = Cs.length) (hp : es.Perm ((ns.map (rp F D)).zip Cs)) : (es.map Prod.fst).Perm (ns.map (rp F D)) := by
  have := hp.map Prod.fst
  rwa [List.map_fst_zip (by simp [hl])] at this
theorem mem_pair {Cs ks : List Tr} {c : Tr} (hC : Cs.length = ks.length) (h : c ∈ Cs) : ∃ (i : Nat) (t : Tr), ks[i]? = some t ∧ Cs[i]? = some c := by
  obtain ⟨i, hi, rfl⟩ := List.getElem_of_mem h
  exact ⟨i, ks[i], List.getElem?_eq_getElem (by omega), List.getElem?_eq_getElem hi⟩
theorem mem_of_some {l : List Tr} {i : Nat} {t : Tr} (h : l[i]? = some t) : t ∈ l := by
  obtain ⟨hi, rfl⟩ := List.getElem?_eq_some_iff.1 h
  exact List.getElem_mem hi
theorem Srt.nums {F D : List Nat} {T C : Tr} (h : Srt F D T C) : cn C = cn T ∧ dp C = dp T := by
  induction h with
  | mk k x d ns ks Cs es hl hC hK hp hs ih =>
    have hsn := snd_perm (by omega) hp
    rw [cn, cn, dp, dp, cns_perm hsn, dps_perm hsn, same_sum (f := cns) cn (· + ·) (fun t r => by rw [cns]) Cs ks hC (fun i t c h1 h2 => (ih i c t h2 h1).1), same_sum (f := dps) dp max (fun t r => by rw [dps]) Cs ks hC (fun i t c h1 h2 => (ih i c t h2 h1).2)]
    exact ⟨rfl, rfl⟩
theorem Srt.weak {F D : List Nat} {T C : Tr} (h : Srt F D T C) (hv : Vld T) : Weak C := by
  induction h with
  | mk k x d ns ks Cs es hl hC hK hp hs ih =>
    have hel : es.length = ks.length := by have := hp.length_eq; simp at this; omega
    refine .mk _ _ _ _ _ ?_ fun t ht => ?_
    · have h0 := hv.here.1
      unfold locErr at h0 ⊢
      simp only [List.length_map, hel] at *
      rw [hl] at h0
      repeat' split at h0
      all_goals first | omega | skip
      all_goals simp_all
      all_goals first | omega | exact Classical.em _
    · obtain ⟨i, u, hu, hc⟩ := mem_pair hC ((snd_perm (by omega) hp).mem_iff.1 ht)
      exact ih i u t hu hc (hv.here.2 u (mem_of_some hu))
theorem vld_rise {k : Int} {x : Bool} {d : Nat} {ns : List ByteArray} {n : Nat} (h : locErr k x d ns n = 0) : ∀ i j : Nat, i < j → ∀ a b : ByteArray, ns[i]? = some a → ns[j]? = some b → a.toList < b.toList := by
  have hok : 0 < ns.length → okNames ns := (loc_ok h).2.2
  intro i j hij
  induction j with
  | zero => omega
  | succ j ih =>
    intro a b ha hb
    have hj := (List.getElem?_eq_some_iff.1 hb).1
    have h1 := hok (by omega) (j + 1) hj
    unfold okName at h1
    rw [hb] at h1
    simp at h1
    obtain ⟨c, hc⟩ : ∃ c, ns[j]? = some c := ⟨_, List.getElem?_eq_getElem (by omega)⟩
    rw [hc] at h1
    have h2 : c.toList < b.toList := h1.2
    by_cases he : i = j
    · subst he; rw [ha] at hc; cases hc; exact h2
    · exact List.lt_trans (ih (by omega) a c ha hc) h2
theorem not_lt_self (a : List UInt8) : ¬ a < a := List.lt_irrefl a
theorem Srt.one {F D : List Nat} {T C C' : Tr} (h : Srt F D T C) (h' : Srt F D T C') (hv : Vld C) : C = C' := by
  induction h generalizing C' with
  | mk k x d ns ks Cs es hl hC hK hp hs ih =>
    cases h' with
    | mk _ _ _ _ _ Cs' es' _ hC' hK' hp' hs' =>
      have hCC : Cs = Cs' := by
        apply List.ext_getElem? 
        intro i
        by_cases hi : i < ks.length
        · have h1 : Cs[i]? = some Cs[i] := List.getElem?_eq_getElem (by omega)
          have h2 : Cs'[i]? = some Cs'[i] := List.getElem?_eq_getElem (by omega)
          have h3 : ks[i]? = some ks[i] := List.getElem?_eq_getElem hi
          rw [h1, h2, ih i _ _ h3 h1 (hK' i _ _ h3 h2) (hv.here.2 _ ((snd_perm (by omega) hp).mem_iff.2 (mem_of_some h1)))]
        · rw [List.getElem?_eq_none (by omega), List.getElem?_eq_none (by omega)]
      subst hCC
      have hpp := hp.trans hp'.symm
      have hr := vld_rise hv.here.1
      have he : es = es' := by
        refine List.Perm.eq_of_pairwise (le := fun a b : En => ¬ b.1.toList < a.1.toList) (fun a b ha hb h1 h2 => ?_) hs hs' hpp
        obtain ⟨i, hi, rfl⟩ := List.getElem_of_mem ha
        obtain ⟨j, hj, rfl⟩ := List.getElem_of_mem (hpp.mem_iff.2 hb)
        have e1 : (es.map Prod.fst)[i]? = some es[i].1 := by rw [List.getElem?_map, List.getElem?_eq_getElem hi]; rfl
        have e2 : (es.map Prod.fst)[j]? = some es[j].1 := by rw [List.getElem?_map, List.getElem?_eq_getElem hj]; rfl
        rcases Nat.lt_trichotomy i j with h | h | h
        · exact absurd (hr i j h _ _ e1 e2) h2
        · subst h; rfl
        · exact absurd (hr j i h _ _ e2 e1) h1
      rw [he]

theorem insP_perm (e : En) : ∀ l : List En, (insP e l).Perm (e :: l)
  | [] => .refl _
  | a :: r => by
    rw [insP]
    split
    · exact .refl _
    · exact ((insP_perm e r).cons a).trans (List.Perm.swap e a r)
theorem insP_sorted (e : En) : ∀ l : List En, l.Pairwise (fun a b => ¬ b.1.toList < a.1.toList) → (insP e l).Pairwise (fun a b => ¬ b.1.toList < a.1.toList)
  | [], _ => by rw [insP]; exact List.pairwise_singleton _ _
  | a :: r, h => by
    rw [insP]
    rw [List.pairwise_cons] at h
    split
    · rename_i hlt
      refine List.pairwise_cons.2 ⟨fun b hb hlb => ?_, List.pairwise_cons.2 h⟩
      rcases List.mem_cons.1 hb with rfl | hb
      · exact not_lt_self _ (List.lt_trans hlb hlt)
      · exact h.1 b hb (List.lt_trans hlb hlt)
    · rename_i hlt
      refine List.pairwise_cons.2 ⟨fun b hb => ?_, insP_sorted e r h.2⟩
      rcases List.mem_cons.1 ((insP_perm e r).mem_iff.1 hb) with rfl | hb
      · exact hlt
      · exact h.1 b hb
/-- All laid, one behind the other. -/
def insAll (l acc : List En) : List En := l.foldl (fun a e => insP e a) acc
theorem insAll_perm : ∀ l acc : List En, (insAll l acc).Perm (l ++ acc)
  | [], acc => .refl _
  | e :: l, acc => (insAll_perm l (insP e acc)).trans (((insP_perm e acc).append_left l).trans (by simp))
theorem insAll_sorted : ∀ l acc : List En, acc.Pairwise (fun a b => ¬ b.1.toList < a.1.toList) → (insAll l acc).Pairwise (fun a b => ¬ b.1.toList < a.1.toList)
  | [], _, h => h
  | e :: l, acc, h => insAll_sorted l _ (insP_sorted e acc h)
theorem insP_map (f : Tr → Tr) (e : En) : ∀ l : List En, insP (e.1, f e.2) (l.map fun a => (a.1, f a.2)) = (insP e l).map fun a => (a.1, f a.2)
  | [] => rfl
  | a :: r => by
    rw [List.map_cons, insP, insP]
    split
    · rfl
    · rw [insP_map f e r]; rfl
theorem rwEs_is (F D : List Nat) : ∀ (ns : List ByteArray) (ks Cs : List Tr) (acc : List En), ns.length = ks.length → Cs.length = ks.length → (∀ (i : Nat) (t c : Tr), ks[i]? = some t → Cs[i]? = some c → rwD F D t = dat F D c) →
    rwEs F D ns ks (acc.map fun a => (a.1, dat F D a.2)) = (insAll ((ns.map (rp F D)).zip Cs) acc).map fun a => (a.1, dat F D a.2)
  | [], [], [], acc, _, _, _ => by rw [rwEs]; rfl; simp
  | n :: ns, t :: ks, c :: Cs, acc, h1, h2, h => by
    rw [rwEs, h 0 t c rfl rfl]
    have := insP_map (dat F D) (rp F D n, c) acc
    simp only at this
    rw [this]
    exact rwEs_is F D ns ks Cs _ (by simpa using h1) (by simpa using h2) fun i t c h3 h4 => h (i + 1) t c (by simpa using h3) (by simpa using h4)
  | [], _ :: _, _, _, h, _, _ => by simp at h
  | _ :: _, [], _, _, h, _, _ => by simp at h
  | [], [], _ :: _, _, _, h, _ => by simp at h
  | _ :: _, _ :: _, [], _, _, h, _ => by simp at h
theorem pick_all {P : Tr → Tr → Prop} : ∀ ks : List Tr, (∀ t ∈ ks, ∃ c, P t c) → ∃ Cs : List Tr, Cs.length = ks.length ∧ ∀ (i : Nat) (t c : Tr), ks[i]? = some t → Cs[i]? = some c → P t c
  | [], _ => ⟨[], rfl, fun i t c h => by simp at h⟩
  | a :: r, h => by
    obtain ⟨c, hc⟩ := h a (by simp)
    obtain ⟨Cs, hl, hC⟩ := pick_all r fun t ht => h t (by simp [ht])
    refine ⟨c :: Cs, by simp [hl], fun i t c' h1 h2 => ?_⟩
    cases i with
    | zero => simp at h1 h2; subst h1 h2; exact hc
    | succ i => exact hC i t c' (by simpa using h1) (by simpa using h2)
/-- The document's tree is such a one. -/
theorem rwD_srt (F D : List Nat) (T : Tr) (hv : Vld T) : ∃ C, Srt F D T C ∧ rwD F D T = dat F D C := by
  induction T using Tr.ind with
  | h k x d ns ks ih =>
  obtain ⟨Cs, hl, hC⟩ := pick_all (P := fun t c => Srt F D t c ∧ rwD F D t = dat F D c) ks fun t ht => ih t ht (hv.here.2 t ht)
  have hn := (loc_ok hv.here.1).2.1
  refine ⟨_, .mk k x d ns ks Cs (insAll ((ns.map (rp F D)).zip Cs) []) hn hl (fun i t c h1 h2 => (hC i t c h1 h2).1) (by simpa using insAll_perm ((ns.map (rp F D)).zip Cs) []) (insAll_sorted _ _ .nil), ?_⟩
  have := rwEs_is F D ns ks Cs [] hn hl fun i t c h1 h2 => (hC i t c h1 h2).2
  rw [List.map_nil] at this
  rw [rwD, dat, this, dats_map, List.map_map, List.map_map, List.map_map]
  rfl
theorem chk_dat {F D : List Nat} (hF : F.length = 32) (hD : D.length = 32) (T : Tr) : ∀ deep n, chk (dat F D T) deep n = chk T deep n := by
  induction T using Tr.ind with
  | h k x d ns ks ih =>
  have hs : ∀ l : List Tr, (∀ t ∈ l, t ∈ ks) → ∀ deep n, chks (dats F D l) deep n = chks l deep n := by
    intro l
    induction l with
    | nil => intro _ deep n; rw [dats]
    | cons t r ihr =>
      intro hm deep n
      rw [dats, chks, chks, ih t (hm t (by simp)), ihr (fun t ht => hm t (by simp [ht]))]
  intro deep n
  have hl : (dats F D ks).length = ks.length := by rw [dats_map, List.length_map]
  rw [dat, chk, chk, rp_size hF hD, hs ks (fun _ h => h), hl]
/-- Two that are rewritten so err alike, and are one where they don't. -/
theorem srt_fin {F D : List Nat} {T C C' : Tr} (h : Srt F D T C) (h' : Srt F D T C') (h0 : (chk T 1 0).1 = 0) : (chk C 1 0).1 = (chk C' 1 0).1 ∧ ((chk C 1 0).1 = 0 → C = C') := by
  obtain ⟨hv, hn⟩ := chk_vld T 1 0 h0
  have h1 := chk_ok T 1 0 h0
  have h2 := chk_deep T 1 0 h0
  have e1 := chk_weak C (h.weak hv) 1 0 (by rw [h.nums.2]; omega) (by rw [h.nums.1]; omega)
  have e2 := chk_weak C' (h'.weak hv) 1 0 (by rw [h'.nums.2]; omega) (by rw [h'.nums.1]; omega)
  by_cases hc : Vld C
  · have he := h.one h' hc
    subst he
    exact ⟨rfl, fun _ => rfl⟩
  · have hc' : ¬ Vld C' := fun hc' => hc (h'.one h hc' ▸ hc')
    rw [if_neg hc] at e1
    rw [if_neg hc'] at e2
    exact ⟨by rw [e1, e2], fun h => by omega⟩
/-- So much as is looked at. -/
inductive Sml : Tr → Prop
  | mk (k : Int) (x : Bool) (d : ByteArray) (ns : List ByteArray) (ks : List Tr) (h1 : d.size ≤ 4000) (h2 : ns.length ≤ 300) (h3 : ∀ s ∈ ns, s.size ≤ 100) (h4 : ns.length = ks.length) (h5 : ∀ t ∈ ks, Sml t) : Sml (.mk k x d ns ks)
theorem Sml.here {k : Int} {x : Bool} {d : ByteArray} {ns : List ByteArray} {ks : List Tr} (h : Sml (.mk k x d ns ks)) : d.size ≤ 4000 ∧ ns.length ≤ 300 ∧ (∀ s ∈ ns, s.size ≤ 100) ∧ ns.length = ks.length ∧ ∀ t ∈ ks, Sml t := by
  cases h with
  | mk _ _ _ _ _ h1 h2 h3 h4 h5 => exact ⟨h1, h2, h3, h4, h5⟩
theorem Sml.fit {T : Tr} (h : Sml T) : Fit T := by
  induction h with
  | mk k x d ns ks h1 h2 h3 h4 h5 ih => exact .mk k x d ns ks (by omega) (by omega) (fun s hs => by have := h3 s hs; omega) (by omega) ih
theorem cn_pos1 (T : Tr) : 1 ≤ cn T := by cases T; rw [cn]; omega
theorem cns_len (l : List Tr) : l.length ≤ cns l := by
  induction l with
  | nil => simp
  | cons a r ih => rw [cns, List.length_cons]; have := cn_pos1 a; omega
theorem cns_in {l : List Tr} {t : Tr} (h : t ∈ l) : cn t ≤ cns l := by
  induction l with
  | nil => cases h
  | cons a r ih =>
    rw [cns]
    rcases List.mem_cons.1 h with rfl | h
    · omega
    · have := ih h; omega
theorem cbs_in {l : List Tr} {t : Tr} (h : t ∈ l) : cb t ≤ cbs l := by
  induction l with
  | nil => cases h
  | cons a r ih =>
    rw [cbs]
    rcases List.mem_cons.1 h with rfl | h
    · omega
    · have := ih h; omega
theorem ok_sizes {ns : List ByteArray} (h : okNames ns) : ∀ s ∈ ns, s.size ≤ 100 := by
  intro s hs
  obtain ⟨i, hi, rfl⟩ := List.getElem_of_mem hs
  have h1 := h i hi
  unfold okName at h1
  rw [List.getElem?_eq_getElem hi] at h1
  simp only [Bool.and_eq_true] at h1
  have := of_decide_eq_true h1.1
  exact this.2.1
theorem loc_data {k : Int} {x : Bool} {d : Nat} {ns : List ByteArray} {nk : Nat} (h : locErr k x d ns nk = 0) : d ≤ 1000 ∨ k = 1 := by
  by_cases hk : k = 1
  · exact .inr hk
  · left
    unfold locErr at h
    rw [if_neg hk] at h
    repeat' split at h
    all_goals omega
theorem sml_of {T : Tr} (hv : Vld T) (h1 : cn T ≤ 300) (h2 : cb T ≤ 4000) : Sml T := by
  induction hv with
  | mk k x d ns ks h0 h5 ih =>
    rw [cn] at h1
    rw [cb] at h2
    have hl := loc_ok h0
    have := cns_len ks
    refine .mk k x d ns ks ?_ (by omega) (fun s hs => ?_) (by omega) fun t ht => ih t ht (by have := cns_in ht; omega) (by have := cbs_in ht; split at h2 <;> omega)
    · rcases loc_data h0 with h | h
      · omega
      · rw [if_pos h] at h2; omega
    · refine ok_sizes (hl.2.2 ?_) s hs
      cases ns with
      | nil => cases hs
      | cons a r => simp
theorem Srt.sml {F D : List Nat} (hF : F.length = 32) (hD : D.length = 32) {T C : Tr} (h : Srt F D T C) (hv : Sml T) : Sml C := by
  induction h with
  | mk k x d ns ks Cs es hl hC hK hp hs ih =>
    obtain ⟨h1, h2, h3, h4, h5⟩ := hv.here
    have hel : es.length = ks.length := by have := hp.length_eq; simp at this; omega
    refine .mk _ _ _ _ _ h1 (by simp; omega) (fun s hs => ?_) (by simp) fun t ht => ?_
    · obtain ⟨n, hn, rfl⟩ := List.mem_map.1 ((fst_perm (by omega) hp).mem_iff.1 hs)
      rw [rp_size hF hD]; exact h3 n hn
    · obtain ⟨i, u, hu, hc⟩ := mem_pair hC ((snd_perm (by omega) hp).mem_iff.1 ht)
      exact ih i u t hu hc (h5 u (mem_of_some hu))
theorem Sml.dat {F D : List Nat} (hF : F.length = 32) (hD : D.length = 32) {T : Tr} (h : Sml T) : Sml (dat F D T) := by
  induction h with
  | mk k x d ns ks h1 h2 h3 h4 h5 ih =>
    rw [Tn.dat, dats_map]
    refine .mk _ _ _ _ _ (by rw [rp_size hF hD]; exact h1) h2 h3 (by simp [h4]) fun t ht => ?_
    obtain ⟨u, hu, rfl⟩ := List.mem_map.1 ht
    exact ih u hu
mutual
/-- How often digits are laid: in all, in names, in data. -/
def rcA (F : List Nat) : Tr → Nat | .mk _ _ d ns ks => rc F d + rcAs F ns ks
def rcAs (F : List Nat) : List ByteArray → List Tr → Nat
  | n :: ns, t :: ks => rc F n + rcA F t + rcAs F ns ks
  | _, _ => 0
end
mutual
def rcN (F : List Nat) : Tr → Nat | .mk _ _ _ ns ks => rcNs F ns ks
def rcNs (F : List Nat) : List ByteArray → List Tr → Nat
  | n :: ns, t :: ks => rc F n + rcN F t + rcNs F ns ks
  | _, _ => 0
end
mutual
def rcT (F : List Nat) : Tr → Nat | .mk _ _ d _ ks => rc F d + rcTs F ks
def rcTs (F : List Nat) : List Tr → Nat
  | t :: ks => rcT F t + rcTs F ks
  | [] => 0
end
theorem rc_all (F : List Nat) (T : Tr) (h : Sml T) : rcA F T = rcN F T + rcT F T := by
  induction h with
  | mk k x d ns ks h1 h2 h3 h4 h5 ih =>
    have hs : ∀ (ns : List ByteArray) (l : List Tr), ns.length = l.length → (∀ t ∈ l, t ∈ ks) → rcAs F ns l = rcNs F ns l + rcTs F l := by
      intro ns l
      induction l generalizing ns with
      | nil => intro hl _; cases ns with
        | nil => rw [rcAs, rcNs, rcTs]; all_goals simp
        | cons a r => simp at hl
      | cons t r ihr =>
        intro hl hm
        cases ns with
        | nil => simp at hl
        | cons a ns =>
          rw [rcAs, rcNs, rcTs, ih t (hm t (by simp)), ihr ns (by simpa using hl) fun t ht => hm t (by simp [ht])]
          omega
    rw [rcA, rcN, rcT, hs ns ks h4 fun _ h => h]
    omega
theorem rcTs_perm {F : List Nat} {a b : List Tr} (h : a.Perm b) : rcTs F a = rcTs F b := by
  induction h with
  | nil => rfl
  | cons x _ ih => simp only [rcTs, ih]
  | swap x y l => simp only [rcTs]; omega
  | trans _ _ h1 h2 => rw [h1, h2]
theorem Srt.times {F D : List Nat} {T C : Tr} (h : Srt F D T C) : rcT F C = rcT F T := by
  induction h with
  | mk k x d ns ks Cs es hl hC hK hp hs ih =>
    rw [rcT, rcT, rcTs_perm (snd_perm (by omega) hp), same_sum (f := rcTs F) (rcT F) (· + ·) (fun t r => by rw [rcTs]) Cs ks hC (fun i t c h1 h2 => ih i c t h2 h1)]
theorem rcN_le {F : List Nat} (hF : F.length = 32) (T : Tr) (h : Sml T) : rcN F T + 100 ≤ 100 * cn T := by
  induction h with
  | mk k x d ns ks h1 h2 h3 h4 h5 ih =>
    have hs : ∀ (l : List Tr) (ns : List ByteArray), (∀ s ∈ ns, s.size ≤ 100) → (∀ t ∈ l, t ∈ ks) → rcNs F ns l ≤ 100 * cns l := by
      intro l
      induction l with
      | nil => intro ns _ _; cases ns <;> rw [rcNs] <;> simp
      | cons t r ihr =>
        intro ns hn hm
        cases ns with
        | nil => rw [rcNs]; all_goals simp
        | cons a ns =>
          have := ihr ns (fun s hs => hn s (by simp [hs])) fun t ht => hm t (by simp [ht])
          have := ih t (hm t (by simp))
          have := rc_le hF a
          have := hn a (by simp)
          rw [rcNs, cns]
          omega
    have hs' := hs ks ns h3 fun _ h => h
    rw [rcN, cn]
    omega
theorem rcT_le {F : List Nat} (hF : F.length = 32) (T : Tr) (h : Vld T) : rcT F T ≤ cb T + 1000 * cn T := by
  induction h with
  | mk k x d ns ks h0 h5 ih =>
    have hs : ∀ (l : List Tr), (∀ t ∈ l, t ∈ ks) → rcTs F l ≤ cbs l + 1000 * cns l := by
      intro l
      induction l with
      | nil => intro _; rw [rcTs]; omega
      | cons t r ihr =>
        intro hm
        have := ihr fun t ht => hm t (by simp [ht])
        have := ih t (hm t (by simp))
        rw [rcTs, cns, cbs]
        omega
    have hs' := hs ks fun _ h => h
    have := rc_le hF d
    rw [rcT, cn, cb]
    rcases loc_data h0 with h | h
    · split <;> omega
    · rw [if_pos h]; omega
theorem rcNs_step {F : List Nat} {ns : List ByteArray} {ks : List Tr} {i : Nat} (h1 : i < ns.length) (h2 : i < ks.length) : rcNs F (ns.drop i) (ks.drop i) = rc F ns[i] + rcN F ks[i] + rcNs F (ns.drop (i + 1)) (ks.drop (i + 1)) := by
  rw [List.drop_eq_getElem_cons h1, List.drop_eq_getElem_cons h2, rcNs]
theorem rcNs_end {F : List Nat} {ns : List ByteArray} (ks : List Tr) {i : Nat} (h : ns.length ≤ i) : rcNs F (ns.drop i) ks = 0 := by
  rw [List.drop_eq_nil_of_le h]; cases ks <;> rw [rcNs]
  all_goals simp
theorem rcAs_step {F : List Nat} {ns : List ByteArray} {ks : List Tr} {i : Nat} (h1 : i < ns.length) (h2 : i < ks.length) : rcAs F (ns.drop i) (ks.drop i) = rc F ns[i] + rcA F ks[i] + rcAs F (ns.drop (i + 1)) (ks.drop (i + 1)) := by
  rw [List.drop_eq_getElem_cons h1, List.drop_eq_getElem_cons h2, rcAs]
theorem rcAs_end {F : List Nat} {ns : List ByteArray} (ks : List Tr) {i : Nat} (h : ns.length ≤ i) : rcAs F (ns.drop i) ks = 0 := by
  rw [List.drop_eq_nil_of_le h]; cases ks <;> rw [rcAs]
  all_goals simp
theorem rcTs_step {F : List Nat} {ks : List Tr} {i : Nat} (h2 : i < ks.length) : rcTs F (ks.drop i) = rcT F ks[i] + rcTs F (ks.drop (i + 1)) := by
  rw [List.drop_eq_getElem_cons h2, rcTs]
theorem rcTs_end {F : List Nat} (ks : List Tr) {i : Nat} (h : ks.length ≤ i) : rcTs F (ks.drop i) = 0 := by
  rw [List.drop_eq_nil_of_le h, rcTs]
end Go.Proofs.Ytlbfcneboaihnaa.Tn
