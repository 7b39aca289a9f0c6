/- Lay, of the document's own answer: a text laid among texts that rise. -/
import Derived.Test.YtlbfcneboaihnaaSorts
namespace Go.Proofs.Ytlbfcneboaihnaa
open Go.RowKit Go.Great
/-- A row of texts of the call's own, and how its memory lies. -/
def OwnL (w : World) (base : Nat) (v : Value) (L : List Ord.S) : Prop := w.ownsRow base 25 1 v L.length (L.map encStr)
theorem OwnL.at {w : World} {base : Nat} {v : Value} {L : List Ord.S} (h : OwnL w base v L) : StrsAt w v L := by
  by_cases hv : v = .slice none 0 0
  · subst hv
    rcases h.2 with ⟨_, h0⟩ | ⟨g, cap, cur, e, _⟩
    · obtain rfl : L = [] := List.eq_nil_of_length_eq_zero h0
      exact ⟨none, 0, rfl, Nat.le_refl _, fun h => by simp at h⟩
    · cases e
  · obtain ⟨g, c, rfl, hbg, hgl, hncap, hcm, hlen, hH⟩ := Lib.holds_of_ownsRow h hv
    exact ⟨_, c, rfl, hncap, fun _ => ⟨g, 0, rfl, hgl, fun i hi => holds_at hH i hi⟩⟩
theorem info26 : (Try.prog.info? 25).map (fun i => (i.zero, i.size, i.bytes)) = some (some (.string ⟨#[]⟩), 1, 16) := by kernel_rfl
theorem info26_at : ∃ i, Try.prog.info? 25 = some i ∧ i.zero = some (.string ⟨#[]⟩) ∧ i.size = 1 ∧ i.bytes = 16 := by
  have h := info26
  cases hq : Try.prog.info? 25 with
  | none => simp [hq] at h
  | some i => simp [hq] at h; exact ⟨i, rfl, h.1, h.2.1, h.2.2⟩
def app38 (ty : TypeId) (args : Array Value) : Sem Value := Builtin.append_ #[23, 23] ty args
@[go_sem ↓] theorem append_app38 (ty : TypeId) (args : Array Value) : Builtin.append_ #[23, 23] ty args = app38 ty args := rfl
theorem appS (w : World) (base : Nat) (v : Value) (L : List Ord.S) (a : Option Addr) (m c : Nat) (Z : List Ord.S) (ty : TypeId) (hm : Z.length = m) (ho : OwnL w base v L) (hs : StrsAt w (.slice a m c) Z) (hmax : L.length + m ≤ 1000000) (hbase : base ≤ w.heap.size) :
    ∃ v' w', (app38 ty #[v, .slice a m c]).run Try.prog w = .ok v' w' ∧ OwnL w' base v' (L ++ Z) ∧ Below base w w' ∧ w.heap.size ≤ w'.heap.size := by
  subst hm
  obtain ⟨i, hi, hz, hsz, hby⟩ := info26_at
  by_cases h0 : 0 < Z.length
  · obtain ⟨a', c', e, hc, hx⟩ := hs
    cases e
    obtain ⟨b, o, rfl, hb, hcell⟩ := hx h0
    have hnews : ∀ j u, (Z.map encStr)[j]? = some u → w.cell? ((⟨b, o, none⟩ : Addr).add j) = some u := fun j u hj => by
      rw [List.getElem?_map] at hj
      cases h : Z[j]? with
      | none => simp [h] at hj
      | some z =>
        simp [h] at hj
        obtain ⟨hjl, rfl⟩ := List.getElem?_eq_some_iff.1 h
        rw [Addr.add_mid, hcell j hjl, ← hj, List.getD_eq_getElem?_getD, h]; rfl
    obtain ⟨v', w', hr, hown, hg, -⟩ := run_append_own (P := Try.prog) w base 23 ty 25 i (.string ⟨#[]⟩) 1 16 Try.underlying23 hi hz hsz hby rfl (by omega) v L.length (L.map encStr) ho ⟨b, o, none⟩ Z.length c (Z.map encStr) (by simp) hnews
      (fun u hu => by obtain ⟨z, -, rfl⟩ := List.mem_map.1 hu; rfl) (by simp only [maxLen]; omega) (by omega) hbase
    refine ⟨v', w', hr, ?_, ?_, hg.size⟩
    · unfold OwnL; rw [List.length_append, List.map_append]; exact hown
    · exact (Below.refl base w).grown hg hbase (fun k hk => (World.ownsRow.lt ho k hk).1)
  · obtain rfl : Z = [] := List.eq_nil_of_length_eq_zero (by omega)
    have hsrc : Src Try.prog i.size 23 (.slice a 0 c) 0 [] w := by
      cases a with
      | none => exact Src.ofNil w Try.underlying23 c
      | some x => exact Src.ofSlice w Try.underlying23 x 0 c [] (by simp) (fun j u hj => by simp at hj) (fun u hu => by simp at hu)
    obtain ⟨b, n, cp, rfl, hle, hn⟩ : ∃ b n cp, v = .slice b n cp ∧ n ≤ cp ∧ n = L.length := by
      rcases ho.2 with ⟨rfl, h⟩ | ⟨g, cap, cur, rfl, _, _, h, _⟩
      · exact ⟨none, 0, 0, rfl, Nat.le_refl _, h.symm⟩
      · exact ⟨_, _, _, rfl, h, rfl⟩
    refine ⟨_, w, run_append_nothing w 23 23 ty 25 i Try.underlying23 hi b n cp hle _ hsrc, ?_, Below.refl _ _, Nat.le_refl _⟩
    rw [List.append_nil]; exact ho
/-- A slice whose block is one of texts. -/
def T25 (w : World) (v : Value) : Prop := ∀ k, v.ownBlock = some k → ∃ cs fr, w.heap[k]? = some (.cells cs 25 fr)
theorem OwnL.t25 {w : World} {base : Nat} {v : Value} {L : List Ord.S} (h : OwnL w base v L) : T25 w v := fun k hk => by
  rcases h.2 with ⟨rfl, _⟩ | ⟨g, cap, cur, rfl, _, hh, _⟩
  · cases hk
  · cases hk; exact ⟨_, _, hh⟩
theorem T25.keep {w w' : World} {v : Value} (h : T25 w v) (hk : ∀ k, v.ownBlock = some k → w'.heap[k]? = w.heap[k]?) : T25 w' v := fun k e => by
  obtain ⟨cs, fr, h⟩ := h k e
  exact ⟨cs, fr, (hk k e).trans h⟩
theorem ownL_new (w : World) : OwnL (w.alloc (.cells #[] 25)) w.heap.size (.slice (some ⟨w.heap.size, 0, none⟩) 0 0) [] :=
  ⟨by simp, .inr ⟨w.heap.size, 0, #[], rfl, Nat.le_refl _, heap_alloc_last w _, Nat.le_refl _, Nat.zero_le _, rfl, rfl⟩⟩
theorem oneS_at (w : World) (p : Ord.S) : StrsAt (w.alloc (.cells #[.string ⟨p.toArray⟩] 25)) (.slice (some ⟨w.heap.size, 0, none⟩) 1 1) [p] :=
  ⟨_, 1, rfl, Nat.le_refl _, fun _ => ⟨w.heap.size, 0, rfl, by simp, fun i hi => by
    obtain rfl : i = 0 := by simp at hi; omega
    simp [go_sem, encStr]⟩⟩
set_option maxRecDepth 20000 in
set_option maxHeartbeats 1000000 in
theorem lay_some (g o cap : Nat) (R : List Ord.S) (p : Ord.S) (w : World) (hv : StrsAt w (.slice (some ⟨g, o, none⟩) R.length cap) R) (hr : Ord.Rises R) (h0 : 0 < R.length) (hmax : R.length ≤ 100000) :
    Calls Try.prog 29 #[.slice (some ⟨g, o, none⟩) R.length cap, .string ⟨p.toArray⟩] w fun e w' => ∃ u R', e = .returned u ∧ StrsAt w' u R' ∧ Ord.Rises R' ∧ (∀ x, x ∈ R' ↔ x = p ∨ x ∈ R) ∧ R'.length ≤ R.length + 1 ∧ Below w.heap.size w w' ∧ (∀ base, base ≤ w.heap.size → OwnL w base (.slice (some ⟨g, o, none⟩) R.length cap) R → OwnL w' base u R') := by
  obtain ⟨n, hn⟩ : ∃ n, n = R.length := ⟨_, rfl⟩
  rw [← hn]
  have hcap : n ≤ cap := by obtain ⟨a, c, e, hc, _⟩ := hv; cases e; omega
  have HC : Hid (g < w.heap.size ∧ ∀ i, i < n → w.cell? ⟨g, o + i, none⟩ = some (.string ⟨(R.getD i []).toArray⟩)) := by
    obtain ⟨a, c, e, hc, hm⟩ := hv
    cases e
    obtain ⟨b, o', ea, hb, hcell⟩ := hm h0
    cases ea
    exact ⟨hb, fun i hi => hcell i (by omega)⟩
  have HR := hide hr
  have HN := hide hn
  have HV := hide hv
  rw [← hn] at hmax h0
  clear hv hr hn
  go_enter Try.func29, Try.ntmps29
  go_wp2
  go_loopw [5, 6] (fun vl vh wr => ∃ lo hi : Nat, lo ≤ hi ∧ hi ≤ n ∧ vl = .int .i64 (lo : Int) ∧ vh = .int .i64 (hi : Int) ∧ wr = w ∧ Hid (∀ i x, i < lo → R[i]? = some x → x < p) ∧ Hid (∀ i x, hi ≤ i → R[i]? = some x → ¬ x < p)) (fun vl vh _ => (intOf vh).toNat - (intOf vl).toNat)
  case atStart => exact ⟨0, n, by omega, by omega, rfl, rfl, rfl, fun i x h => by omega, fun i x h hx => by have h1 := (List.getElem?_eq_some_iff.1 hx).1; have h2 := unhide HN; omega⟩
  case round =>
    obtain ⟨lo, hi, hlh, hhn, rfl, rfl, hwr, hlo, hhi⟩ := hrel
    subst hwr
    by_cases hlt : lo < hi
    · obtain ⟨m, hm⟩ : ∃ m : Nat, (lo + hi) / 2 = m := ⟨_, rfl⟩
      have hmi : ((lo : Int) + (hi : Int)) / 2 = (m : Int) := by omega
      have hm1 : lo ≤ m := by omega
      have hm2 : m < hi := by omega
      have hcm := (unhide HC).2 m (by omega)
      have hmR : Hid (R[m]? = some (R.getD m [])) := by
        rw [List.getD_eq_getElem?_getD]
        have hml : m < R.length := by have := unhide HN; omega
        rw [List.getElem?_eq_getElem hml]; exact rfl
      have hmono : Hid (∀ i x, R[i]? = some x → (i < m → x < R.getD m []) ∧ (m < i → R.getD m [] < x)) := fun i x hx => by
        obtain ⟨hil, rfl⟩ := List.getElem?_eq_some_iff.1 hx
        obtain ⟨hml, hme⟩ := List.getElem?_eq_some_iff.1 (unhide hmR)
        rw [← hme]
        exact ⟨fun h => List.pairwise_iff_getElem.1 (unhide HR) i m hil hml h, fun h => List.pairwise_iff_getElem.1 (unhide HR) m i hml hil h⟩
      generalize R.getD m [] = z at *
      clear hm
      by_cases hzp : z < p
      · have hbl : Op.bytesLess z p = true := by rw [bytesLess_eq]; exact decide_eq_true hzp
        have HZ := hide hzp
        clear hzp
        go_wp2
        go_roundw
        case rel => exact ⟨m + 1, hi, by omega, hhn, by go_num, rfl, by first | rfl | trivial, fun i x hi hx => by
          rcases Nat.lt_or_ge i m with h | h
          · exact Ord.trans ((unhide hmono i x hx).1 h) (unhide HZ)
          · obtain rfl : i = m := by omega
            rw [unhide hmR] at hx; cases hx; exact unhide HZ, hhi⟩
        case measure => simp [intOf]; try omega
      · have hbl : Op.bytesLess z p = false := by rw [bytesLess_eq]; exact decide_eq_false hzp
        have HZ := hide hzp
        clear hzp
        go_wp2
        go_roundw
        case rel => exact ⟨lo, m, hm1, by omega, rfl, by first | rfl | (rw [hmi]), by first | rfl | trivial, hlo, fun i x hi hx => by
          rcases Nat.lt_or_ge m i with h | h
          · exact fun hc => unhide HZ (Ord.trans ((unhide hmono i x hx).2 h) hc)
          · obtain rfl : i = m := by omega
            rw [unhide hmR] at hx; cases hx; exact unhide HZ⟩
        case measure => simp [intOf]; try omega
    · obtain rfl : lo = hi := by omega
      by_cases hfound : ∃ x, R[lo]? = some x ∧ x = p
      · obtain ⟨x, hx, rfl⟩ := hfound
        have hlo' : lo < n := by have h1 := (List.getElem?_eq_some_iff.1 hx).1; have h2 := unhide HN; omega
        have hcl := (unhide HC).2 lo hlo'
        have hge : R.getD lo [] = x := by rw [List.getD_eq_getElem?_getD, hx]; rfl
        rw [hge] at hcl
        have hq : ((⟨x.toArray⟩ : ByteArray).toList == (⟨x.toArray⟩ : ByteArray).toList) = true := by simp
        have HX := hide hx
        clear hx hge
        go_wp2
        go_ret
        refine ⟨_, R, rfl, ?_, unhide HR, fun y => ⟨.inr, ?_⟩, by have := unhide HN; omega, Below.refl _ _, fun _ _ h => h⟩
        · have := unhide HV
          rw [← unhide HN] at this; exact this
        · rintro (rfl | h)
          · exact List.mem_of_getElem? (unhide HX)
          · exact h
      · have hnotl : ∀ x, R[lo]? = some x → p < x := fun x hx => by
          rcases Ord.tri x p with h | h | h
          · exact absurd h (unhide hhi lo x (Nat.le_refl _) hx)
          · exact absurd ⟨x, hx, h⟩ hfound
          · exact h
        have HG : Hid (∀ i x, lo ≤ i → R[i]? = some x → p < x) := fun i x hi hx => by
          by_cases he : i = lo
          · subst he; exact hnotl x hx
          · obtain ⟨hil, rfl⟩ := List.getElem?_eq_some_iff.1 hx
            have hll : lo < R.length := by omega
            exact Ord.trans (hnotl _ (List.getElem?_eq_getElem hll)) (List.pairwise_iff_getElem.1 (unhide HR) lo i hll hil (by omega))
        have HQ : Hid (lo < n → wr.cell? ⟨g, o + lo, none⟩ = some (.string ⟨(R.getD lo []).toArray⟩) ∧ ((⟨(R.getD lo []).toArray⟩ : ByteArray).toList == (⟨p.toArray⟩ : ByteArray).toList) = false ∧ (R.getD lo [] == p) = false) := fun h => by
          have hll : lo < R.length := by have := unhide HN; omega
          have hne : R.getD lo [] ≠ p := fun he => hfound ⟨R.getD lo [], by rw [List.getD_eq_getElem?_getD, List.getElem?_eq_getElem hll]; rfl, he⟩
          refine ⟨(unhide HC).2 lo h, ?_, ?_⟩
          · rw [beq_eq_false_iff_ne]
            intro he
            exact hne (by simpa using he)
          · rw [beq_eq_false_iff_ne]; exact hne
        clear hfound hnotl
        have hloc : lo ≤ cap := by omega
        have HB1 : Hid (StrsAt wr (.slice (some ⟨g, o, none⟩) lo cap) (R.take lo)) := by
          have htl : (R.take lo).length = lo := by rw [List.length_take]; have := unhide HN; omega
          refine ⟨_, cap, by rw [htl], by omega, fun h => ⟨g, o, rfl, (unhide HC).1, fun i hi => ?_⟩⟩
          rw [htl] at hi
          rw [(unhide HC).2 i (by omega), List.getD_eq_getElem?_getD, List.getD_eq_getElem?_getD, List.getElem?_take_of_lt hi, encStr]
        have HB2 : Hid (StrsAt wr (.slice (if cap = lo then some ⟨g, o, none⟩ else some ⟨g, o + lo, none⟩) (n - lo) (cap - lo)) (R.drop lo)) := by
          have htl : (R.drop lo).length = n - lo := by rw [List.length_drop]; have := unhide HN; omega
          refine ⟨_, cap - lo, by rw [htl], by omega, fun h => ⟨g, o + lo, if_neg (by omega), (unhide HC).1, fun i hi => ?_⟩⟩
          rw [htl] at hi
          rw [Nat.add_assoc, (unhide HC).2 (lo + i) (by omega), List.getD_eq_getElem?_getD, List.getD_eq_getElem?_getD, List.getElem?_drop, encStr]
        by_cases hln : lo < n
        · obtain ⟨hcl, hq, hq'⟩ := unhide HQ hln
          rw [if_neg (by omega)] at HB2
          generalize R.getD lo [] = y at *
          go_wp2_with fail
          have hb0 : Below wr.heap.size wr (wr.alloc (.cells #[] 25)) := (Below.refl _ _).alloc (Nat.le_refl _) _
          have htk : (R.take lo).length = lo := by rw [List.length_take]; have := unhide HN; omega
          obtain ⟨v1, w1, hr1, ho1, hb1, hz1⟩ := appS (wr.alloc (.cells #[] 25)) wr.heap.size (.slice (some ⟨wr.heap.size, 0, none⟩) 0 0) [] (some ⟨g, o, none⟩) lo cap (R.take lo) 23 htk (ownL_new wr) ((unhide HB1).below hb0) (by simp; omega) (by simp)
          rw [hr1]
          have hz1' : wr.heap.size + 1 ≤ w1.heap.size := by simpa using hz1
          have hbl1 : Below wr.heap.size wr w1 := hb0.trans hb1
          rw [List.nil_append] at ho1
          clear hr1 hb1 hz1
          go_wp2_with fail
          obtain ⟨v2, w2, hr2, ho2, hb2, hz2⟩ := appS (w1.alloc (.cells #[.string ⟨p.toArray⟩] 25)) wr.heap.size v1 (R.take lo) (some ⟨w1.heap.size, 0, none⟩) 1 1 [p] 23 rfl (World.ownsRow.alloc ho1 _) (oneS_at w1 p) (by rw [htk]; omega) (by simp; omega)
          rw [hr2]
          have hbl2 : Below wr.heap.size wr w2 := (hbl1.alloc (by omega) _).trans hb2
          have hz2' : wr.heap.size ≤ w2.heap.size := hbl2.size
          clear hr2 hb2 hz2 ho1 hbl1
          go_wp2_with fail
          obtain ⟨v3, w3, hr3, ho3, hb3, hz3⟩ := appS w2 wr.heap.size v2 (R.take lo ++ [p]) (some ⟨g, o + lo, none⟩) (n - lo) (cap - lo) (R.drop lo) 23 (by rw [List.length_drop]; have := unhide HN; omega) ho2 ((unhide HB2).below hbl2) (by rw [List.length_append, htk]; simp; omega) hz2'
          rw [hr3]
          have hbl3 : Below wr.heap.size wr w3 := hbl2.trans hb3
          clear hr3 hb3 hz3 ho2 hbl2
          go_wp2
          go_ret
          exact ⟨v3, R.take lo ++ [p] ++ R.drop lo, rfl, ho3.at, Ord.lay_rises (unhide HR) (unhide hlo) (unhide HG), fun x => Ord.lay_mem x, by rw [List.length_append, List.length_append, htk, List.length_drop]; have := unhide HN; simp; omega, hbl3, fun base hbs _ => World.ownsRow.mono ho3 hbs⟩
        · obtain rfl : lo = n := by omega
          rw [Nat.sub_self] at HB2
          generalize hAA : (if cap = lo then some (⟨g, o, none⟩ : Addr) else some ⟨g, o + lo, none⟩) = A at *
          go_wp2_with fail
          have hb0 : Below wr.heap.size wr (wr.alloc (.cells #[] 25)) := (Below.refl _ _).alloc (Nat.le_refl _) _
          have htk : (R.take lo).length = lo := by rw [List.length_take]; have := unhide HN; omega
          obtain ⟨v1, w1, hr1, ho1, hb1, hz1⟩ := appS (wr.alloc (.cells #[] 25)) wr.heap.size (.slice (some ⟨wr.heap.size, 0, none⟩) 0 0) [] (some ⟨g, o, none⟩) lo cap (R.take lo) 23 htk (ownL_new wr) ((unhide HB1).below hb0) (by simp; omega) (by simp)
          rw [hr1]
          have hz1' : wr.heap.size + 1 ≤ w1.heap.size := by simpa using hz1
          have hbl1 : Below wr.heap.size wr w1 := hb0.trans hb1
          rw [List.nil_append] at ho1
          clear hr1 hb1 hz1
          go_wp2_with fail
          obtain ⟨v2, w2, hr2, ho2, hb2, hz2⟩ := appS (w1.alloc (.cells #[.string ⟨p.toArray⟩] 25)) wr.heap.size v1 (R.take lo) (some ⟨w1.heap.size, 0, none⟩) 1 1 [p] 23 rfl (World.ownsRow.alloc ho1 _) (oneS_at w1 p) (by rw [htk]; omega) (by simp; omega)
          rw [hr2]
          have hbl2 : Below wr.heap.size wr w2 := (hbl1.alloc (by omega) _).trans hb2
          have hz2' : wr.heap.size ≤ w2.heap.size := hbl2.size
          clear hr2 hb2 hz2 ho1 hbl1
          go_wp2_with fail
          obtain ⟨v3, w3, hr3, ho3, hb3, hz3⟩ := appS w2 wr.heap.size v2 (R.take lo ++ [p]) A 0 (cap - lo) (R.drop lo) 23 (by rw [List.length_drop]; have := unhide HN; omega) ho2 ((unhide HB2).below hbl2) (by rw [List.length_append, htk]; simp; omega) hz2'
          rw [hr3]
          have hbl3 : Below wr.heap.size wr w3 := hbl2.trans hb3
          clear hr3 hb3 hz3 ho2 hbl2
          go_wp2
          go_ret
          exact ⟨v3, R.take lo ++ [p] ++ R.drop lo, rfl, ho3.at, Ord.lay_rises (unhide HR) (unhide hlo) (unhide HG), fun x => Ord.lay_mem x, by rw [List.length_append, List.length_append, htk, List.length_drop]; have := unhide HN; simp; omega, hbl3, fun base hbs _ => World.ownsRow.mono ho3 hbs⟩
set_option maxRecDepth 20000 in
set_option maxHeartbeats 1000000 in
theorem lay_none (p : Ord.S) (w : World) :
    Calls Try.prog 29 #[.slice none 0 0, .string ⟨p.toArray⟩] w fun e w' => ∃ u, e = .returned u ∧ StrsAt w' u [p] ∧ Below w.heap.size w w' ∧ OwnL w' w.heap.size u [p] := by
  have hnil : ∀ W : World, StrsAt W (.slice none 0 0) [] := fun W => ⟨none, 0, rfl, Nat.le_refl _, fun h => by simp at h⟩
  go_enter Try.func29, Try.ntmps29
  go_wp2
  go_loopw [5, 6] (fun vl vh wr => vl = .int .i64 0 ∧ vh = .int .i64 0 ∧ wr = w) (fun _ _ _ => 0)
  case atStart => exact ⟨rfl, rfl, rfl⟩
  case round =>
    obtain ⟨rfl, rfl, rfl⟩ := hrel
    go_wp2_with fail
    have hb0 : Below wr.heap.size wr (wr.alloc (.cells #[] 25)) := (Below.refl _ _).alloc (Nat.le_refl _) _
    obtain ⟨v1, w1, hr1, ho1, hb1, hz1⟩ := appS (wr.alloc (.cells #[] 25)) wr.heap.size (.slice (some ⟨wr.heap.size, 0, none⟩) 0 0) [] none 0 0 [] 23 rfl (ownL_new wr) (hnil _) (by simp) (by simp)
    rw [hr1]
    have hz1' : wr.heap.size + 1 ≤ w1.heap.size := by simpa using hz1
    have hbl1 : Below wr.heap.size wr w1 := hb0.trans hb1
    rw [List.nil_append] at ho1
    clear hr1 hb1 hz1
    go_wp2_with fail
    obtain ⟨v2, w2, hr2, ho2, hb2, hz2⟩ := appS (w1.alloc (.cells #[.string ⟨p.toArray⟩] 25)) wr.heap.size v1 [] (some ⟨w1.heap.size, 0, none⟩) 1 1 [p] 23 rfl (World.ownsRow.alloc ho1 _) (oneS_at w1 p) (by simp) (by simp; omega)
    rw [hr2]
    have hbl2 : Below wr.heap.size wr w2 := (hbl1.alloc (by omega) _).trans hb2
    have hz2' : wr.heap.size ≤ w2.heap.size := hbl2.size
    rw [List.nil_append] at ho2
    clear hr2 hb2 hz2 ho1 hbl1
    go_wp2_with fail
    obtain ⟨v3, w3, hr3, ho3, hb3, hz3⟩ := appS w2 wr.heap.size v2 [p] none 0 0 [] 23 rfl ho2 (hnil _) (by simp) hz2'
    rw [hr3]
    have hbl3 : Below wr.heap.size wr w3 := hbl2.trans hb3
    rw [List.append_nil] at ho3
    clear hr3 hb3 hz3 ho2 hbl2
    go_wp2
    go_ret
    exact ⟨v3, rfl, ho3.at, hbl3, ho3⟩
/-- A row that rises, as Rising carries it. -/
def RowR (w : World) (v : Value) (R : List Ord.S) : Prop := StrsAt w v R ∧ Ord.Rises R ∧ ((v = .slice none 0 0 ∧ R = []) ∨ 0 < R.length)
theorem RowR.below {w w' : World} {v : Value} {R : List Ord.S} (h : RowR w v R) (hb : Below w.heap.size w w') : RowR w' v R := ⟨h.1.below hb, h.2⟩
theorem lay_any (v : Value) (R : List Ord.S) (p : Ord.S) (w : World) (hv : RowR w v R) (hmax : R.length ≤ 100000) :
    Calls Try.prog 29 #[v, .string ⟨p.toArray⟩] w fun e w' => ∃ u R', e = .returned u ∧ RowR w' u R' ∧ (∀ x, x ∈ R' ↔ x = p ∨ x ∈ R) ∧ R'.length ≤ R.length + 1 ∧ Below w.heap.size w w' ∧ (∀ base, base ≤ w.heap.size → OwnL w base v R → OwnL w' base u R') := by
  obtain ⟨hs, hr, ⟨rfl, rfl⟩ | h0⟩ := hv
  · refine (lay_none p w).mono fun e w' ⟨u, he, hu, hb, ht⟩ => ⟨u, [p], he, ⟨hu, by simp [Ord.Rises], .inr (by simp)⟩, fun x => by simp, by simp, hb, fun base hbs _ => World.ownsRow.mono ht hbs⟩
  · obtain ⟨a, cap, rfl, hc, hx⟩ := hs
    obtain ⟨g, o, rfl, hg, hcell⟩ := hx h0
    refine (lay_some g o cap R p w ⟨_, cap, rfl, hc, fun _ => ⟨g, o, rfl, hg, hcell⟩⟩ hr h0 hmax).mono fun e w' ⟨u, R', he, hu, hr', hm, hl, hb, ht⟩ => ⟨u, R', he, ⟨hu, hr', .inr ?_⟩, hm, hl, hb, ht⟩
    have : p ∈ R' := (hm p).2 (.inl rfl)
    exact List.length_pos_of_mem this
end Go.Proofs.Ytlbfcneboaihnaa
