/- The document's own places and replace. -/
import Derived.Test.YtlbfcneboaihnaaRlw
namespace Go.Proofs.Ytlbfcneboaihnaa
open Go.RowKit Go.Great
set_option linter.unusedSimpArgs false
/-- A number in memory. -/
def I64 (n : Nat) : Value := .int .i64 (n : Int)
/-- A row of numbers of the call's own. -/
def OwnI (w : World) (base : Nat) (v : Value) (L : List Nat) : Prop := w.ownsRow base 3 1 v L.length (L.map I64)
theorem ownI_nil (w : World) (base : Nat) : OwnI w base (.slice none 0 0) [] := ⟨rfl, .inl ⟨rfl, rfl⟩⟩
theorem ownI_keep {w w' : World} {base : Nat} {v : Value} {L : List Nat} (h : OwnI w base v L) (hk : ∀ k, base ≤ k → k < w.heap.size → w'.heap[k]? = w.heap[k]?) : OwnI w' base v L := by
  refine ⟨h.1, ?_⟩
  rcases h.2 with h2 | ⟨g, cap, cur, e, hb, hh, r⟩
  · exact .inl h2
  · exact .inr ⟨g, cap, cur, e, hb, by rw [hk g hb (Array.getElem?_eq_some_iff.1 hh).1]; exact hh, r⟩
theorem OwnI.form {w : World} {base : Nat} {v : Value} {L : List Nat} (h : OwnI w base v L) : ∃ a c, v = .slice a L.length c := by
  rcases h.2 with ⟨rfl, h0⟩ | ⟨g, cap, cur, e, _⟩
  · exact ⟨none, 0, by rw [h0]⟩
  · exact ⟨_, cap, e⟩
theorem OwnI.at {w : World} {base : Nat} {a : Option Addr} {n c : Nat} {L : List Nat} (h : OwnI w base (.slice a n c) L) (hn : L.length = n) (i : Nat) (hi : i < n) : ∃ g, a = some ⟨g, 0, none⟩ ∧ base ≤ g ∧ g < w.heap.size ∧ w.cell? ⟨g, i, none⟩ = some (I64 (L.getD i 0)) := by
  rcases h.2 with ⟨h1, h0⟩ | ⟨g, cap, cur, e, hb, hh, hl, _, hs, ht⟩
  · omega
  · injection e with e1 e2 e3
    refine ⟨g, e1, hb, (Array.getElem?_eq_some_iff.1 hh).1, ?_⟩
    have h1 : (cur.toList.take (L.length * 1))[i]? = (L.map I64)[i]? := by rw [ht]
    have hiL : i < L.length := by omega
    rw [List.getElem?_take, if_pos (by omega), List.getElem?_map, List.getElem?_eq_getElem hiL, Array.getElem?_toList] at h1
    simp [World.cell?, hh, h1, List.getD_eq_getElem?_getD, List.getElem?_eq_getElem hiL]
theorem info3 : (Try.prog.info? 3).map (fun i => (i.zero, i.size, i.bytes)) = some (some (.int .i64 0), 1, 8) := by kernel_rfl
theorem info3_at : ∃ i, Try.prog.info? 3 = some i ∧ i.zero = some (.int .i64 0) ∧ i.size = 1 ∧ i.bytes = 8 := by
  have h := info3
  cases hq : Try.prog.info? 3 with
  | none => simp [hq] at h
  | some i => simp [hq] at h; exact ⟨i, rfl, h.1, h.2.1, h.2.2⟩
def appN (ty : TypeId) (args : Array Value) : Sem Value := Builtin.append_ #[96, 96] ty args
@[go_sem ↓] theorem append_appN (ty : TypeId) (args : Array Value) : Builtin.append_ #[96, 96] ty args = appN ty args := rfl
theorem appI (w : World) (base : Nat) (v : Value) (L : List Nat) (g x : Nat) (ty : TypeId) (ho : OwnI w base v L) (hg : w.cell? ⟨g, 0, none⟩ = some (I64 x)) (hmax : L.length + 1 ≤ 1000000) (hbase : base ≤ w.heap.size) :
    ∃ v' w', (appN ty #[v, .slice (some ⟨g, 0, none⟩) 1 1]).run Try.prog w = .ok v' w' ∧ OwnI w' base v' (L ++ [x]) ∧ Below base w w' := by
  obtain ⟨i, hi, hz, hsz, hby⟩ := info3_at
  obtain ⟨v', w', hr, hown, hgr, -⟩ := run_append_own (P := Try.prog) w base 96 ty 3 i (.int .i64 0) 1 8 Try.underlying96 hi hz hsz hby rfl (by omega) v L.length (L.map I64) ho ⟨g, 0, none⟩ 1 1 [I64 x] (by simp)
    (fun j u hj => by
      have hj0 : j = 0 := by have := (List.getElem?_eq_some_iff.1 hj).1; simp at this; omega
      subst hj0
      simp at hj
      rw [Addr.add_mid, ← hj]; exact hg)
    (fun u hu => by rw [List.mem_singleton.1 hu]; rfl) (by simp only [maxLen]; omega) (by omega) hbase
  refine ⟨v', w', hr, ?_, (Below.refl base w).grown hgr hbase (fun k hk => (World.ownsRow.lt ho k hk).1)⟩
  unfold OwnI; rw [List.length_append, List.map_append]; exact hown
set_option maxRecDepth 20000 in
set_option maxHeartbeats 1000000 in
theorem placesRef_any (a : Option Addr) (n c : Nat) (B D : List Nat) (w : World) (hb : BytesAt w (.slice a n c) B) (hB : Sha.Bytes B) (hn : B.length = n) (hD : Sha.Bytes D) (hl : D.length = 32) (hmax : n ≤ 100000) :
    Calls Try.prog 52 #[.slice a n c, .string (strOf D)] w fun e w' => ∃ v, e = .returned v ∧ OwnI w' w.heap.size v (plcs B D 0) ∧ Below w.heap.size w w' := by
  have hds : (strOf D).size = 32 := by rw [strOf_size, hl]
  have HB := hide (And.intro hb (And.intro hB hn))
  have HD := hide (And.intro hD hl)
  clear hb hB hn hD
  go_enter Try.func52, Try.ntmps52
  go_wp2_with fail
  go_loopw [5, 6] (fun vl vi wr => ∃ (i : Nat) (L : List Nat), i ≤ n ∧ vi = .int .i64 (i : Int) ∧ Hid (plcs B D 0 = L ++ plcs B D i ∧ OwnI wr w.heap.size vl L ∧ Below w.heap.size w wr)) (fun _ vi _ => n + 1 - (intOf vi).toNat)
  case atStart => exact ⟨0, [], by omega, rfl, rfl, ownI_nil _ _, Below.refl _ _⟩
  case round =>
    obtain ⟨i, L, hin, rfl, HI⟩ := hrel
    by_cases hlt : i + 32 ≤ n
    · obtain ⟨g, o, rfl, _⟩ := bytes_at (unhide HB).1 (unhide HB).2.2 i (by omega)
      have hp := piece_at ((unhide HB).1.below (unhide HI).2.2) (unhide HB).2.2 i 32 hlt
      have hcap := bytes_cap (unhide HB).1
      have hcv := conv_at wr _ _ hp
      have hci : ¬ (c = i) := by omega
      have hic : i + 32 ≤ c := by omega
      have e32 : ((i : Int) + 32).toNat - i = 32 := by omega
      have HPB : Hid (Sha.Bytes ((B.drop i).take 32)) := fun x hx => (unhide HB).2.1 x (List.mem_of_mem_drop (List.mem_of_mem_take hx))
      have HQ : Hid ((B.drop i).take D.length = (B.drop i).take 32) := by rw [hl]; exact rfl
      have hLl : L.length ≤ n := by
        have h1 := plcs_len (B := B) (D := D) (by omega) (B.length + 1) 0 (by omega)
        rw [(unhide HI).1, List.length_append] at h1
        have := (unhide HB).2.2
        omega
      clear hp
      generalize (B.drop i).take 32 = P at *
      by_cases he : P = D
      · subst he
        have HN : Hid (plcs B P 0 = (L ++ [i]) ++ plcs B P (i + 32)) := by
          have h := (unhide HI).1
          rw [plcs_hit (i := i) (by omega) (by rw [hl, (unhide HB).2.2]; exact hlt) (unhide HQ), hl] at h
          show plcs B P 0 = _
          rw [h, List.append_assoc]; rfl
        have hzr := (unhide HI).2.2.size
        clear HQ
        go_wp2_with fail
        obtain ⟨v2, w2, hr2, ho2, hb2⟩ := appI (wr.alloc (.cells #[.int .i64 (i : Int)] 3)) w.heap.size u5 L wr.heap.size i 96 (World.ownsRow.alloc (unhide HI).2.1 _) (by simp [go_sem, I64]) (by omega) (by simp; omega)
        rw [hr2]
        have HE : Hid (plcs B P 0 = (L ++ [i]) ++ plcs B P (i + 32) ∧ OwnI w2 w.heap.size v2 (L ++ [i]) ∧ Below w.heap.size w w2) := ⟨unhide HN, ho2, ((unhide HI).2.2.alloc hzr _).trans hb2⟩
        clear hr2 ho2 hb2
        go_wp2_with fail
        exact ⟨⟨i + 32, L ++ [i], by omega, rfl, HE⟩, by simp [intOf]; omega⟩
      · have hne : ((strOf P).toList == (strOf D).toList) = false := toList_ne (fun e => he (strOf_inj (unhide HPB) (unhide HD).1 e))
        have HE : Hid (plcs B D 0 = L ++ plcs B D (i + 1) ∧ OwnI wr w.heap.size u5 L ∧ Below w.heap.size w wr) := by
          refine ⟨?_, (unhide HI).2⟩
          rw [(unhide HI).1, plcs_miss (i := i) (by omega) (by rw [hl, (unhide HB).2.2]; exact hlt) (by rw [unhide HQ]; exact he)]
        clear HQ he
        go_wp2_with fail
        exact ⟨⟨i + 1, L, by omega, rfl, HE⟩, by simp [intOf]; omega⟩
    · have HE : Hid (OwnI wr w.heap.size u5 (plcs B D 0) ∧ Below w.heap.size w wr) := by
        have h := (unhide HI).1
        rw [plcs_stop (i := i) (by rw [hl, (unhide HB).2.2]; exact hlt), List.append_nil] at h
        rw [h]; exact (unhide HI).2
      go_wp2_with fail
      go_ret
      exact ⟨_, rfl, unhide HE⟩
theorem ownR_new (w : World) : OwnR (w.alloc (.cells #[] 5)) w.heap.size (.slice (some ⟨w.heap.size, 0, none⟩) 0 0) [] :=
  ⟨rfl, .inr ⟨w.heap.size, 0, #[], rfl, Nat.le_refl _, heap_alloc_last w _, Nat.le_refl _, Nat.zero_le _, rfl, rfl⟩⟩
set_option maxRecDepth 20000 in
set_option maxHeartbeats 1000000 in
theorem replaceRef_any (a : Option Addr) (n c : Nat) (B F T : List Nat) (w : World) (hb : BytesAt w (.slice a n c) B) (hB : Sha.Bytes B) (hn : B.length = n) (hF : Sha.Bytes F) (hFl : F.length = 32) (hT : Sha.Bytes T) (hTl : T.length = 32) (hmax : n ≤ 100000) :
    Calls Try.prog 37 #[.slice a n c, .string (strOf F), .string (strOf T)] w fun e w' => ∃ v, e = .returned (.tuple #[v, .int .i64 ((plcs B F 0).length : Int)]) ∧ OwnR w' w.heap.size v (layAll T B (plcs B F 0)) ∧ Below w.heap.size w w' := by
  have hb0 : Below w.heap.size w (w.alloc (.cells #[] 5)) := (Below.refl _ _).alloc (Nat.le_refl _) _
  obtain ⟨v1, w1, hr1, ho1, hb1, _⟩ := appR (w.alloc (.cells #[] 5)) w.heap.size (.slice (some ⟨w.heap.size, 0, none⟩) 0 0) [] a n c B 22 hn (ownR_new w) (hb.below hb0) (by simp; omega) (by simp)
  rw [List.nil_append] at ho1
  have hbl1 : Below w.heap.size w w1 := hb0.trans hb1
  have hz1 := hbl1.size
  have HP := hide (placesRef_any a n c B F w1 (hb.below hbl1) hB hn hF hFl hmax)
  obtain ⟨av, cv, rfl, _⟩ := ho1.at
  rw [hn] at hr1
  have HO1 : Hid (OwnR w1 w.heap.size (.slice av n cv) B) := by rw [← hn]; exact ho1
  have HB1 := hide hbl1
  have HN := hide hn
  clear hb hb0 hb1 ho1 hbl1 hn
  go_enter Try.func37, Try.ntmps37
  go_wp2_with fail
  refine (unhide HP).mono ?_
  rintro e w2 ⟨v2, rfl, ho2, hb2⟩
  obtain ⟨al, cl, rfl⟩ := ho2.form
  have hbl2 : Below w.heap.size w w2 := (unhide HB1).trans (hb2.mono hz1)
  have HO2 := hide (ownR_keep (unhide HO1) fun k _ hk => hb2.block k hk)
  have hlp : (plcs B F 0).length ≤ n := by
    have h1 := plcs_len (B := B) (D := F) (by omega) (B.length + 1) 0 (by omega)
    have := unhide HN
    omega
  have HIN : Hid (∀ p ∈ plcs B F 0, p + 32 ≤ n) := fun p hp => by
    have := plcs_in (by omega) hp
    have := unhide HN
    omega
  have HI2 := hide ho2
  have HB2 := hide hbl2
  have hav : ∀ k, (Value.slice av n cv).ownBlock = some k → k < w1.heap.size := fun k hk => (World.ownsRow.lt (unhide HO1) k (by rw [← hk])).2
  generalize hPS : plcs B F 0 = PS at *
  have HPS := hide hPS
  clear ho2 hb2 hbl2 hr1 HP hPS
  obtain ⟨np, hnp⟩ : ∃ np, PS.length = np := ⟨_, rfl⟩
  rw [hnp] at hlp HI2 ⊢
  have HNP := hide hnp
  clear hnp
  go_wp2_with fail
  go_loopw [10] (fun vi wr => ∃ i : Nat, i ≤ np ∧ vi = .int .i64 (i : Int) ∧ Hid (OwnR wr w.heap.size (.slice av n cv) (layAll T B (PS.take i)) ∧ OwnI wr w1.heap.size (.slice al np cl) PS ∧ Below w.heap.size w wr)) (fun vi _ => np - (intOf vi).toNat)
  case atStart => exact ⟨0, by omega, rfl, unhide HO2, unhide HI2, unhide HB2⟩
  case round =>
    obtain ⟨i, hin, rfl, HI⟩ := hrel
    by_cases hlt : i < np
    · obtain ⟨gl, rfl, hgl1, hgl2, hcl⟩ := (unhide HI).2.1.at (unhide HNP) i hlt
      have hpn : PS.getD i 0 + 32 ≤ n := unhide HIN _ (by rw [List.getD_eq_getElem?_getD, List.getElem?_eq_getElem (by rw [unhide HNP]; exact hlt)]; exact List.getElem_mem _)
      have HT1 : Hid (PS.take (i + 1) = PS.take i ++ [PS.getD i 0]) := by
        have hi' : i < PS.length := by rw [unhide HNP]; exact hlt
        show PS.take (i + 1) = _
        rw [List.take_add_one, List.getElem?_eq_getElem hi', List.getD_eq_getElem?_getD, List.getElem?_eq_getElem hi']; rfl
      have hO : (layAll T B (PS.take i)).length = n := by
        rw [layAll_length _ _ (fun q hq => by rw [hTl, unhide HN]; exact unhide HIN q (List.mem_of_mem_take hq)), unhide HN]
      obtain ⟨g, rfl, hcc⟩ : ∃ g, av = some ⟨g, 0, none⟩ ∧ n ≤ cv := by
        rcases (unhide HI).1.2 with ⟨_, h0⟩ | ⟨g, cap, cur, e, _, _, hl, _⟩
        · omega
        · injection e with e1 e2 e3
          exact ⟨g, e1, by omega⟩
      unfold I64 at hcl
      generalize PS.getD i 0 = p at *
      obtain ⟨W1, hcp, ho, hsz, h1, h2, h3, hk⟩ := copyR wr w.heap.size g n cv (layAll T B (PS.take i)) T p 3 (unhide HI).1 hT hO (by rw [hTl]; exact hpn)
      have hglt : g < w1.heap.size := hav g rfl
      have HE : Hid (OwnR W1 w.heap.size (.slice (some ⟨g, 0, none⟩) n cv) (layAll T B (PS.take (i + 1))) ∧ OwnI W1 w1.heap.size (.slice (some ⟨gl, 0, none⟩) np cl) PS ∧ Below w.heap.size w W1) := by
        refine ⟨by rw [unhide HT1, layAll_snoc]; exact ho, ownI_keep (unhide HI).2.1 fun k hk1 _ => hk k (by omega), ?_⟩
        have hb := (unhide HI).2.2
        have hgb : w.heap.size ≤ g := (World.ownsRow.lt ho g rfl).1
        exact ⟨h1.trans hb.os, h2.trans hb.tape, h3.trans hb.output, by rw [hsz]; exact hb.size, fun k hk1 => (hk k (by omega)).trans (hb.block k hk1)⟩
      have hpc : p ≤ cv := by omega
      have hpe : ¬ (cv = p) := by omega
      clear ho hsz h1 h2 h3 hk hO
      go_wp2_with fail
      exact ⟨⟨i + 1, by omega, rfl, HE⟩, by simp [intOf]; omega⟩
    · obtain rfl : i = np := by omega
      have HE : Hid (OwnR wr w.heap.size (.slice av n cv) (layAll T B PS) ∧ Below w.heap.size w wr) := by
        have h := (unhide HI).1
        rw [List.take_of_length_le (by have := unhide HNP; omega)] at h
        exact ⟨h, (unhide HI).2.2⟩
      go_wp2_with fail
      go_ret2
      rw [unhide HPS, unhide HNP]
      exact ⟨_, rfl, unhide HE⟩
end Go.Proofs.Ytlbfcneboaihnaa
