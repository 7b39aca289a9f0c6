/- The document's own Modulo. -/
import Derived.Test.YtlbfcneboaihnaaGreatDoorMdl
import Derived.Test.YtlbfcneboaihnaaGreatDoorRew
import Derived.Test.YtlbfcneboaihnaaGreatDoorK3
namespace Go.Proofs.YtlbfcneboaihnaaGreatDoor
open Go.RowKit Go.Shelf Go.Great
set_option linter.unusedSimpArgs false
def appD (ty : TypeId) (args : Array Value) : Sem Value := Builtin.append_ #[22, 9] ty args
@[go_sem ↓] theorem append_appD (ty : TypeId) (args : Array Value) : Builtin.append_ #[22, 9] ty args = appD ty args := rfl
theorem appD_own (w : World) (base : Nat) (v : Value) (L D : List Nat) (ty : TypeId) (ho : OwnR w base v L) (hD : Sha.Bytes D) (hmax : L.length + D.length ≤ 1000000) (hbase : base ≤ w.heap.size) :
    ∃ v' w', (appD ty #[v, .string (strOf D)]).run Tryz.prog w = .ok v' w' ∧ OwnR w' base v' (L ++ D) ∧ Below base w w' := by
  obtain ⟨i, hi, hz, hsz, hby⟩ := info5_at
  have hs : (strOf D).size = D.length := strOf_size D
  obtain ⟨v', w', hr, hown, hg, -⟩ := Lib.run_append_own_string (P := Tryz.prog) w base 22 9 ty 5 i Tryz.underlying22 Tryz.underlying9 hi hz hsz hby v L.length (L.map B8) ho (strOf D) (by rw [hs]; simp only [maxLen]; omega) (by rw [hs]; omega) hbase
  refine ⟨v', w', hr, ?_, (Below.refl base w).grown hg hbase (fun k hk => (World.ownsRow.lt ho k hk).1)⟩
  have e : Lib.strCells (strOf D) = D.map B8 := by
    have h1 := bytesOf_strOf D hD
    generalize strOf D = s at *
    subst h1
    simp [Lib.strCells, B8, bytesOf, Function.comp_def]
  unfold OwnR
  rw [List.length_append, List.map_append, ← hs, ← e]; exact hown
/-- The state of the document's loop over the places. -/
structure MrI (W wr : World) (bo bl : Nat) (vo vl : Value) (L0 PS : List Nat) (i : Nat) : Prop where
  below : Below bo W wr
  out : OwnR wr bo vo (L0 ++ texts (PS.take i))
  pls : OwnI wr bl vl PS
  size : bo ≤ wr.heap.size
theorem ownI_keep2 {w w' : World} {base : Nat} {v : Value} {L : List Nat} (h : OwnI w base v L) (hk : ∀ k, v.ownBlock = some k → w'.heap[k]? = w.heap[k]?) : OwnI w' base v L := by
  refine ⟨h.1, ?_⟩
  rcases h.2 with h2 | ⟨g, cap, cur, e, hb, hh, r⟩
  · exact .inl h2
  · exact .inr ⟨g, cap, cur, e, hb, by rw [hk g (by rw [e]; rfl)]; exact hh, r⟩
theorem zs_at (w : World) : BytesAt (w.alloc (.cells (E8 (zs 32)) 5)) (.slice (some ⟨w.heap.size, 0, none⟩) 32 32) (zs 32) := zeros_at w
set_option maxRecDepth 20000 in
set_option maxHeartbeats 1000000 in
theorem moduloRef_any (p : List Nat) (a : Option Addr) (n c : Nat) (B : List Nat) (w : World) (hp : Sha.Bytes p) (hpm : p.length ≤ 1000000) (hb : BytesAt w (.slice a n c) B) (hB : Sha.Bytes B) (hn : B.length = n) (hmax : n ≤ 4000) :
    Calls Tryz.prog 6 #[.slice a n c, .string (strOf p)] w (ModIs w p B) := by
  have HS := hide (splitRef_any p (w.alloc (.cells Dg.Z25 25)) hp (by omega))
  have HD := hide (And.intro hb (And.intro hB hn))
  have HP := hide hp
  clear hb hB hn hp
  go_enter Tryz.func6, Tryz.ntmps6
  go_wp2_with fail
  refine (unhide HS).mono ?_
  rintro e w1 ⟨hb1, ⟨h1, he⟩ | ⟨h1, he⟩⟩
  · simp only [splitV, if_true] at he
    subst he
    have hz1 : w.heap.size < w1.heap.size := by have := hb1.size; simp at this; omega
    have hbr1 : w1.heap[w.heap.size]? = some (.cells Dg.Z25 25) := by rw [hb1.block _ (by simp)]; exact World.alloc_heap_new w _
    have hwb1 : Below w.heap.size w w1 := ((Below.refl _ _).alloc (Nat.le_refl _) _).trans (hb1.mono (by simp))
    have hFl : (p.take 32).length = 32 := (path_digits h1).1
    have hFb : Sha.Bytes (p.take 32) := fun y hy => unhide HP y (List.mem_of_mem_take hy)
    obtain ⟨hb, hB, hn⟩ := unhide HD
    have HPl := hide (placesRef_any a n c B (p.take 32) w1 (hb.below hwb1) hB hn hFb hFl (by omega))
    have H1 := hide h1
    have HA := hide (And.intro hbr1 hwb1)
    generalize p.drop 33 = N1 at *
    generalize hF : p.take 32 = F at *
    have HF := hide hF
    have HFF := hide (And.intro hFl hFb)
    clear hF h1 hbr1 hwb1 hb1 hFl hFb hb hB hn HS
    go_wp2_with fail
    refine (unhide HPl).mono ?_
    rintro e w2 ⟨vl, rfl, hol, hb2⟩
    obtain ⟨hb, hB, hn⟩ := unhide HD
    obtain ⟨hbr1, hwb1⟩ := unhide HA
    obtain ⟨hFl, hFb⟩ := unhide HFF
    have hwb2 : Below w.heap.size w w2 := hwb1.trans (hb2.mono (by omega))
    have hz2 := hb2.size
    have hba : Below w2.heap.size w2 (w2.alloc (.cells (E8 (zs 32)) 5)) := (Below.refl _ _).alloc (Nat.le_refl _) _
    have hcv := conv_at _ _ _ (zs_at w2)
    have HR := hide (replaceRef_any a n c B F (zs 32) (w2.alloc (.cells (E8 (zs 32)) 5)) ((hb.below hwb2).below (hba.mono (Nat.le_refl _))) hB hn hFb hFl zs_bytes rfl (by omega))
    obtain ⟨al, cl, rfl⟩ := hol.form
    have HL := hide (And.intro hol hb2)
    have HPS : Hid (∀ x ∈ plcs B F 0, x ≤ 4000) := fun x hx => by have := (plcs_in (by omega) hx).2; omega
    have hlen : (plcs B F 0).length ≤ 4000 := by have := plcs_len (B := B) (D := F) (by omega) (B.length + 1) 0 (by omega); omega
    have hLL : (layAll (zs 32) B (plcs B F 0)).length ≤ 4000 := by rw [layAll_length _ _ (fun q hq => by have := (plcs_in (B := B) (D := F) (i := 0) (by omega) hq).2; rw [hFl] at this; exact this)]; omega
    have hLb := layAll_bytes (zs_bytes (k := 32)) (plcs B F 0) B hB
    have HLB := hide (And.intro hLL hLb)
    simp only [World.size_alloc] at HR
    clear hb hB hn hbr1 hwb1 hFl hFb hwb2 hba hol hb2 hLL hLb
    go_wp2_with fail
    refine (unhide HR).mono ?_
    rintro e w3 ⟨vo, rfl, hoo, hb3⟩
    obtain ⟨hol, hb2⟩ := unhide HL
    obtain ⟨hbr1, hwb1⟩ := unhide HA
    have hz3 := hb3.size
    simp at hz3
    have hb3' : Below w2.heap.size w2 w3 := ((Below.refl _ _).alloc (Nat.le_refl _) _).trans (hb3.mono (by simp))
    have hol3 := ownI_keep hol fun k _ hk => hb3'.block k hk
    have hbr3 : w3.heap[w.heap.size]? = some (.cells Dg.Z25 25) := by rw [hb3'.block _ (by omega), hb2.block _ hz1]; exact hbr1
    have hwb3 : Below w.heap.size w w3 := (hwb1.trans (hb2.mono (by omega))).trans (hb3'.mono (by omega))
    have HA3 := hide (And.intro hbr3 hwb3)
    have HI0 : Hid (MrI w3 w3 (w2.heap.size + 1) w1.heap.size vo (.slice al (plcs B F 0).length cl) (layAll (zs 32) B (plcs B F 0)) (plcs B F 0) 0) := ⟨Below.refl _ _, by rw [show texts ((plcs B F 0).take 0) = [] from rfl, List.append_nil]; exact hoo, hol3, hz3⟩
    have hav : ∀ k, (Value.slice al (plcs B F 0).length cl).ownBlock = some k → k < w2.heap.size := fun k hk => (World.ownsRow.lt hol k hk).2
    obtain ⟨LS, hLS⟩ : ∃ LS, layAll (zs 32) B (plcs B F 0) = LS := ⟨_, rfl⟩
    have HLS := hide hLS
    obtain ⟨PS, hPS⟩ : ∃ PS, plcs B F 0 = PS := ⟨_, rfl⟩
    have HPSE := hide hPS
    rw [hLS, hPS] at HI0
    rw [hLS] at HLB
    rw [hPS] at HPS hlen
    rw [hPS]
    obtain ⟨np, hnp⟩ : ∃ np, PS.length = np := ⟨_, rfl⟩
    have HNP := hide hnp
    rw [hPS, hnp] at hav
    have HAV := hide hav
    rw [hnp] at HI0 hlen ⊢
    clear hol hb2 hbr1 hwb1 hb3 hb3' hol3 hbr3 hwb3 hoo hLS hPS hnp HR HL HA HPl hcv hav
    go_wp2_with fail
    go_loopw [10, 12] (fun vo vi wr => ∃ i : Nat, i ≤ np ∧ vi = .int .i64 (i : Int) ∧ Hid (MrI w3 wr (w2.heap.size + 1) w1.heap.size vo (.slice al np cl) LS PS i)) (fun _ vi _ => np - (intOf vi).toNat)
    case atStart => exact ⟨0, by omega, rfl, HI0⟩
    case round =>
      obtain ⟨i, hin, rfl, HI⟩ := hrel
      have hI := unhide HI
      have hll : (LS ++ texts (PS.take i)).length ≤ 4000 + 8 * 4000 := by
        have h1 := texts_len (m := 4000) (by omega) (PS.take i) fun y hy => unhide HPS y (List.mem_of_mem_take hy)
        rw [List.length_append]
        have h2 := (unhide HLB).1
        have h3 := unhide HNP
        rw [List.length_take] at h1
        omega
      have hlb : Sha.Bytes (LS ++ texts (PS.take i)) := fun y hy => (List.mem_append.1 hy).elim ((unhide HLB).2 y) (texts_bytes _ y)
      by_cases hlt : i < np
      · obtain ⟨gl, rfl, hgl1, hgl2, hcl⟩ := hI.pls.at (unhide HNP) i hlt
        have hx4 : PS.getD i 0 ≤ 4000 := unhide HPS _ (by rw [List.getD_eq_getElem?_getD, List.getElem?_eq_getElem (by rw [unhide HNP]; exact hlt)]; exact List.getElem_mem _)
        have HT1 : Hid (PS.take (i + 1) = PS.take i ++ [PS.getD i 0]) := by
          have hi' : i < PS.length := by rw [unhide HNP]; exact hlt
          show PS.take (i + 1) = _
          rw [List.take_add_one, List.getElem?_eq_getElem hi', List.getD_eq_getElem?_getD, List.getElem?_eq_getElem hi']; rfl
        unfold I64 at hcl
        generalize PS.getD i 0 = x at *
        have hbo := hI.size
        have hglt : gl < w2.heap.size := unhide HAV gl rfl
        have hbx : Below wr.heap.size wr (wr.alloc (.cells #[.int .u8 ((124 : Nat) : Int)] 5)) := (Below.refl _ _).alloc (Nat.le_refl _) _
        have ho1 := ownR_keep hI.out fun k _ hk => hbx.block k hk
        obtain ⟨v2, W2, hr2, ho2, hb2, _⟩ := appR (wr.alloc (.cells #[.int .u8 ((124 : Nat) : Int)] 5)) (w2.heap.size + 1) u10 _ (some ⟨wr.heap.size, 0, none⟩) 1 1 [124] 22 rfl ho1 (one_at wr 124) (by omega) (by simp; omega)
        have hz2' := hb2.size
        simp at hz2'
        have hdb : Below (w2.heap.size + 1) wr W2 := (hbx.mono hbo).trans hb2
        have hcl2 : W2.cell? ⟨gl, i, none⟩ = some (.int .i64 (x : Int)) := by
          rw [hdb.cell (p := ⟨gl, i, none⟩) (by show gl < _; omega)]; exact hcl
        have HDec := hide (decRef_any x (by omega) W2)
        have HX : Hid (∀ V, Below W2.heap.size W2 V → ∃ v3 V3, (appD 22 #[v2, .string (strOf (decL x))]).run Tryz.prog V = .ok v3 V3 ∧ MrI w3 V3 (w2.heap.size + 1) w1.heap.size v3 (.slice (some ⟨gl, 0, none⟩) np cl) LS PS (i + 1)) := fun V hV => by
          have ho3 := ownR_keep ho2 fun k _ hk => hV.block k hk
          have hzV := hV.size
          obtain ⟨v3, V3, hr3, ho4, hb4⟩ := appD_own V (w2.heap.size + 1) v2 _ (decL x) 22 ho3 (decL_bytes x) (by rw [List.length_append]; have := decL_len x (by omega); simp at hll ⊢; omega) (by omega)
          refine ⟨v3, V3, hr3, ?_, ?_, ?_, ?_⟩
          · exact (hI.below.trans hdb).trans ((hV.mono (by omega)).trans hb4)
          · rw [unhide HT1, texts_snoc]
            rw [List.append_assoc, List.append_assoc] at ho4
            exact ho4
          · refine ownI_keep2 hI.pls (fun k hk => ?_)
            have h1 : k < w2.heap.size := unhide HAV k hk
            rw [hb4.block k (by omega), hV.block k (by omega), hdb.block k (by omega)]
          · have := hb4.size; omega
        have hr2' : (Dg.app22 22 #[u10, .slice (some ⟨wr.heap.size, 0, none⟩) 1 1]).run Tryz.prog (wr.alloc (.cells #[.int .u8 124] 5)) = .ok v2 W2 := hr2
        have hr2'' : (app52 22 #[u10, .slice (some ⟨wr.heap.size, 0, none⟩) 1 1]).run Tryz.prog (wr.alloc (.cells #[.int .u8 124] 5)) = .ok v2 W2 := hr2
        clear hbx ho1 ho2 hb2 hdb hI hll hlb hr2
        go_wp2_with fail
        refine (unhide HDec).mono ?_
        rintro e V ⟨rfl, hV⟩
        obtain ⟨v3, V3, hr3, hE⟩ := unhide HX V hV
        have HE := hide hE
        clear hE hV HX HDec
        go_wp2_with fail
        exact ⟨⟨i + 1, by omega, rfl, HE⟩, by simp [intOf]; omega⟩
      · obtain rfl : i = np := by omega
        obtain ⟨av, cv, rfl, hat⟩ := hI.out.at
        have HSm := hide (Dg.refSum_any av _ cv _ wr rfl hat hlb (by omega))
        have hbo := hI.size
        have hbw : Below w.heap.size w wr := (unhide HA3).2.trans (hI.below.mono (by omega))
        have hbrw : wr.heap[w.heap.size]? = some (.cells Dg.Z25 25) := by rw [hI.below.block _ (by omega)]; exact (unhide HA3).1
        have HW := hide (And.intro hbw hbrw)
        obtain ⟨m, hm⟩ : ∃ m, (LS ++ texts (PS.take i)).length = m := ⟨_, rfl⟩
        rw [hm] at HSm ⊢
        have hSl : (Dg.Sha.sum (LS ++ texts (PS.take i))).length = 32 := Dg.Sha.sumBehind_length _ 0 _
        have HSE : Hid (Dg.Sha.sum (LS ++ texts (PS.take i)) = modS p B) := by
          show _ = _
          unfold modS
          rw [unhide HF, ← unhide HLS, unhide HPSE, List.take_of_length_le (by have := unhide HNP; omega)]
        generalize Dg.Sha.sum (LS ++ texts (PS.take i)) = S at *
        clear hI hat hbw hbrw hlb hll hm
        go_wp2_with fail
        refine (unhide HSm).mono ?_
        rintro e w5 ⟨rfl, hb5⟩
        obtain ⟨hbw, hbrw⟩ := unhide HW
        have hlw : w.heap.size < wr.heap.size := by omega
        have hbr5 : w5.heap[w.heap.size]? = some (.cells Dg.Z25 25) := by rw [hb5.block _ hlw]; exact hbrw
        have hfit : Dg.fits w5 w.heap.size 32 = true := by simp [Dg.fits, hbr5]
        have HZ : Hid (ModIs w p B (.returned (.tuple #[.agg (Dg.E8 S), .int .i64 0])) (w5.setRow w.heap.size (Dg.E8 S))) := ⟨Dg.below_setRow (hbw.trans (hb5.mono (by omega))) (Nat.le_refl _) _, .inl ⟨unhide H1, by rw [unhide HSE]⟩⟩
        have hsE : (Dg.E8 S).size = 32 := by simp [hSl]
        clear hbw hbrw hb5 hbr5 HSm
        go_wp2_with fail
        exact bodyPost_ret (res25_two Tryz.results6 rfl (Dg.rowOf_setRow_at _ _ 32 _ hfit) hsE rfl) rfl (unhide HZ)
  · simp only [splitV, if_false, Bool.false_eq_true] at he
    subst he
    have hz1 : w.heap.size < w1.heap.size := by have := hb1.size; simp at this; omega
    have hbr1 : w1.heap[w.heap.size]? = some (.cells Dg.Z25 25) := by rw [hb1.block _ (by simp)]; exact World.alloc_heap_new w _
    have hwb1 : Below w.heap.size w w1 := ((Below.refl _ _).alloc (Nat.le_refl _) _).trans (hb1.mono (by simp))
    have hfit : Dg.fits w1 w.heap.size 32 = true := by simp [Dg.fits, hbr1]
    have hon : Dg.ones Dg.Z25 = true := by simp [Dg.Z25]
    have HZ : Hid (ModIs w p B (.returned (.tuple #[.agg Dg.Z25, .int .i64 3])) (w1.setRow w.heap.size Dg.Z25)) := ⟨Dg.below_setRow hwb1 (Nat.le_refl _) _, .inr ⟨h1, rfl⟩⟩
    clear hwb1 hbr1 hb1 h1 HS
    go_wp2_with fail
    exact bodyPost_ret (res25_two Tryz.results6 rfl (Dg.rowOf_setRow_at _ _ 32 _ hfit) (by simp) rfl) rfl (unhide HZ)
end Go.Proofs.YtlbfcneboaihnaaGreatDoor
