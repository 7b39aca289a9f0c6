/- The code's padKey, keyState and Mac. -/
import Derived.Test.YtdkhmjiconedkaaSum
namespace Go.Proofs.Ytdkhmjiconedkaa
open Go.RowKit Go.Great

def x8 (a b : Nat) : Nat := (bits .xor .u8 (a : Int) (b : Int)).toNat
theorem x8_eq {a b : Nat} (ha : a < 256) (hb : b < 256) : x8 a b = a ^^^ b := by unfold x8; rw [u8_xor_nat a b ha hb]; rfl
theorem bits_pos8 (op : BinOp) (a b : Int) : 0 ≤ bits op .u8 a b := by
  have h := (bits_within op .u8 a b).1
  have e : IntKind.u8.min = 0 := by decide
  rw [e] at h; exact h
@[go_sem] theorem f_xor8 (a b : Nat) : bits .xor .u8 (a : Int) (b : Int) = ((x8 a b : Nat) : Int) := by unfold x8; have := bits_pos8 .xor (a : Int) (b : Int); omega

set_option maxRecDepth 20000 in
set_option maxHeartbeats 1000000 in
theorem keyState_any (l : List Nat) (m : Nat) (M : Int) (hM : M = (m : Int)) (w : World) (hl : l.length = 64) (hb : Sha.Bytes l) (hm : m < 256) :
    Calls Try.prog 33 #[.agg (E8 l), .int .u8 M] w fun e w' => e = .returned (.agg (E32 (Sha.blocks Sha.start (Sha.turned l m) 1).list)) ∧ Below w.heap.size w w' := by
  subst hM
  obtain ⟨F, hF⟩ : ∃ F : Nat → List Nat, F = Sha.turnTo l m := ⟨_, rfl⟩
  have h0 : l = F 0 := by rw [hF]; rfl
  have hlen : ∀ i, (F i).length = 64 := fun i => by rw [hF, Sha.turnTo_length]; exact hl
  have HS : Hid (∀ i, i < 64 → (F i).set i (x8 (Sha.nth (F i) i) m) = F (i + 1)) := fun i hi => by
    rw [hF, Sha.turnTo_nth l m i (by omega) i, if_neg (by omega), x8_eq (hb.at i) hm]; rfl
  have HE : Hid (F 64 = Sha.turned l m) := by rw [hF, ← hl]; exact Sha.turnTo_all l m
  have hLb := Sha.turned_bytes hb hm
  have hLl := Sha.turned_length l m
  rw [hl] at hLl
  generalize Sha.turned l m = T at *
  rw [h0]
  clear h0 hF hb hl
  have hl0 := hlen 0
  have HL := hide hlen
  clear hlen
  go_enter Try.func33, Try.ntmps33
  go_wp2
  go_loopw [6] (fun c wr => ∃ i n : Nat, i ≤ 64 ∧ c = .int .i64 (i : Int) ∧ wr = ((w.alloc (.cells (E8 (F i)) 58)).alloc (.cells #[Value.int .u32 0, .int .u32 0, .int .u32 0, .int .u32 0, .int .u32 0, .int .u32 0, .int .u32 0, .int .u32 0] 50)).drewN n) (fun c _ => 64 - (intOf c).toNat)
  case atStart => exact ⟨0, 0, by omega, rfl, rfl⟩
  case round =>
    obtain ⟨i, n, hi, rfl, rfl⟩ := hrel
    have hpl := unhide HL i
    by_cases hlt : i < 64
    · go_wp2
      go_roundw
      case rel => exact ⟨i + 1, n, by omega, by go_num, by rw [← unhide HS i hlt]⟩
      case measure => simp [intOf]; omega
    · have hi' : i = 64 := by omega
      subst hi'
      go_wp2
      obtain ⟨W, hWe⟩ : ∃ W, ((w.alloc (Obj.cells (E8 (F 64)) 58)).alloc (Obj.cells #[Value.int IntKind.u32 0, Value.int IntKind.u32 0, Value.int IntKind.u32 0, Value.int IntKind.u32 0, Value.int IntKind.u32 0, Value.int IntKind.u32 0, Value.int IntKind.u32 0, Value.int IntKind.u32 0] 50)).drewN n = W := ⟨_, rfl⟩
      have hrW : rowOf W w.heap.size = E8 (F 64) := by rw [← hWe]; simp [go_sem]
      have hfW : fits W (w.heap.size + 1) 8 = true := by rw [← hWe]; simp [go_sem]
      have hbW : Below w.heap.size w W := by rw [← hWe]; exact below_drews (((Below.refl _ _).alloc (Nat.le_refl _) _).alloc (by simp) _) _
      have hzW : W.heap.size = w.heap.size + 2 := by rw [← hWe]; simp
      rw [hWe]
      have HrW := hide hrW
      have HzW := hide hzW
      have HX : Hid (T.length = 64 * 1) := hLl
      have hX8 := list_eight (Sha.blocks Sha.start T 1)
      clear hWe hrW hzW hlt hi HS HL
      go_region_with (first
        | (go_at_call 28
           refine (firstState_any _).mono ?_
           rintro e w1 ⟨rfl, hb1⟩
           have hz1 : w.heap.size + 2 ≤ w1.heap.size := by have := hb1.size; have h2 := unhide HzW; simp at this; omega
           have hr1 : rowOf w1 w.heap.size = E8 (F 64) := by rw [below_rowOf hb1 (by have h2 := unhide HzW; simp; omega)]; exact unhide HrW
           have hf1 : fits w1 (w.heap.size + 1) 8 = true := by rw [below_fits hb1 (by have h2 := unhide HzW; simp; omega)]; exact hfW
           have hbl1 : Below w.heap.size w w1 := hbW.drew.trans (hb1.mono (by have h2 := unhide HzW; simp; omega))
           have Hr1 := hide hr1
           clear hb1 hr1)
        | (go_at_call 38
           refine (addBlocks_any Sha.start _ T 1 _ Sha.start_ok ?_ hLb (unhide HX) (by omega)).mono ?_
           · exact bytesAt_row _ _ (F 64) T _ _ (unhide Hr1) (by omega) (by omega) (by omega) (by rw [unhide HE, List.take_of_length_le (by omega)])
           rintro e w2 ⟨rfl, hb2⟩
           have hf2 : fits w2 (w.heap.size + 1) 8 = true := by rw [below_fits hb2 (by omega)]; exact hf1
           have hbl2 : Below w.heap.size w w2 := hbl1.trans (hb2.mono (by omega))
           clear hb2))
      all_goals
        go_wp2
        exact bodyPost_ret (res50 Try.results33 rfl (rowOf_setRow_at _ _ 8 _ hf2) (by simp)) rfl ⟨rfl, below_setRow hbl2 (by omega) _⟩

theorem fill_zs (n : Nat) (l : List Nat) : l ++ (zs n).drop l.length = Sha.fill n l := by
  unfold zs Sha.fill; rw [List.drop_replicate]
theorem Z58_zs : Z58 = E8 (zs 64) := rfl
theorem bytesAt_n {w : World} {g o n cap : Nat} {b : List Nat} (hn : b.length = n) (h : BytesAt w (.slice (some ⟨g, o, none⟩) n cap) b) : BytesAt w (.slice (some ⟨g, o, none⟩) b.length cap) b := by subst hn; exact h

set_option maxRecDepth 20000 in
set_option maxHeartbeats 1000000 in
theorem padKey_short (g o cap : Nat) (key : List Nat) (w : World) (hv : BytesAt w (.slice (some ⟨g, o, none⟩) key.length cap) key) (hs : key.length ≤ 64) :
    Calls Try.prog 32 #[.slice (some ⟨g, o, none⟩) key.length cap] w fun e w' => e = .returned (.agg (E8 (Sha.padKey key))) ∧ Below w.heap.size w w' := by
  have HE : Hid (Sha.padKey key = Sha.fill 64 key) := by
    show _ = _
    unfold Sha.padKey; rw [if_neg (by omega)]
  have hlen : (Sha.fill 64 key).length = 64 := Sha.fill_length 64 key hs
  have hbW : Below w.heap.size w ((w.alloc (.cells Z58 58)).alloc (.cells Z58 58)) := ((Below.refl _ _).alloc (Nat.le_refl _) _).alloc (by simp) _
  have hcopy : ∀ ty, (Builtin.copy_ #[22, 22] ty #[.slice (some ⟨w.heap.size + 1, 0, none⟩) 64 64, .slice (some ⟨g, o, none⟩) key.length cap]).run Try.prog ((w.alloc (.cells Z58 58)).alloc (.cells Z58 58))
      = .ok (.int .i64 (key.length : Int)) ((w.alloc (.cells Z58 58)).alloc (.cells (E8 (Sha.fill 64 key)) 58)) := fun ty => by
    have := copy_bytes ((w.alloc (.cells Z58 58)).alloc (.cells Z58 58)) ty (w.heap.size + 1) 64 cap (some ⟨g, o, none⟩) (zs 64) key (by simp [go_sem]) (by simp [go_sem]; rfl) (hv.below hbW) (by simp; omega)
    rw [zs_length, fill_zs] at this
    rw [this]
    simp [go_sem]
  have hd : decide ((64 : Int) < (key.length : Int)) = false := by simp; omega
  generalize Sha.fill 64 key = R at *
  clear hv hbW
  go_enter Try.func32, Try.ntmps32
  go_wp2
  refine bodyPost_ret (res58 Try.results32 rfl (c := E8 R) ?_ (by simp [hlen])) rfl ⟨by rw [unhide HE], ?_⟩
  · simp [go_sem]
  · exact ((Below.refl _ _).alloc (Nat.le_refl _) _).alloc (by simp) _

set_option maxRecDepth 20000 in
set_option maxHeartbeats 1000000 in
theorem padKey_long (g o cap : Nat) (key : List Nat) (w : World) (hv : BytesAt w (.slice (some ⟨g, o, none⟩) key.length cap) key) (hb : Sha.Bytes key) (hs : 64 < key.length) (hmax : key.length ≤ 274877906944) :
    Calls Try.prog 32 #[.slice (some ⟨g, o, none⟩) key.length cap] w fun e w' => e = .returned (.agg (E8 (Sha.padKey key))) ∧ Below w.heap.size w w' := by
  have HE : Hid (Sha.padKey key = Sha.fill 64 (Sha.sum key)) := by
    show _ = _
    unfold Sha.padKey; rw [if_pos (by omega)]
  have hsl : (Sha.sum key).length = 32 := Sha.sumBehind_length _ _ _
  have hlen : (Sha.fill 64 (Sha.sum key)).length = 64 := Sha.fill_length 64 _ (by omega)
  have hbW : Below w.heap.size w ((w.alloc (.cells Z58 58)).alloc (.cells Z58 58)) := ((Below.refl _ _).alloc (Nat.le_refl _) _).alloc (by simp) _
  have hd : decide ((64 : Int) < (key.length : Int)) = true := by simp; omega
  have HV := hide (hv.below hbW)
  clear hv
  go_enter Try.func32, Try.ntmps32
  go_wp2_with fail
  refine (sum_any g o key.length cap key _ rfl (unhide HV) hb hmax).mono ?_; rintro e w1 ⟨rfl, hb1⟩
  have hz1 : w.heap.size + 2 ≤ w1.heap.size := by have := hb1.size; simp at this; omega
  have hr1 : rowOf w1 (w.heap.size + 1) = E8 (zs 64) := by rw [below_rowOf hb1 (by simp)]; simp [go_sem]; rfl
  have hf1 : fits w1 (w.heap.size + 1) 64 = true := by rw [below_fits hb1 (by simp)]; simp [go_sem]
  have hf0 : fits w1 w.heap.size 64 = true := by rw [below_fits hb1 (by simp; omega)]; simp [go_sem]
  have hbl1 : Below w.heap.size w w1 := hbW.trans (hb1.mono (by simp; omega))
  generalize hS : Sha.sum key = S at *
  have hcopy : ∀ ty, (Builtin.copy_ #[22, 22] ty #[.slice (some ⟨w.heap.size + 1, 0, none⟩) 64 64, .slice (some ⟨w1.heap.size, 0, none⟩) 32 32]).run Try.prog (w1.alloc (.cells (E8 S) 25)).drew
      = .ok (.int .i64 32) ((w1.alloc (.cells (E8 S) 25)).drew.setRow (w.heap.size + 1) (E8 (Sha.fill 64 S))) := fun ty => by
    have := copy_bytes (w1.alloc (.cells (E8 S) 25)).drew ty (w.heap.size + 1) 64 32 (some ⟨w1.heap.size, 0, none⟩) (zs 64) S
      (by rw [zs_length, fits_drew, fits_alloc_past _ _ _ _ (by omega)]; exact hf1) (by rw [rowOf_drew, rowOf_alloc_past _ _ _ (by omega)]; exact hr1)
      (by rw [hsl]; exact bytesAt_row _ _ S S _ _ (by simp [go_sem]) (by simp) (by omega) (by omega) (List.take_of_length_le (by omega))) (by simp; omega)
    rw [zs_length, fill_zs, hsl] at this
    rw [this]; rfl
  have HS := hide hS
  generalize Sha.fill 64 S = R at *
  clear hS hb1 hbW HV hr1
  go_wp2
  go_region
  have hf1a : fits (w1.alloc (Obj.cells (E8 S) 25)) (w.heap.size + 1) 64 = true := by rw [fits_alloc_past _ _ _ _ (by omega)]; exact hf1
  have hr2 : rowOf ((w1.alloc (Obj.cells (E8 S) 25)).setRow (w.heap.size + 1) (E8 R)).drew (w.heap.size + 1) = E8 R := by rw [rowOf_drew]; exact rowOf_setRow_at _ _ 64 _ hf1a
  have hf2 : fits ((w1.alloc (Obj.cells (E8 S) 25)).setRow (w.heap.size + 1) (E8 R)).drew w.heap.size 64 = true := by
    rw [fits_drew, fits_of (setRow_other _ _ _ _ (by omega)), fits_alloc_past _ _ _ _ (by omega)]; exact hf0
  have hbl2 : Below w.heap.size w ((w1.alloc (Obj.cells (E8 S) 25)).setRow (w.heap.size + 1) (E8 R)).drew := (below_setRow (hbl1.alloc (by omega) _) (by omega) _).drew
  generalize ((w1.alloc (Obj.cells (E8 S) 25)).setRow (w.heap.size + 1) (E8 R)).drew = w2 at *
  clear hcopy hf1 hf0 hbl1 hf1a
  go_wp2
  exact bodyPost_ret (res58 Try.results32 rfl (rowOf_setRow_at _ _ 64 _ hf2) (by simp [hlen])) rfl ⟨by rw [unhide HE], below_setRow hbl2 (by omega) _⟩

theorem padKey_any (g o n cap : Nat) (key : List Nat) (w : World) (hn : key.length = n) (hv : BytesAt w (.slice (some ⟨g, o, none⟩) n cap) key) (hb : Sha.Bytes key) (hmax : n ≤ 274877906944) :
    Calls Try.prog 32 #[.slice (some ⟨g, o, none⟩) n cap] w fun e w' => e = .returned (.agg (E8 (Sha.padKey key))) ∧ Below w.heap.size w w' := by
  subst hn
  by_cases h : key.length ≤ 64
  · exact padKey_short g o cap key w hv h
  · exact padKey_long g o cap key w hv hb (by omega) hmax

set_option maxRecDepth 20000 in
set_option maxHeartbeats 1000000 in
theorem mac_any (g o n cap g2 o2 n2 cap2 : Nat) (key b : List Nat) (w : World) (hn : key.length = n) (hv : BytesAt w (.slice (some ⟨g, o, none⟩) n cap) key) (hb : Sha.Bytes key) (hmax : n ≤ 274877906944)
    (hn2 : b.length = n2) (hv2 : BytesAt w (.slice (some ⟨g2, o2, none⟩) n2 cap2) b) (hb2 : Sha.Bytes b) (hmax2 : n2 ≤ 274877906944) :
    Calls Try.prog 16 #[.slice (some ⟨g, o, none⟩) n cap, .slice (some ⟨g2, o2, none⟩) n2 cap2] w fun e w' => e = .returned (.agg (E8 (Sha.mac key b))) ∧ Below w.heap.size w w' := by
  have HV := hide hv
  have HV2 := hide hv2
  have HN := hide hn
  have HN2 := hide hn2
  have hpl := Sha.padKey_length key
  have hpb := Sha.padKey_bytes hb
  have hok1 := Sha.blocks_ok Sha.start_ok (Sha.turned (Sha.padKey key) 54) 1
  have hok2 := Sha.blocks_ok Sha.start_ok (Sha.turned (Sha.padKey key) 92) 1
  have HM : Hid (Sha.mac key b = Sha.sumBehind (Sha.blocks Sha.start (Sha.turned (Sha.padKey key) 92) 1) 64 (Sha.sumBehind (Sha.blocks Sha.start (Sha.turned (Sha.padKey key) 54) 1) 64 b)) := rfl
  have hW0 : Below w.heap.size w (w.alloc (.cells Z25 25)) := (Below.refl _ _).alloc (Nat.le_refl _) _
  clear hv hv2 hn hn2
  go_enter Try.func16, Try.ntmps16
  go_wp2_with fail
  refine (padKey_any g o n cap key _ (unhide HN) ((unhide HV).below hW0) hb hmax).mono ?_; rintro e w1 ⟨rfl, hb1⟩
  have hz1 : w.heap.size + 1 ≤ w1.heap.size := by have := hb1.size; simp at this; omega
  have hf1 : fits w1 w.heap.size 32 = true := by rw [below_fits hb1 (by simp)]; simp [go_sem]
  have hbl1 : Below w.heap.size w w1 := hW0.trans (hb1.mono (by simp))
  clear hb1 hW0
  generalize Sha.padKey key = P at *
  go_wp2_with fail
  refine (keyState_any P 54 _ rfl _ hpl hpb (by omega)).mono ?_; rintro e w2 ⟨rfl, hb2'⟩
  have hz2 : w1.heap.size + 1 ≤ w2.heap.size := by have := hb2'.size; simp at this; omega
  have hf2 : fits w2 w.heap.size 32 = true := by rw [below_fits hb2' (by simp; omega), fits_alloc_past _ _ _ _ (by omega)]; exact hf1
  have hr2 : rowOf w2 w1.heap.size = E8 P := by rw [below_rowOf hb2' (by simp)]; simp [go_sem]
  have hbl2 : Below w.heap.size w w2 := (hbl1.alloc (by omega) _).trans (hb2'.mono (by simp; omega))
  clear hb2' hf1 hbl1
  generalize Sha.blocks Sha.start (Sha.turned P 54) 1 = X1 at *
  generalize hpb' : w1.heap.size = pb at *
  go_wp2_with fail
  refine (sumBehind_i X1 g2 o2 n2 cap2 b _ 64 rfl _ hok1 (unhide HN2) ((unhide HV2).below hbl2) hb2 hmax2 (by omega)).mono ?_; rintro e w3 ⟨rfl, hb3⟩
  have hz3 : w2.heap.size ≤ w3.heap.size := hb3.size
  have hf3 : fits w3 w.heap.size 32 = true := by rw [below_fits hb3 (by omega)]; exact hf2
  have hr3 : rowOf w3 pb = E8 P := by rw [below_rowOf hb3 (by omega)]; exact hr2
  have hbl3 : Below w.heap.size w w3 := hbl2.trans (hb3.mono (by omega))
  have hIl := Sha.sumBehind_length X1 64 b
  have hIb := Sha.sumBehind_bytes X1 64 b
  clear hb3 hf2 hbl2 hr2 hok1
  generalize Sha.sumBehind X1 64 b = I at *
  have hol := Sha.sumBehind_length (Sha.blocks Sha.start (Sha.turned P 92) 1) 64 I
  generalize hX2 : Sha.blocks Sha.start (Sha.turned P 92) 1 = X2 at *
  have HX2 := hide hX2
  generalize hR : Sha.sumBehind X2 64 I = R at *
  have HR := hide hR
  clear hX2 hR hpb'
  go_wp2_with fail
  have hr3a : rowOf (w3.alloc (.cells (E8 I) 25)) pb = E8 P := by rw [rowOf_alloc_past _ _ _ (by omega)]; exact hr3
  go_region_with (first
    | (go_at_call 33
       refine (keyState_any P 92 _ rfl _ hpl hpb (by omega)).mono ?_
       rw [unhide HX2]
       rintro e w4 ⟨rfl, hb4⟩
       have hz4 : w3.heap.size + 1 ≤ w4.heap.size := by have := hb4.size; simp at this; omega
       have hf4 : fits w4 w.heap.size 32 = true := by rw [below_fits hb4 (by simp; omega), fits_drew, fits_alloc_past _ _ _ _ (by omega)]; exact hf3
       have hr4 : rowOf w4 w3.heap.size = E8 I := by rw [below_rowOf hb4 (by simp)]; simp [go_sem]
       have hbl4 : Below w.heap.size w w4 := (hbl3.alloc (by omega) _).drew.trans (hb4.mono (by simp; omega))
       have Hr4 := hide hr4
       clear hb4 hr4)
    | (go_at_call 27
       refine (sumBehind_i X2 w3.heap.size 0 32 32 I _ 64 rfl _ hok2 hIl ?_ hIb (by omega) (by omega)).mono ?_
       · exact bytesAt_row _ _ I I _ _ (unhide Hr4) (by omega) (by omega) (by omega) (List.take_of_length_le (by omega))
       rw [unhide HR]
       rintro e w5 ⟨rfl, hb5⟩
       have hf5 : fits w5 w.heap.size 32 = true := by rw [below_fits hb5 (by omega)]; exact hf4
       have hbl5 : Below w.heap.size w w5 := hbl4.trans (hb5.mono (by omega))
       clear hb5))
  all_goals
    go_wp2
    exact bodyPost_ret (results_at Try.results16 _ _ hf5 rfl hol) rfl ⟨by rw [unhide HM], below_setRow hbl5 (by omega) _⟩
end Go.Proofs.Ytdkhmjiconedkaa
