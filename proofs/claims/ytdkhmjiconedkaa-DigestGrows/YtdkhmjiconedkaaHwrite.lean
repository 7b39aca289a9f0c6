/- Write, while the Hasher is not told. -/
import Derived.Test.YtdkhmjiconedkaaHcopy
import Derived.Test.YtdkhmjiconedkaaHinv
namespace Go.Proofs.Ytdkhmjiconedkaa
open Go.RowKit Go.Great
theorem BytesAt.sole {w w' : World} {g n cap : Nat} {a : Option Addr} {m : List Nat} (h : BytesAt w (.slice a n cap) m) (hg : ∀ x, a = some x → x.block ≠ g) (hs : Sole g w w') : BytesAt w' (.slice a n cap) m := by
  obtain ⟨a', c, e, hc, hm⟩ := h
  cases e
  refine ⟨a, cap, rfl, hc, fun hp => ?_⟩
  obtain ⟨b, o, ea, hl, hcell⟩ := hm hp
  have hne : b ≠ g := hg ⟨b, o, none⟩ ea
  exact ⟨b, o, ea, Nat.lt_of_lt_of_le hl hs.size, fun i hi => by rw [World.cell?_of_block (w := w) (w' := w') (a := ⟨b, o + i, none⟩) (hs.block b hl hne)]; exact hcell i hi⟩
theorem laid_less {rest b : List Nat} {o : Nat} (h : o + b.length ≤ rest.length) : (laid rest b o b.length).take (o + b.length) = rest.take o ++ b := by
  unfold laid
  rw [List.take_left' (by simp; omega), List.take_length]
set_option maxRecDepth 20000 in
set_option maxHeartbeats 1000000 in
theorem write_less (g : Nat) (st rest sum ST : List Nat) (N n cap : Nat) (a : Option Addr) (b : List Nat) (w : World) (h : HasH w g st rest (N : Int) dz false sum) (hST : (if N = 0 then Sha.start.list else st) = ST) (hn : b.length = n) (hv : BytesAt w (.slice a n cap) b) (hg : ∀ x, a = some x → x.block ≠ g) (hN : N + n ≤ 100000) (o : Nat) (ho : o = N % 64) (hl : o + n < 64) :
    Calls Try.prog 23 #[.pointer (some ⟨g, 0, none⟩), .slice a n cap] w fun e w' => e = .returned (.bool true) ∧ HasH w' g ST (laid rest b o n) ((N : Int) + (n : Int)) dz false sum ∧ Sole g w w' := by
  have ht := h.told
  have HOO := hide ho
  have hsa := start_any g st rest sum N dz false w h
  rw [hST] at hsa
  have HSA := hide hsa
  clear ho hsa hST
  go_enter Try.func23, Try.ntmps23
  go_wp2_with fail
  refine (unhide HSA).mono ?_
  rintro e w1 ⟨rfl, h1, hs1⟩
  go_wp2_with fail
  have hhe := held_any g N w1 (by omega) h1.size
  rw [← unhide HOO] at hhe
  refine hhe.mono ?_
  clear hhe
  rintro e w' ⟨rfl, hw'⟩; rw [hw']; clear hw' w'
  go_wp2_with fail
  refine (add_any g 72 N n ((N : Int) + (n : Int)) _ h1.size (h1.free 72) rfl (by omega) (by omega)).mono ?_
  rintro e w' ⟨rfl, hw'⟩; rw [hw']; clear hw' w'
  obtain ⟨h2, hs2⟩ := h1.setSize ((N : Int) + (n : Int))
  have hs12 := hs1.trans hs2
  generalize w1.setCell ⟨g, 72, none⟩ (.int .i64 ((N : Int) + (n : Int))) = w2 at *
  clear h1 hs1 hs2
  obtain ⟨w3, hr3, h3, hs3⟩ := h2.copy 3 o (64 - o) n cap a b hn (hv.sole hg hs12) (by omega) n (by have : Nat.min n (64 - o) = n := Nat.min_eq_left (by omega); exact this.symm)
  have ho1 : (o : Int) ≤ 64 := by omega
  have ho2 : ¬ (64 = o) := by omega
  have H3 := hide h3
  have hs13 := hs12.trans hs3
  clear h3 hs12 hs3 h2
  go_wp2
  go_ret
  exact ⟨rfl, unhide H3, hs13⟩
set_option maxRecDepth 20000 in
set_option maxHeartbeats 1000000 in
theorem write_more (g : Nat) (rest sum : List Nat) (st : List Nat) (ST : Sha.St) (N n cap : Nat) (a : Option Addr) (b : List Nat) (w : World) (h : HasH w g st rest (N : Int) dz false sum) (hST : (if N = 0 then Sha.start.list else st) = ST.list) (hok : ST.ok) (hn : b.length = n) (hbb : Sha.Bytes b) (hrb : Sha.Bytes (rest.take (N % 64))) (hv : BytesAt w (.slice a n cap) b) (hg : ∀ x, a = some x → x.block ≠ g) (hN : N + n ≤ 100000) (o m wh : Nat) (ho : o = N % 64) (hm : o + m = 64) (hmn : m ≤ n) (hwh : wh = (n - m) - (n - m) % 64) :
    Calls Try.prog 23 #[.pointer (some ⟨g, 0, none⟩), .slice a n cap] w fun e w' => e = .returned (.bool true) ∧ HasH w' g (Sha.blocks (Sha.blocks ST (laid rest b o m) 1) ((b.drop m).take wh) (wh / 64)).list (laid (laid rest b o m) ((b.drop m).drop wh) 0 ((n - m) % 64)) ((N : Int) + (n : Int)) dz false sum ∧ Sole g w w' := by
  have ht := h.told
  obtain ⟨q, p, rfl⟩ : ∃ q p, a = some ⟨q, p, none⟩ := by
    obtain ⟨a', c', e, hc, hx⟩ := hv
    obtain ⟨q, p, ea, _, _⟩ := hx (by omega)
    cases e
    exact ⟨q, p, ea⟩
  have hnc : n ≤ cap := by obtain ⟨a', c', e, hc, hx⟩ := hv; cases e; omega
  obtain ⟨p', hA⟩ : ∃ p', (if cap = m then some (⟨q, p, none⟩ : Addr) else some ⟨q, p + m, none⟩) = some ⟨q, p', none⟩ := by
    by_cases hc : cap = m
    · exact ⟨p, if_pos hc⟩
    · exact ⟨p + m, if_neg hc⟩
  obtain ⟨p2, hA2⟩ : ∃ p2, (if cap - m = wh then some (⟨q, p', none⟩ : Addr) else some ⟨q, p' + wh, none⟩) = some ⟨q, p2, none⟩ := by
    by_cases hc : cap - m = wh
    · exact ⟨p', if_pos hc⟩
    · exact ⟨p' + wh, if_neg hc⟩
  have HOO := hide ho
  have hsa := start_any g st rest sum N dz false w h
  rw [hST] at hsa
  have HSA := hide hsa
  clear ho hsa hST
  go_enter Try.func23, Try.ntmps23
  go_wp2_with fail
  refine (unhide HSA).mono ?_
  rintro e w1 ⟨rfl, h1, hs1⟩
  go_wp2_with fail
  have hhe := held_any g N w1 (by omega) h1.size
  rw [← unhide HOO] at hhe
  refine hhe.mono ?_
  clear hhe
  rintro e w' ⟨rfl, hw'⟩; rw [hw']; clear hw' w'
  go_wp2_with fail
  refine (add_any g 72 N n ((N : Int) + (n : Int)) _ h1.size (h1.free 72) rfl (by omega) (by omega)).mono ?_
  rintro e w' ⟨rfl, hw'⟩; rw [hw']; clear hw' w'
  obtain ⟨h2, hs2⟩ := h1.setSize ((N : Int) + (n : Int))
  have hs12 := hs1.trans hs2
  generalize w1.setCell ⟨g, 72, none⟩ (.int .i64 ((N : Int) + (n : Int))) = w2 at *
  clear h1 hs1 hs2
  obtain ⟨w3, hr3, h3, hs3⟩ := h2.copy 3 o (64 - o) n cap (some ⟨q, p, none⟩) b hn (hv.sole hg hs12) (by omega) m (by have : Nat.min n (64 - o) = 64 - o := Nat.min_eq_right (by omega); rw [this]; omega)
  have ho1 : (o : Int) ≤ 64 := by omega
  have ho2 : ¬ (64 = o) := by have := unhide HOO; omega
  have hs13 := hs12.trans hs3
  have HB3 := hide (hv.sole hg hs13)
  clear hs12 hs3 h2
  go_wp2_with fail
  clear hr3
  have hrl : (laid rest b o m).length = 64 := h3.2.2.1
  have hrbt : Sha.Bytes (laid rest b o m) := by
    have e : laid rest b o m = rest.take (N % 64) ++ b.take m := by
      have h64 : rest.length = 64 := by have := laid_length (rest := rest) (b := b) (o := o) (m := m); by_cases hc : rest.length = 64; exact hc; exact h.2.2.1
      unfold laid; rw [List.drop_of_length_le (by omega), List.append_nil, unhide HOO]
    rw [e]; exact hrb.append (hbb.take m)
  have hld0 := h3.ld50
  have hld1 : (ld50 (.pointer (some ⟨g, 0, none⟩))).run Try.prog w3.drew = .ok (.agg (E32 ST.list)) w3.drew := (h3.drewN 1).ld50
  have hrt := h3.rest 64 64 (Nat.le_refl _) (Nat.le_refl _)
  rw [List.take_of_length_le (by omega)] at hrt
  have HAB : Hid (∀ k, Calls Try.prog 38 #[.agg (E32 ST.list), .slice (some ⟨g, 8, none⟩) 64 64] (w3.drewN k) fun e w' => e = .returned (.agg (E32 (Sha.blocks ST (laid rest b o m) 1).list)) ∧ HasH w' g ST.list (laid rest b o m) ((N : Int) + (n : Int)) dz false sum ∧ Sole g w3 w') := fun k => by
    refine (addBlocks_any ST _ (laid rest b o m) 1 (w3.drewN k) hok hrt hrbt (by omega) (by omega)).mono fun e w' hh => ⟨hh.1, (h3.drewN k).below hh.2, ?_⟩
    exact (show Sole g w3 (w3.drewN k) from ⟨rfl, rfl, rfl, Nat.le_refl _, fun _ _ _ => rfl⟩).trans (Sole.of_below hh.2)
  have hX8 := list_eight (Sha.blocks ST (laid rest b o m) 1)
  generalize hB1 : Sha.blocks ST (laid rest b o m) 1 = B1 at *
  have HB1 := hide hB1
  clear hB1 hrt
  go_region_with (go_at_call 38
                  refine Calls.mono (by first | exact unhide HAB 0 | exact unhide HAB 1) ?_
                  rintro e w4 ⟨rfl, h4, hs4⟩
                  have hst4 := h4.st50 B1.list hX8)
  have h5 := h4.setSt B1.list hX8
  have hs15 := hs13.trans (hs4.trans (Sole.setRow g w4 (hcells B1.list (laid rest b o m) ((N : Int) + (n : Int)) dz false sum)))
  generalize w4.setRow g (hcells B1.list (laid rest b o m) ((N : Int) + (n : Int)) dz false sum) = w5 at *
  have hs35 : Sole g w w5 := hs15
  clear h4 hs4 hst4 hs15 hld0 hld1 h3 hs13 HB3 HAB
  have hbs := hv.sole hg hs35
  have hsf := hbs
  rw [← hn] at hsf
  have hsf := hsf.suffix m (by omega)
  rw [hA, hn] at hsf
  have hdl : (b.drop m).length = n - m := by rw [List.length_drop, hn]
  have hdb := hbb.drop m
  have hmc : m ≤ cap := by omega
  have hwn : wh ≤ n - m := by omega
  have hwc : wh ≤ cap - m := by omega
  have HWH := hide hwh
  have hfs := hsf.firsts wh (by omega)
  have hsf2 := hsf
  rw [← hdl] at hsf2
  have hsf2 := hsf2.suffix wh (by omega)
  rw [hA2, hdl] at hsf2
  have hok1 : B1.ok := by rw [← unhide HB1]; exact Sha.blocks_ok hok _ _
  have HFS := hide hfs
  have HSF2 := hide hsf2
  clear hfs hsf hsf2 hbs hwh
  go_wp2_with fail
  have hwb := wholeBlocks_any (some ⟨q, p', none⟩) (n - m) (cap - m) w5 (by omega)
  rw [← unhide HWH] at hwb
  refine hwb.mono ?_
  clear hwb
  rintro e w' ⟨rfl, hw'⟩; rw [hw']; clear hw' w'
  have hld0 := h5.ld50
  have hld1 : (ld50 (.pointer (some ⟨g, 0, none⟩))).run Try.prog w5.drew = .ok (.agg (E32 B1.list)) w5.drew := (h5.drewN 1).ld50
  have HAB : Hid (∀ k, Calls Try.prog 38 #[.agg (E32 B1.list), .slice (some ⟨q, p', none⟩) wh (cap - m)] (w5.drewN k) fun e w' => e = .returned (.agg (E32 (Sha.blocks B1 ((b.drop m).take wh) (wh / 64)).list)) ∧ HasH w' g B1.list (laid rest b o m) ((N : Int) + (n : Int)) dz false sum ∧ Sole g w5 w') := fun k => by
    have hbk : BytesAt (w5.drewN k) (.slice (some ⟨q, p', none⟩) wh (cap - m)) ((b.drop m).take wh) := unhide HFS
    have hlk : ((b.drop m).take wh).length = wh := by rw [List.length_take, hdl]; omega
    refine (addBlocks_any B1 _ ((b.drop m).take wh) (wh / 64) (w5.drewN k) hok1 hbk (hdb.take wh) (by rw [hlk]; have := unhide HWH; omega) (by rw [hlk]; omega)).mono fun e w' hh => ⟨hh.1, (h5.drewN k).below hh.2, ?_⟩
    exact (show Sole g w5 (w5.drewN k) from ⟨rfl, rfl, rfl, Nat.le_refl _, fun _ _ _ => rfl⟩).trans (Sole.of_below hh.2)
  have hX9 := list_eight (Sha.blocks B1 ((b.drop m).take wh) (wh / 64))
  generalize hB2 : Sha.blocks B1 ((b.drop m).take wh) (wh / 64) = B2 at *
  have HB2 := hide hB2
  clear hB2
  go_wp2
  go_region_with (go_at_call 38
                  refine Calls.mono (by first | exact unhide HAB 0 | exact unhide HAB 1) ?_
                  rintro e w6 ⟨rfl, h6, hs6⟩
                  have hst6 := h6.st50 B2.list hX9)
  have h7 := h6.setSt B2.list hX9
  have hs67 := hs6.trans (Sole.setRow g w6 (hcells B2.list (laid rest b o m) ((N : Int) + (n : Int)) dz false sum))
  generalize w6.setRow g (hcells B2.list (laid rest b o m) ((N : Int) + (n : Int)) dz false sum) = w7 at *
  clear h6 hs6 hst6 hld0 hld1 HAB
  have hs07 : Sole g w w7 := hs35.trans hs67
  have hrw : n - m - wh = (n - m) % 64 := by have := unhide HWH; omega
  obtain ⟨r, hr⟩ : ∃ r, r = (n - m) % 64 := ⟨_, rfl⟩
  have hr64 : r < 64 := by omega
  have hv7 : BytesAt w7 (.slice (some ⟨q, p2, none⟩) (n - m - wh) (cap - m - wh)) ((b.drop m).drop wh) := (unhide HSF2).sole (fun x hx => by cases hx; exact hg ⟨q, p, none⟩ rfl) hs67
  have hs77 : Sole g w7 (w7.drewN 1) := ⟨rfl, rfl, rfl, Nat.le_refl _, fun _ _ _ => rfl⟩
  obtain ⟨w8, hr8, h8, hs8⟩ := (h7.drewN 1).copy 3 0 64 (n - m - wh) (cap - m - wh) (some ⟨q, p2, none⟩) ((b.drop m).drop wh) (by rw [List.length_drop, hdl]) (show BytesAt (w7.drewN 1) _ _ from hv7) (by omega) r (by
    have : Nat.min (n - m - wh) (64 - 0) = n - m - wh := Nat.min_eq_left (by omega)
    rw [this]; omega)
  have H8 := hide h8
  have hs08 := (hs07.trans hs77).trans hs8
  have HR := hide hr
  have hr8' : (Builtin.copy_ #[22, 22] 3 #[.slice (some ⟨g, 8, none⟩) 64 64, .slice (some ⟨q, p2, none⟩) (n - m - wh) (cap - m - wh)]).run Try.prog w7.drew = .ok (.int .i64 (r : Int)) w8 := hr8
  clear h8 h7 hs67 hs8 hv7 hs35 hs07 hr hr8 hs77 hrw
  go_wp2
  go_region
  all_goals
    go_wp2
    go_ret
    exact ⟨rfl, by rw [unhide HB1, unhide HB2, ← unhide HR]; exact unhide H8, hs08⟩
/-- A Hasher to which so many bytes were written, and that is not told. -/
def Kept (w : World) (g : Nat) (all sum : List Nat) : Prop :=
  ∃ st rest, HasH w g st rest (all.length : Int) dz false sum ∧ (0 < all.length → st = (Sha.stOf all).list) ∧ rest.take (all.length % 64) = all.drop (Sha.full all)
theorem start_of {all st : List Nat} (h : 0 < all.length → st = (Sha.stOf all).list) : (if all.length = 0 then Sha.start.list else st) = (Sha.stOf all).list := by
  by_cases h0 : all.length = 0
  · obtain rfl : all = [] := List.eq_nil_of_length_eq_zero h0
    rfl
  · rw [if_neg h0]; exact h (by omega)
theorem write_any (g : Nat) (all sum : List Nat) (n cap : Nat) (a : Option Addr) (b : List Nat) (w : World) (h : Kept w g all sum) (hab : Sha.Bytes all) (hn : b.length = n) (hbb : Sha.Bytes b) (hv : BytesAt w (.slice a n cap) b) (hg : ∀ x, a = some x → x.block ≠ g) (hN : all.length + n ≤ 100000) :
    Calls Try.prog 23 #[.pointer (some ⟨g, 0, none⟩), .slice a n cap] w fun e w' => e = .returned (.bool true) ∧ Kept w' g (all ++ b) sum ∧ Sole g w w' := by
  obtain ⟨st, rest, hh, hst, hr⟩ := h
  have h64 : rest.length = 64 := hh.2.2.1
  subst hn
  have hlen : (((all ++ b).length : Nat) : Int) = (all.length : Int) + (b.length : Int) := by rw [List.length_append]; omega
  by_cases hl : all.length % 64 + b.length < 64
  · refine (write_less g st rest sum _ all.length b.length cap a b w hh (start_of hst) rfl hv hg hN _ rfl hl).mono fun e w' ⟨he, hH, hs⟩ => ⟨he, ⟨_, _, by rw [hlen]; exact hH, fun _ => ?_, ?_⟩, hs⟩
    · exact congrArg Sha.St.list (Sha.inv_less hr hl (laid_less (by omega))).1.symm
    · exact (Sha.inv_less hr hl (laid_less (by omega))).2
  · have hm : all.length % 64 + (64 - all.length % 64) = 64 := by omega
    have hr1 : laid rest b (all.length % 64) (64 - all.length % 64) = rest.take (all.length % 64) ++ b.take (64 - all.length % 64) := by
      unfold laid; rw [List.drop_of_length_le (by omega), List.append_nil]
    have hr' : (laid (laid rest b (all.length % 64) (64 - all.length % 64)) ((b.drop (64 - all.length % 64)).drop ((b.length - (64 - all.length % 64)) - (b.length - (64 - all.length % 64)) % 64)) 0 ((b.length - (64 - all.length % 64)) % 64)).take ((b.length - (64 - all.length % 64)) % 64) = (b.drop (64 - all.length % 64)).drop ((b.length - (64 - all.length % 64)) - (b.length - (64 - all.length % 64)) % 64) := by
      have hl2 : ((b.drop (64 - all.length % 64)).drop ((b.length - (64 - all.length % 64)) - (b.length - (64 - all.length % 64)) % 64)).length = (b.length - (64 - all.length % 64)) % 64 := by
        rw [List.length_drop, List.length_drop]; omega
      generalize ((b.drop (64 - all.length % 64)).drop ((b.length - (64 - all.length % 64)) - (b.length - (64 - all.length % 64)) % 64)) = X at *
      unfold laid
      rw [List.take_zero, List.nil_append, ← hl2, List.take_length, List.take_left' rfl]
    have hinv := Sha.inv_more hr hm (by omega) hr1 rfl hr'
    refine (write_more g rest sum st (Sha.stOf all) all.length b.length cap a b w hh (start_of hst) (Sha.stOf_ok all) rfl hbb (by rw [hr]; exact hab.drop _) hv hg hN (all.length % 64) (64 - all.length % 64) _ rfl hm (by omega) rfl).mono fun e w' ⟨he, hH, hs⟩ => ⟨he, ⟨_, _, by rw [hlen]; exact hH, fun _ => ?_, ?_⟩, hs⟩
    · exact congrArg Sha.St.list hinv.1.symm
    · exact hinv.2
end Go.Proofs.Ytdkhmjiconedkaa
