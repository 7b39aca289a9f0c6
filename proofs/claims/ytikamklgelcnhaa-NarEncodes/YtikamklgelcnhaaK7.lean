import Derived.Test.YtikamklgelcnhaaK6
import Derived.Test.YtikamklgelcnhaaK5
import Derived.BigQuiet
import Derived.Laws.Bits64b
import Derived.Deep.RegionWith
/- The same for a sink in one block. -/
namespace Go.Proofs.Ytikamklgelcnhaa
open Go.RowKit
set_option linter.unusedSimpArgs false
/-- What writeNode does. -/
def NodeD (pc : Nat) (HK : World → Nat → List UInt8 → Prop) (c : Nat) (T : Tr) : Prop := ∀ (lo hi : Nat) (cs : List Value) (w : World) (v : Value) (xs : List UInt8), Lies lo hi w T cs → hi ≤ c → HasD HK c w v xs → xs.length + (nodeB T).length ≤ 10000000 → (nodeB T).length ≤ 960000 →
  Calls Try.prog 45 #[.agg cs.toArray, .func (Fn.func 33) #[] #[.pointer (some ⟨pc, 0, none⟩)]] w fun e w' => e = .returned (.tuple #[]) ∧ SkD HK c w v (xs ++ nodeB T) w'
set_option maxRecDepth 20000 in
set_option maxHeartbeats 4000000 in
theorem dwriteEntries_any {HK : World → Nat → List UInt8 → Prop} {pc : Nat} (hSK : SinkD pc HK) (c : Nat) (k : Int) (x : Bool) (d : ByteArray) (ns : List ByteArray) (ks : List Tr) (ih : ∀ t ∈ ks, NodeD pc HK c t) (lo hi : Nat) (cs : List Value) (w : World) (v : Value) (xs : List UInt8) (hL : Lies lo hi w (.mk k x d ns ks) cs) (hhi : hi ≤ c) (hS : HasD HK c w v xs) (hle : ns.length = ks.length) (hNm : ns.length ≤ 100000) (hmax : xs.length + (entsB ns ks).length ≤ 10000000) (hm2 : (entsB ns ks).length ≤ 960000) :
    Calls Try.prog 67 #[.agg cs.toArray, .func (Fn.func 33) #[] #[.pointer (some ⟨pc, 0, none⟩)]] w fun e w' => e = .returned (.tuple #[]) ∧ SkD HK c w v (xs ++ entsB ns ks) w' := by
  have hcl := hS.ctr.lt
  have hown : ∀ g, v.ownBlock = some g → c + 1 ≤ g ∧ g < w.heap.size := fun g hg => owns_lt hS.row g hg
  cases hL with
  | mk _ _ _ _ _ vd vn vk Ks hl hd hn hk hK =>
  obtain ⟨ad, cd, rfl, hcd⟩ := hd.slice
  obtain ⟨an, cn, rfl, hcn⟩ := hn.slice
  obtain ⟨ak, ck, rfl, hck⟩ := hk.slice
  obtain ⟨N, hN⟩ : ∃ N, ns.length = N := ⟨_, rfl⟩
  have hNk : ks.length = N := by omega
  rw [hN] at hn hcn hNm ⊢
  rw [hNk] at hk hck ⊢
  obtain ⟨W0, hW0⟩ : ∃ W0, W0 = w.alloc (.cells #[.int .i64 k, .bool x, .slice ad d.size cd, .slice an N cn, .slice ak N ck] 26) := ⟨_, rfl⟩
  have hb0 : Below w.heap.size w W0 := by rw [hW0]; exact (Below.refl _ _).alloc (Nat.le_refl _) _
  have hs0 : W0.heap.size = w.heap.size + 1 := by rw [hW0]; simp
  have hx0 : Bx W0 w.heap.size (.int .i64 k) (.bool x) (.slice ad d.size cd) (.slice an N cn) (.slice ak N ck) := by rw [hW0]; exact bx_new _ _ _ _ _ _
  have hA0 : Dt HK c W0 W0 v v xs := ⟨Gt.of_below v (Below.refl _ _), hS.kept' hSK hb0⟩
  have HW0 := hide hW0
  have HG0 : Hid (Gt c w W0 v v) := Gt.of_below v hb0
  have HA0 := hide (And.intro hA0 hx0)
  have HT := hide (And.intro (hn.below hb0 (by omega)) (And.intro (hk.below hb0 (by omega)) (And.intro hl (fun i t c h1 h2 => (hK i t c h1 h2).kept hb0 (by omega)))))
  have HM := hide (And.intro hmax (And.intro hm2 (And.intro hN hNk)))
  have HIH := hide ih
  have HO := hide hown
  clear hW0 hb0 hx0 hA0 hS hd hn hk hl hK hmax hm2 ih hown hN hNk hle
  go_enter Try.func67, Try.ntmps67
  go_wp2_with fail
  rw [← unhide HW0]
  go_loopw [9] (fun vi wr => ∃ (i : Nat) (v' : Value), i ≤ N ∧ vi = .int .i64 (i : Int) ∧ Hid (Dt HK c W0 wr v v' (xs ++ entsB (ns.take i) (ks.take i))) ∧ Bx wr w.heap.size (.int .i64 k) (.bool x) (.slice ad d.size cd) (.slice an N cn) (.slice ak N ck)) (fun vi _ => N - (intOf vi).toNat)
  case atStart => exact ⟨0, v, by omega, rfl, by show Dt HK _ _ _ _ _ _; rw [List.take_zero, entsB_nil, List.append_nil]; exact (unhide HA0).1, (unhide HA0).2⟩
  case round =>
    obtain ⟨i, v', hiN, rfl, hA, hB⟩ := hrel
    obtain ⟨hmax, hm2, hN, hNk⟩ := unhide HM
    have hsr := (unhide hA).g.size
    by_cases hlt : i < N
    · have hi1 : i < ns.length := by omega
      have hi2 : i < ks.length := by omega
      have htk := entsB_take hi1 hi2
      have hle1 := entsB_le ns ks (i + 1)
      rw [htk] at hle1
      simp only [List.length_append] at hle1
      have hvo : ∀ g, v.ownBlock = some g → g < lo ∨ hi ≤ g := fun g hg => by have := (unhide HO g hg).1; omega
      have hnr := (unhide hA).g.row (unhide HT).1 (by omega) (.inr hhi) hvo
      obtain ⟨g, o, rfl, hcx⟩ := row_strX hnr hN i hlt
      have hgl : g < wr.heap.size := cell_lt hcx
      have hL1 := hide (dlits_any hSK c [⟨#[101, 110, 116, 114, 121]⟩, ⟨#[40]⟩, ⟨#[110, 97, 109, 101]⟩, ns.getD i ⟨#[]⟩, ⟨#[110, 111, 100, 101]⟩] W0 wr v v' _ (unhide hA) (by simp) (by
        show _ + (txs [wEntry, wOpen, wName, sB (ns.getD i ⟨#[]⟩), wNode]).length ≤ _
        rw [List.length_append]; omega) (by
        show (txs [wEntry, wOpen, wName, sB (ns.getD i ⟨#[]⟩), wNode]).length ≤ _
        omega))
      obtain ⟨y0, y1, y2, y3, y4⟩ := hB.cells
      have hlB : w.heap.size < wr.heap.size := by omega
      have HTK := hide htk
      have HLE := hide hle1
      have HB := hide hB
      generalize hsi : ns.getD i ⟨#[]⟩ = s at *
      clear htk hle1 hnr hB hsi
      go_wp2_with fail
      refine (unhide hL1).mono ?_
      rintro e w1 ⟨rfl, v1, hA1, hg1⟩
      have hB1 := (unhide hA).box hg1 (fun g hg => (unhide HO g hg).2) (by omega) (by omega) (unhide HB)
      have hs1 := hg1.size
      have hkr := hA1.g.row (unhide HT).2.1 (by omega) (.inr hhi) hvo
      obtain ⟨gk, ok, eak, hgk1, hgk2, hcell⟩ := hkr.at (by omega)
      have hKr : ∀ (i : Nat) (t : Tr) (c' : List Value), ks[i]? = some t → Ks[i]? = some c' → Lies lo hi w1 t c' := fun i t c' h1 h2 => Lies.gt hA1.g ((unhide HT).2.2.2 i t c' h1 h2) hhi (by omega) (fun g hg => by have := (unhide HO g hg).1; omega)
      obtain ⟨k1, x1, b1, b2, b3, b4, b5, b6, b7, b8, b9, hLi, z0, z1, z2, z3, z4⟩ := kid_sl (unhide HT).2.2.1 hcell hKr i hi2
      have hlen0 : (xs ++ entsB (ns.take i) (ks.take i)).length = xs.length + (entsB (ns.take i) (ks.take i)).length := List.length_append
      have HI := hide (unhide HIH ks[i] (List.getElem_mem hi2) lo hi _ w1 v1 _ hLi hhi hA1.h (by
        have := unhide HLE
        rw [List.length_append, hlen0]
        show _ + (txs [wEntry, wOpen, wName, sB s, wNode]).length + _ ≤ _
        omega) (by have := unhide HLE; omega))
      obtain ⟨t0, t1, t2, t3, t4⟩ := hB1.cells
      have HA1 := hide hA1
      have HB1 := hide hB1
      subst eak
      have hgkl : gk < w1.heap.size := by omega
      clear hL1 hg1 hA1 hkr hcell hKr hLi hB1 y0 y1 y2 y3 y4 hcx hA HB
      generalize ks[i] = t at *
      go_wp2_with fail
      refine (unhide HI).mono ?_
      rintro e w2 ⟨rfl, hk2⟩
      obtain ⟨v2, hA2, hg2⟩ := (unhide HA1).step hk2
      have hB2 := (unhide HA1).box hg2 (fun g hg => (unhide HO g hg).2) (by omega) (by omega) (unhide HB1)
      have hL3 := hide (dlits_any hSK c [⟨#[41]⟩] W0 w2 v v2 _ hA2 (by simp) (by
        have := unhide HLE
        rw [List.length_append, List.length_append, hlen0]
        show _ + (txs [wEntry, wOpen, wName, sB s, wNode]).length + _ + (txs [wClose]).length ≤ _
        omega) (by show (txs [wClose]).length ≤ _; decide))
      have HA2 := hide (And.intro hA2 hB2)
      clear HI hk2 hA2 hg2 hB2 z0 z1 z2 z3 z4 t0 t1 t2 t3 t4 HB1
      go_wp2_with fail
      refine (unhide hL3).mono ?_
      rintro e w3 ⟨rfl, v3, hA3, hg3⟩
      have hB3 := (unhide HA2).1.box hg3 (fun g hg => (unhide HO g hg).2) (by omega) (by omega) (unhide HA2).2
      have HA3 : Hid (Dt HK c W0 w3 v v3 (xs ++ entsB (ns.take (i + 1)) (ks.take (i + 1)))) := by
        show Dt HK _ _ _ _ _ _
        rw [unhide HTK]
        have hA3' : Dt HK c W0 w3 v v3 (xs ++ entsB (ns.take i) (ks.take i) ++ txs [wEntry, wOpen, wName, sB s, wNode] ++ nodeB t ++ txs [wClose]) := hA3
        simpa only [List.append_assoc] using hA3'
      have HB3 := hide hB3
      clear hL3 hA3 hg3 hB3 HA2 HA1
      go_wp2_with fail
      go_roundw
      case rel => exact ⟨i + 1, v3, by omega, by go_num, unhide HA3, unhide HB3⟩
      case measure => simp [intOf]; try omega
    · obtain rfl : N = i := by omega
      have e1 : ns.take N = ns := List.take_of_length_le (by omega)
      have e2 : ks.take N = ks := List.take_of_length_le (by omega)
      rw [e1, e2] at hA
      have HE : Hid (SkD HK c w v (xs ++ entsB ns ks) wr) := SkD.trans (unhide HG0) ⟨v', (unhide hA).g, (unhide hA).h⟩
      clear hA e1 e2 hmax hm2
      go_wp2_with fail
      exact bodyPost_end (v := .tuple #[]) (by simp [results, Try.results67, go_sem]) rfl ⟨rfl, unhide HE⟩
set_option maxRecDepth 20000 in
set_option maxHeartbeats 8000000 in
theorem dwriteNode_any {HK : World → Nat → List UInt8 → Prop} {pc : Nat} (hSK : SinkD pc HK) (c : Nat) (T : Tr) : Nice T → wt T ≤ 100000 → NodeD pc HK c T := by
  induction T using Tr.ind with
  | h K x d ns ks ih =>
  intro hN hW lo hi cs w v xs hL hhi hS hmax hm2
  have hSm := small_of hW
  have hcl := hS.ctr.lt
  have hown : ∀ g, v.ownBlock = some g → c + 1 ≤ g ∧ g < w.heap.size := fun g hg => owns_lt hS.row g hg
  have HL := hide hL
  obtain ⟨hnk, hkn⟩ : ns.length = ks.length ∧ ∀ t ∈ ks, Nice t := by cases hN with | mk _ _ _ _ _ h1 h2 h3 => exact ⟨h2, h3⟩
  cases hL with
  | mk _ _ _ _ _ vd vn vk Ks hl hd hn hk hK =>
  obtain ⟨ad, cd, rfl, hcd⟩ := hd.slice
  obtain ⟨an, cn, rfl, hcn⟩ := hn.slice
  obtain ⟨ak, ck, rfl, hck⟩ := hk.slice
  obtain ⟨W0, hW0⟩ : ∃ W0, W0 = w.alloc (.cells #[.int .i64 K, .bool x, .slice ad d.size cd, .slice an ns.length cn, .slice ak ks.length ck] 26) := ⟨_, rfl⟩
  have hb0 : Below w.heap.size w W0 := by rw [hW0]; exact (Below.refl _ _).alloc (Nat.le_refl _) _
  have hs0 : W0.heap.size = w.heap.size + 1 := by rw [hW0]; simp
  have hx0 : Bx W0 w.heap.size (.int .i64 K) (.bool x) (.slice ad d.size cd) (.slice an ns.length cn) (.slice ak ks.length ck) := by rw [hW0]; exact bx_new _ _ _ _ _ _
  have hA0 : Dt HK c W0 W0 v v xs := ⟨Gt.of_below v (Below.refl _ _), hS.kept' hSK hb0⟩
  have HW0 := hide hW0
  have HG0 : Hid (Gt c w W0 v v) := Gt.of_below v hb0
  have HA0 := hide (And.intro hA0 hx0)
  have HD := hide (hd.below hb0 (by omega))
  have HE := hide (fun (W : World) (v' : Value) (ys : List UInt8) (g : Gt c W0 W v v') (h : HasD HK c W v' ys) => dwriteEntries_any hSK c K x d ns ks (fun t ht => ih t ht (hkn t ht) (hSm.t t ht)) lo hi _ W v' ys (Lies.gt g ((unhide HL).kept hb0 (by omega)) hhi (by omega) (fun g hg => by have := (hown g hg).1; omega)) hhi h hnk (by have := hSm.n; omega))
  have HO := hide hown
  have hvo : ∀ g, v.ownBlock = some g → g < lo ∨ hi ≤ g := fun g hg => by have := (hown g hg).1; omega
  have l1 : (txs [wOpen, wType]).length = 32 := by decide
  have l2 : (txs [wClose]).length = 16 := by decide
  have hWA : (W0.alloc (.cells #[.string ⟨#[40]⟩, .string ⟨#[116, 121, 112, 101]⟩] 9)) = (w.alloc (.cells #[.int .i64 K, .bool x, .slice ad d.size cd, .slice an ns.length cn, .slice ak ks.length ck] 26)).alloc (.cells #[.string ⟨#[40]⟩, .string ⟨#[116, 121, 112, 101]⟩] 9) := by rw [hW0]
  have HL1 := hide (dlits_any hSK c [⟨#[40]⟩, ⟨#[116, 121, 112, 101]⟩] W0 W0 v v _ hA0 (by simp) (by
    show _ + (txs [wOpen, wType]).length ≤ _
    rw [nodeB] at hmax
    simp only [List.length_append] at hmax
    omega) (by show (txs [wOpen, wType]).length ≤ _; omega))
  have HM := hide (And.intro hmax hm2)
  clear hN hW hSm hnk hkn hd hn hk hl hK hb0 hx0 hA0 hown ih hS hmax hm2
  rw [show W0.heap.size = w.heap.size + 1 from hs0] at HL1
  go_enter Try.func45, Try.ntmps45
  go_wp2_with fail
  rw [← unhide HW0]
  refine (unhide HL1).mono ?_
  rintro e w1 ⟨rfl, v1, hA, hg⟩
  have HA1 : Hid (Dt HK c W0 w1 v v1 (xs ++ txs [wOpen, wType]) ∧ Bx w1 w.heap.size (.int .i64 K) (.bool x) (.slice ad d.size cd) (.slice an ns.length cn) (.slice ak ks.length ck)) := ⟨hA, (unhide HA0).1.box hg (fun g hg => (unhide HO g hg).2) (by omega) (by omega) (unhide HA0).2⟩
  have hs1 := hg.size
  clear HL1 hA hg hW0 hWA HW0
  by_cases hk1 : K = 1
  case pos =>
    subst hk1
    have l3 : (txs [wReg]).length = 16 := by decide
    have l4 : (txs [wCont]).length = 16 := by decide
    have l5 : (txs [wExec, []]).length = 32 := by decide
    cases x
    case true =>
      have hnb : nodeB (.mk 1 true d ns ks) = txs [wOpen, wType] ++ (txs [wReg] ++ txs [wExec, []] ++ txs [wCont] ++ tx (sB d)) ++ txs [wClose] := by rw [nodeB, if_pos rfl]; rfl
      obtain ⟨hmax, hm2⟩ := unhide HM
      rw [hnb] at hmax hm2
      simp only [List.length_append, List.length_nil] at hmax hm2
      have HNB := hide hnb
      clear hnb HM
      obtain ⟨y0, y1, y2, y3, y4⟩ := (unhide HA1).2.cells
      have HX := hide (dlits_any hSK c [⟨#[114, 101, 103, 117, 108, 97, 114]⟩] W0 w1 v v1 _ (unhide HA1).1 (by simp) (by
        show _ + (txs [wReg]).length ≤ _
        simp only [List.length_append]
        omega) (by show (txs [wReg]).length ≤ _; omega))
      go_wp2_with fail
      refine (unhide HX).mono ?_
      rintro e w2 ⟨rfl, v2, hA, hg⟩
      have HA2 : Hid (Dt HK c W0 w2 v v2 (xs ++ txs [wOpen, wType] ++ txs [wReg]) ∧ Bx w2 w.heap.size (.int .i64 1) (.bool true) (.slice ad d.size cd) (.slice an ns.length cn) (.slice ak ks.length ck)) := ⟨hA, (unhide HA1).1.box hg (fun g hg => (unhide HO g hg).2) (by omega) (by omega) (unhide HA1).2⟩
      have hs2 := hg.size
      clear HX hA hg HA1 y0 y1 y2 y3 y4
      obtain ⟨y0, y1, y2, y3, y4⟩ := (unhide HA2).2.cells
      have HX := hide (dlits_any hSK c [⟨#[101, 120, 101, 99, 117, 116, 97, 98, 108, 101]⟩, ⟨#[]⟩] W0 w2 v v2 _ (unhide HA2).1 (by simp) (by
        show _ + (txs [wExec, []]).length ≤ _
        simp only [List.length_append]
        omega) (by show (txs [wExec, []]).length ≤ _; omega))
      go_wp2_with fail
      refine (unhide HX).mono ?_
      rintro e w3 ⟨rfl, v3, hA, hg⟩
      have HA3 : Hid (Dt HK c W0 w3 v v3 (xs ++ txs [wOpen, wType] ++ txs [wReg] ++ txs [wExec, []]) ∧ Bx w3 w.heap.size (.int .i64 1) (.bool true) (.slice ad d.size cd) (.slice an ns.length cn) (.slice ak ks.length ck)) := ⟨hA, (unhide HA2).1.box hg (fun g hg => (unhide HO g hg).2) (by omega) (by omega) (unhide HA2).2⟩
      have hs3 := hg.size
      clear HX hA hg HA2 y0 y1 y2 y3 y4
      obtain ⟨y0, y1, y2, y3, y4⟩ := (unhide HA3).2.cells
      have HX := hide (dlits_any hSK c [⟨#[99, 111, 110, 116, 101, 110, 116, 115]⟩] W0 w3 v v3 _ (unhide HA3).1 (by simp) (by
        show _ + (txs [wCont]).length ≤ _
        simp only [List.length_append]
        omega) (by show (txs [wCont]).length ≤ _; omega))
      go_wp2_with fail
      refine (unhide HX).mono ?_
      rintro e w4 ⟨rfl, v4, hA, hg⟩
      have HA4 : Hid (Dt HK c W0 w4 v v4 (xs ++ txs [wOpen, wType] ++ txs [wReg] ++ txs [wExec, []] ++ txs [wCont]) ∧ Bx w4 w.heap.size (.int .i64 1) (.bool true) (.slice ad d.size cd) (.slice an ns.length cn) (.slice ak ks.length ck)) := ⟨hA, (unhide HA3).1.box hg (fun g hg => (unhide HO g hg).2) (by omega) (by omega) (unhide HA3).2⟩
      have hs4 := hg.size
      clear HX hA hg HA3 y0 y1 y2 y3 y4
      obtain ⟨y0, y1, y2, y3, y4⟩ := (unhide HA4).2.cells
      have HX := hide (dwriteData_any hSK c v4 _ (sB d) lo hi ad d.size cd w4 (unhide HA4).1.h ((unhide HA4).1.g.row (unhide HD) (by omega) (.inr hhi) hvo) rfl hhi (by simp only [List.length_append]; omega))
      go_wp2_with fail
      refine (unhide HX).mono ?_
      rintro e w5 ⟨rfl, hk⟩
      obtain ⟨v5, hA, hg⟩ := (unhide HA4).1.step hk
      clear hk
      have HA5 : Hid (Dt HK c W0 w5 v v5 (xs ++ txs [wOpen, wType] ++ txs [wReg] ++ txs [wExec, []] ++ txs [wCont] ++ tx (sB d)) ∧ Bx w5 w.heap.size (.int .i64 1) (.bool true) (.slice ad d.size cd) (.slice an ns.length cn) (.slice ak ks.length ck)) := ⟨hA, (unhide HA4).1.box hg (fun g hg => (unhide HO g hg).2) (by omega) (by omega) (unhide HA4).2⟩
      have hs5 := hg.size
      clear HX hA hg HA4 y0 y1 y2 y3 y4
      obtain ⟨y0, y1, y2, y3, y4⟩ := (unhide HA5).2.cells
      have HX := hide (dlits_any hSK c [⟨#[41]⟩] W0 w5 v v5 _ (unhide HA5).1 (by simp) (by
        show _ + (txs [wClose]).length ≤ _
        simp only [List.length_append]
        omega) (by show (txs [wClose]).length ≤ _; omega))
      go_wp2_with fail
      refine (unhide HX).mono ?_
      rintro e w6 ⟨rfl, v6, hA, hg⟩
      have HA6 : Hid (Dt HK c W0 w6 v v6 (xs ++ txs [wOpen, wType] ++ txs [wReg] ++ txs [wExec, []] ++ txs [wCont] ++ tx (sB d) ++ txs [wClose]) ∧ Bx w6 w.heap.size (.int .i64 1) (.bool true) (.slice ad d.size cd) (.slice an ns.length cn) (.slice ak ks.length ck)) := ⟨hA, (unhide HA5).1.box hg (fun g hg => (unhide HO g hg).2) (by omega) (by omega) (unhide HA5).2⟩
      have hs6 := hg.size
      clear HX hA hg HA5 y0 y1 y2 y3 y4
      have HZ : Hid (SkD HK c w v (xs ++ nodeB (.mk 1 true d ns ks)) w6) := by
        have h := SkD.trans (unhide HG0) ⟨v6, (unhide HA6).1.g, (unhide HA6).1.h⟩
        show SkD HK _ _ _ _ _
        rw [unhide HNB]
        simpa only [List.append_assoc, List.nil_append, List.append_nil] using h
      clear HA6
      go_wp2_with fail
      exact bodyPost_end (v := .tuple #[]) (by simp [results, Try.results45, go_sem]) rfl ⟨rfl, unhide HZ⟩
    case false =>
      have hnb : nodeB (.mk 1 false d ns ks) = txs [wOpen, wType] ++ (txs [wReg] ++ [] ++ txs [wCont] ++ tx (sB d)) ++ txs [wClose] := by rw [nodeB, if_pos rfl]; rfl
      obtain ⟨hmax, hm2⟩ := unhide HM
      rw [hnb] at hmax hm2
      simp only [List.length_append, List.length_nil] at hmax hm2
      have HNB := hide hnb
      clear hnb HM
      obtain ⟨y0, y1, y2, y3, y4⟩ := (unhide HA1).2.cells
      have HX := hide (dlits_any hSK c [⟨#[114, 101, 103, 117, 108, 97, 114]⟩] W0 w1 v v1 _ (unhide HA1).1 (by simp) (by
        show _ + (txs [wReg]).length ≤ _
        simp only [List.length_append]
        omega) (by show (txs [wReg]).length ≤ _; omega))
      go_wp2_with fail
      refine (unhide HX).mono ?_
      rintro e w2 ⟨rfl, v2, hA, hg⟩
      have HA2 : Hid (Dt HK c W0 w2 v v2 (xs ++ txs [wOpen, wType] ++ txs [wReg]) ∧ Bx w2 w.heap.size (.int .i64 1) (.bool false) (.slice ad d.size cd) (.slice an ns.length cn) (.slice ak ks.length ck)) := ⟨hA, (unhide HA1).1.box hg (fun g hg => (unhide HO g hg).2) (by omega) (by omega) (unhide HA1).2⟩
      have hs2 := hg.size
      clear HX hA hg HA1 y0 y1 y2 y3 y4
      obtain ⟨y0, y1, y2, y3, y4⟩ := (unhide HA2).2.cells
      have HX := hide (dlits_any hSK c [⟨#[99, 111, 110, 116, 101, 110, 116, 115]⟩] W0 w2 v v2 _ (unhide HA2).1 (by simp) (by
        show _ + (txs [wCont]).length ≤ _
        simp only [List.length_append]
        omega) (by show (txs [wCont]).length ≤ _; omega))
      go_wp2_with fail
      refine (unhide HX).mono ?_
      rintro e w3 ⟨rfl, v3, hA, hg⟩
      have HA3 : Hid (Dt HK c W0 w3 v v3 (xs ++ txs [wOpen, wType] ++ txs [wReg] ++ txs [wCont]) ∧ Bx w3 w.heap.size (.int .i64 1) (.bool false) (.slice ad d.size cd) (.slice an ns.length cn) (.slice ak ks.length ck)) := ⟨hA, (unhide HA2).1.box hg (fun g hg => (unhide HO g hg).2) (by omega) (by omega) (unhide HA2).2⟩
      have hs3 := hg.size
      clear HX hA hg HA2 y0 y1 y2 y3 y4
      obtain ⟨y0, y1, y2, y3, y4⟩ := (unhide HA3).2.cells
      have HX := hide (dwriteData_any hSK c v3 _ (sB d) lo hi ad d.size cd w3 (unhide HA3).1.h ((unhide HA3).1.g.row (unhide HD) (by omega) (.inr hhi) hvo) rfl hhi (by simp only [List.length_append]; omega))
      go_wp2_with fail
      refine (unhide HX).mono ?_
      rintro e w4 ⟨rfl, hk⟩
      obtain ⟨v4, hA, hg⟩ := (unhide HA3).1.step hk
      clear hk
      have HA4 : Hid (Dt HK c W0 w4 v v4 (xs ++ txs [wOpen, wType] ++ txs [wReg] ++ txs [wCont] ++ tx (sB d)) ∧ Bx w4 w.heap.size (.int .i64 1) (.bool false) (.slice ad d.size cd) (.slice an ns.length cn) (.slice ak ks.length ck)) := ⟨hA, (unhide HA3).1.box hg (fun g hg => (unhide HO g hg).2) (by omega) (by omega) (unhide HA3).2⟩
      have hs4 := hg.size
      clear HX hA hg HA3 y0 y1 y2 y3 y4
      obtain ⟨y0, y1, y2, y3, y4⟩ := (unhide HA4).2.cells
      have HX := hide (dlits_any hSK c [⟨#[41]⟩] W0 w4 v v4 _ (unhide HA4).1 (by simp) (by
        show _ + (txs [wClose]).length ≤ _
        simp only [List.length_append]
        omega) (by show (txs [wClose]).length ≤ _; omega))
      go_wp2_with fail
      refine (unhide HX).mono ?_
      rintro e w5 ⟨rfl, v5, hA, hg⟩
      have HA5 : Hid (Dt HK c W0 w5 v v5 (xs ++ txs [wOpen, wType] ++ txs [wReg] ++ txs [wCont] ++ tx (sB d) ++ txs [wClose]) ∧ Bx w5 w.heap.size (.int .i64 1) (.bool false) (.slice ad d.size cd) (.slice an ns.length cn) (.slice ak ks.length ck)) := ⟨hA, (unhide HA4).1.box hg (fun g hg => (unhide HO g hg).2) (by omega) (by omega) (unhide HA4).2⟩
      have hs5 := hg.size
      clear HX hA hg HA4 y0 y1 y2 y3 y4
      have HZ : Hid (SkD HK c w v (xs ++ nodeB (.mk 1 false d ns ks)) w5) := by
        have h := SkD.trans (unhide HG0) ⟨v5, (unhide HA5).1.g, (unhide HA5).1.h⟩
        show SkD HK _ _ _ _ _
        rw [unhide HNB]
        simpa only [List.append_assoc, List.nil_append, List.append_nil] using h
      clear HA5
      go_wp2_with fail
      exact bodyPost_end (v := .tuple #[]) (by simp [results, Try.results45, go_sem]) rfl ⟨rfl, unhide HZ⟩
  have e1 : (K == 1) = false := by simpa using hk1
  by_cases hk3 : K = 3
  case pos =>
    subst hk3
    have l3 : (txs [wSym, wTarg]).length = 32 := by decide
    have hnb : nodeB (.mk 3 x d ns ks) = txs [wOpen, wType] ++ (txs [wSym, wTarg] ++ tx (sB d)) ++ txs [wClose] := by rw [nodeB, if_neg (by decide), if_pos rfl]
    obtain ⟨hmax, hm2⟩ := unhide HM
    rw [hnb] at hmax hm2
    simp only [List.length_append, List.length_nil] at hmax hm2
    have HNB := hide hnb
    clear hnb HM
    obtain ⟨y0, y1, y2, y3, y4⟩ := (unhide HA1).2.cells
    have HX := hide (dlits_any hSK c [⟨#[115, 121, 109, 108, 105, 110, 107]⟩, ⟨#[116, 97, 114, 103, 101, 116]⟩] W0 w1 v v1 _ (unhide HA1).1 (by simp) (by
      show _ + (txs [wSym, wTarg]).length ≤ _
      simp only [List.length_append]
      omega) (by show (txs [wSym, wTarg]).length ≤ _; omega))
    go_wp2_with fail
    refine (unhide HX).mono ?_
    rintro e w2 ⟨rfl, v2, hA, hg⟩
    have HA2 : Hid (Dt HK c W0 w2 v v2 (xs ++ txs [wOpen, wType] ++ txs [wSym, wTarg]) ∧ Bx w2 w.heap.size (.int .i64 3) (.bool x) (.slice ad d.size cd) (.slice an ns.length cn) (.slice ak ks.length ck)) := ⟨hA, (unhide HA1).1.box hg (fun g hg => (unhide HO g hg).2) (by omega) (by omega) (unhide HA1).2⟩
    have hs2 := hg.size
    clear HX hA hg HA1 y0 y1 y2 y3 y4
    obtain ⟨y0, y1, y2, y3, y4⟩ := (unhide HA2).2.cells
    have HX := hide (dwriteData_any hSK c v2 _ (sB d) lo hi ad d.size cd w2 (unhide HA2).1.h ((unhide HA2).1.g.row (unhide HD) (by omega) (.inr hhi) hvo) rfl hhi (by simp only [List.length_append]; omega))
    go_wp2_with fail
    refine (unhide HX).mono ?_
    rintro e w3 ⟨rfl, hk⟩
    obtain ⟨v3, hA, hg⟩ := (unhide HA2).1.step hk
    clear hk
    have HA3 : Hid (Dt HK c W0 w3 v v3 (xs ++ txs [wOpen, wType] ++ txs [wSym, wTarg] ++ tx (sB d)) ∧ Bx w3 w.heap.size (.int .i64 3) (.bool x) (.slice ad d.size cd) (.slice an ns.length cn) (.slice ak ks.length ck)) := ⟨hA, (unhide HA2).1.box hg (fun g hg => (unhide HO g hg).2) (by omega) (by omega) (unhide HA2).2⟩
    have hs3 := hg.size
    clear HX hA hg HA2 y0 y1 y2 y3 y4
    obtain ⟨y0, y1, y2, y3, y4⟩ := (unhide HA3).2.cells
    have HX := hide (dlits_any hSK c [⟨#[41]⟩] W0 w3 v v3 _ (unhide HA3).1 (by simp) (by
      show _ + (txs [wClose]).length ≤ _
      simp only [List.length_append]
      omega) (by show (txs [wClose]).length ≤ _; omega))
    go_wp2_with fail
    refine (unhide HX).mono ?_
    rintro e w4 ⟨rfl, v4, hA, hg⟩
    have HA4 : Hid (Dt HK c W0 w4 v v4 (xs ++ txs [wOpen, wType] ++ txs [wSym, wTarg] ++ tx (sB d) ++ txs [wClose]) ∧ Bx w4 w.heap.size (.int .i64 3) (.bool x) (.slice ad d.size cd) (.slice an ns.length cn) (.slice ak ks.length ck)) := ⟨hA, (unhide HA3).1.box hg (fun g hg => (unhide HO g hg).2) (by omega) (by omega) (unhide HA3).2⟩
    have hs4 := hg.size
    clear HX hA hg HA3 y0 y1 y2 y3 y4
    have HZ : Hid (SkD HK c w v (xs ++ nodeB (.mk 3 x d ns ks)) w4) := by
      have h := SkD.trans (unhide HG0) ⟨v4, (unhide HA4).1.g, (unhide HA4).1.h⟩
      show SkD HK _ _ _ _ _
      rw [unhide HNB]
      simpa only [List.append_assoc, List.nil_append, List.append_nil] using h
    clear HA4
    go_wp2_with fail
    exact bodyPost_end (v := .tuple #[]) (by simp [results, Try.results45, go_sem]) rfl ⟨rfl, unhide HZ⟩
  have e3 : (K == 3) = false := by simpa using hk3
  by_cases hk2 : K = 2
  case pos =>
    subst hk2
    have l3 : (txs [wDir]).length = 24 := by decide
    have hnb : nodeB (.mk 2 x d ns ks) = txs [wOpen, wType] ++ (txs [wDir] ++ entsB ns ks) ++ txs [wClose] := by rw [nodeB, if_neg (by decide), if_neg (by decide), if_pos rfl]
    obtain ⟨hmax, hm2⟩ := unhide HM
    rw [hnb] at hmax hm2
    simp only [List.length_append, List.length_nil] at hmax hm2
    have HNB := hide hnb
    clear hnb HM
    obtain ⟨y0, y1, y2, y3, y4⟩ := (unhide HA1).2.cells
    have HX := hide (dlits_any hSK c [⟨#[100, 105, 114, 101, 99, 116, 111, 114, 121]⟩] W0 w1 v v1 _ (unhide HA1).1 (by simp) (by
      show _ + (txs [wDir]).length ≤ _
      simp only [List.length_append]
      omega) (by show (txs [wDir]).length ≤ _; omega))
    go_wp2_with fail
    refine (unhide HX).mono ?_
    rintro e w2 ⟨rfl, v2, hA, hg⟩
    have HA2 : Hid (Dt HK c W0 w2 v v2 (xs ++ txs [wOpen, wType] ++ txs [wDir]) ∧ Bx w2 w.heap.size (.int .i64 2) (.bool x) (.slice ad d.size cd) (.slice an ns.length cn) (.slice ak ks.length ck)) := ⟨hA, (unhide HA1).1.box hg (fun g hg => (unhide HO g hg).2) (by omega) (by omega) (unhide HA1).2⟩
    have hs2 := hg.size
    clear HX hA hg HA1 y0 y1 y2 y3 y4
    obtain ⟨y0, y1, y2, y3, y4⟩ := (unhide HA2).2.cells
    have HX := hide (unhide HE w2 v2 _ (unhide HA2).1.g (unhide HA2).1.h (by simp only [List.length_append]; omega) (by omega))
    go_wp2_with fail
    refine (unhide HX).mono ?_
    rintro e w3 ⟨rfl, hk⟩
    obtain ⟨v3, hA, hg⟩ := (unhide HA2).1.step hk
    clear hk
    have HA3 : Hid (Dt HK c W0 w3 v v3 (xs ++ txs [wOpen, wType] ++ txs [wDir] ++ entsB ns ks) ∧ Bx w3 w.heap.size (.int .i64 2) (.bool x) (.slice ad d.size cd) (.slice an ns.length cn) (.slice ak ks.length ck)) := ⟨hA, (unhide HA2).1.box hg (fun g hg => (unhide HO g hg).2) (by omega) (by omega) (unhide HA2).2⟩
    have hs3 := hg.size
    clear HX hA hg HA2 y0 y1 y2 y3 y4
    obtain ⟨y0, y1, y2, y3, y4⟩ := (unhide HA3).2.cells
    have HX := hide (dlits_any hSK c [⟨#[41]⟩] W0 w3 v v3 _ (unhide HA3).1 (by simp) (by
      show _ + (txs [wClose]).length ≤ _
      simp only [List.length_append]
      omega) (by show (txs [wClose]).length ≤ _; omega))
    go_wp2_with fail
    refine (unhide HX).mono ?_
    rintro e w4 ⟨rfl, v4, hA, hg⟩
    have HA4 : Hid (Dt HK c W0 w4 v v4 (xs ++ txs [wOpen, wType] ++ txs [wDir] ++ entsB ns ks ++ txs [wClose]) ∧ Bx w4 w.heap.size (.int .i64 2) (.bool x) (.slice ad d.size cd) (.slice an ns.length cn) (.slice ak ks.length ck)) := ⟨hA, (unhide HA3).1.box hg (fun g hg => (unhide HO g hg).2) (by omega) (by omega) (unhide HA3).2⟩
    have hs4 := hg.size
    clear HX hA hg HA3 y0 y1 y2 y3 y4
    have HZ : Hid (SkD HK c w v (xs ++ nodeB (.mk 2 x d ns ks)) w4) := by
      have h := SkD.trans (unhide HG0) ⟨v4, (unhide HA4).1.g, (unhide HA4).1.h⟩
      show SkD HK _ _ _ _ _
      rw [unhide HNB]
      simpa only [List.append_assoc, List.nil_append, List.append_nil] using h
    clear HA4
    go_wp2_with fail
    exact bodyPost_end (v := .tuple #[]) (by simp [results, Try.results45, go_sem]) rfl ⟨rfl, unhide HZ⟩
  have e2 : (K == 2) = false := by simpa using hk2
  have hnb : nodeB (.mk K x d ns ks) = txs [wOpen, wType] ++ [] ++ txs [wClose] := by rw [nodeB, if_neg hk1, if_neg hk3, if_neg hk2]
  obtain ⟨hmax, hm2⟩ := unhide HM
  rw [hnb] at hmax hm2
  simp only [List.length_append, List.length_nil] at hmax hm2
  have HNB := hide hnb
  clear hnb HM
  clear hk1 hk2 hk3
  obtain ⟨y0, y1, y2, y3, y4⟩ := (unhide HA1).2.cells
  have HX := hide (dlits_any hSK c [⟨#[41]⟩] W0 w1 v v1 _ (unhide HA1).1 (by simp) (by
    show _ + (txs [wClose]).length ≤ _
    simp only [List.length_append]
    omega) (by show (txs [wClose]).length ≤ _; omega))
  go_wp2_with fail
  refine (unhide HX).mono ?_
  rintro e w2 ⟨rfl, v2, hA, hg⟩
  have HA2 : Hid (Dt HK c W0 w2 v v2 (xs ++ txs [wOpen, wType] ++ txs [wClose]) ∧ Bx w2 w.heap.size (.int .i64 K) (.bool x) (.slice ad d.size cd) (.slice an ns.length cn) (.slice ak ks.length ck)) := ⟨hA, (unhide HA1).1.box hg (fun g hg => (unhide HO g hg).2) (by omega) (by omega) (unhide HA1).2⟩
  have hs2 := hg.size
  clear HX hA hg HA1 y0 y1 y2 y3 y4
  have HZ : Hid (SkD HK c w v (xs ++ nodeB (.mk K x d ns ks)) w2) := by
    have h := SkD.trans (unhide HG0) ⟨v2, (unhide HA2).1.g, (unhide HA2).1.h⟩
    show SkD HK _ _ _ _ _
    rw [unhide HNB]
    simpa only [List.append_assoc, List.nil_append, List.append_nil] using h
  clear HA2
  go_wp2_with fail
  exact bodyPost_end (v := .tuple #[]) (by simp [results, Try.results45, go_sem]) rfl ⟨rfl, unhide HZ⟩

end Go.Proofs.Ytikamklgelcnhaa
/- The same for a sink in one block. -/
namespace Go.Proofs.Ytikamklgelcnhaa
open Go.RowKit
set_option linter.unusedSimpArgs false
set_option maxRecDepth 20000 in
set_option maxHeartbeats 2000000 in
theorem dwriteTree_any {HK : World → Nat → List UInt8 → Prop} {pc : Nat} (hSK : SinkD pc HK) (c : Nat) (T : Tr) (lo hi : Nat) (cs : List Value) (w : World) (v : Value) (xs : List UInt8) (hL : Lies lo hi w T cs) (hhi : hi ≤ c) (hS : HasD HK c w v xs) (hN : Nice T) (hW : wt T ≤ 3000) (hx : xs.length ≤ 1000000) :
    Calls Try.prog 27 #[.agg cs.toArray, .func (Fn.func 33) #[] #[.pointer (some ⟨pc, 0, none⟩)]] w fun e w' => e = .returned (.tuple #[]) ∧ SkD HK c w v (xs ++ narB T) w' := by
  have hcl := hS.ctr.lt
  have hown : ∀ g, v.ownBlock = some g → c + 1 ≤ g ∧ g < w.heap.size := fun g hg => owns_lt hS.row g hg
  obtain ⟨kt, xt, at0, nt, ct, bt, mt, dt, et, pt, qt, rfl⟩ := hL.form
  obtain ⟨W0, hW0⟩ : ∃ W0, W0 = w.alloc (.cells #[.int .i64 kt, .bool xt, .slice at0 nt ct, .slice bt mt dt, .slice et pt qt] 26) := ⟨_, rfl⟩
  have hb0 : Below w.heap.size w W0 := by rw [hW0]; exact (Below.refl _ _).alloc (Nat.le_refl _) _
  have hs0 : W0.heap.size = w.heap.size + 1 := by rw [hW0]; simp
  have hx0 : Bx W0 w.heap.size (.int .i64 kt) (.bool xt) (.slice at0 nt ct) (.slice bt mt dt) (.slice et pt qt) := by rw [hW0]; exact bx_new _ _ _ _ _ _
  have hA0 : Dt HK c W0 W0 v v xs := ⟨Gt.of_below v (Below.refl _ _), hS.kept' hSK hb0⟩
  have HL0 := hide (hL.kept hb0 (by omega))
  have HW0 := hide hW0
  have HG0 : Hid (Gt c w W0 v v) := Gt.of_below v hb0
  have HA0 := hide (And.intro hA0 hx0)
  have HO := hide hown
  have hlen := nodeB_len T
  have l1 : (txs [wMagic]).length = 24 := by decide
  have HL1 := hide (dlits_any hSK c [⟨#[110, 105, 120, 45, 97, 114, 99, 104, 105, 118, 101, 45, 49]⟩] W0 W0 v v _ hA0 (by simp) (by show _ + (txs [wMagic]).length ≤ _; omega) (by show (txs [wMagic]).length ≤ _; omega))
  have HN := hide (dwriteNode_any hSK c T hN (by omega))
  clear hL hS hb0 hx0 hA0 hown hW0 hN
  rw [hs0] at HL1
  go_enter Try.func27, Try.ntmps27
  go_wp2_with fail
  rw [← unhide HW0]
  refine (unhide HL1).mono ?_
  rintro e w1 ⟨rfl, v1, hA, hg⟩
  have hB1 := (unhide HA0).1.box hg (fun g hg => (unhide HO g hg).2) (by omega) (by omega) (unhide HA0).2
  have hL1 := Lies.gt hg (unhide HL0) hhi (by omega) (fun g hg => by have := (unhide HO g hg).1; omega)
  have hA' : Dt HK c W0 w1 v v1 (xs ++ txs [wMagic]) := hA
  have HX := hide (unhide HN lo hi _ w1 v1 _ hL1 hhi hA'.h (by rw [List.length_append]; omega) (by omega))
  have HA1 := hide hA'
  obtain ⟨y0, y1, y2, y3, y4⟩ := hB1.cells
  clear HL1 hA hg hA' hL1 hB1 HW0
  go_wp2_with fail
  refine (unhide HX).mono ?_
  rintro e w2 ⟨rfl, hk⟩
  obtain ⟨v2, hA2, _⟩ := (unhide HA1).step hk
  have HZ : Hid (SkD HK c w v (xs ++ narB T) w2) := by
    have h := SkD.trans (unhide HG0) ⟨v2, hA2.g, hA2.h⟩
    show SkD HK _ _ _ _ _
    unfold narB
    simpa only [List.append_assoc] using h
  clear HX hk hA2 HA1
  go_wp2_with fail
  exact bodyPost_end (v := .tuple #[]) (by simp [results, Try.results27, go_sem]) rfl ⟨rfl, unhide HZ⟩
end Go.Proofs.Ytikamklgelcnhaa
/- The document's text: a text's bytes behind others. -/
namespace Go.Proofs.Ytikamklgelcnhaa
open Go.RowKit
set_option linter.unusedSimpArgs false
/-- Only a row has grown. -/
structure Gw (w w' : World) (v v' : Value) : Prop where
  os : w'.os = w.os
  tape : w'.tape = w.tape
  output : w'.output = w.output
  size : w.heap.size ≤ w'.heap.size
  keep : ∀ k, k < w.heap.size → v.ownBlock ≠ some k → w'.heap[k]? = w.heap[k]?
  own : ∀ g, v'.ownBlock = some g → v.ownBlock = some g ∨ w.heap.size ≤ g
theorem Gw.refl (w : World) (v : Value) : Gw w w v v := ⟨rfl, rfl, rfl, Nat.le_refl _, fun _ _ _ => rfl, fun _ h => .inl h⟩
theorem Gw.trans {w w' w'' : World} {v v' v'' : Value} (h : Gw w w' v v') (k : Gw w' w'' v' v'') : Gw w w'' v v'' :=
  ⟨k.os.trans h.os, k.tape.trans h.tape, k.output.trans h.output, Nat.le_trans h.size k.size,
    fun i hi hv => by
      have h2 := h.size
      rw [k.keep i (by omega) (fun e => by rcases h.own i e with h1 | h1; exact hv h1; omega), h.keep i hi hv],
    fun g hg => by
      have h2 := h.size
      rcases k.own g hg with h1 | h1
      · exact h.own g h1
      · exact .inr (by omega)⟩
theorem Gw.of_below {w w' : World} (v : Value) (h : Below w.heap.size w w') : Gw w w' v v := ⟨h.os, h.tape, h.output, h.size, fun k hk _ => h.block k hk, fun _ hg => .inl hg⟩
theorem Gw.of_grown {w w' : World} {v v' : Value} (hg : w.grownBy w' v.ownBlock) (hf : v'.ownBlock = v.ownBlock ∨ v'.ownBlock = some w.heap.size) : Gw w w' v v' :=
  ⟨hg.os, hg.tape, hg.output, hg.size, fun k hk hv => hg.block k hk (fun e => hv e.symm), fun g h => by
    rcases hf with e | e
    · exact .inl (by rw [← e]; exact h)
    · rw [e] at h; cases h; exact .inr (Nat.le_refl _)⟩
theorem Gw.below {w w' : World} {v v' : Value} (h : Gw w w' v v') {base : Nat} (hv : ∀ g, v.ownBlock = some g → base ≤ g) (hb : base ≤ w.heap.size) : Below base w w' := ⟨h.os, h.tape, h.output, h.size, fun k hk => h.keep k (by omega) (fun e => by have := hv k e; omega)⟩
theorem byte_gw (w : World) (base : Nat) (v : Value) (n : Nat) (xs : List UInt8) (b : UInt8) (ho : w.ownsRow base 5 1 v n (bv xs)) (hmax : n ≤ 10000000) (hbase : base ≤ w.heap.size) :
    ∃ a' c' w', (∀ ty, (app22 ty #[v, .slice (some ⟨w.heap.size, 0, none⟩) 1 1]).run Try.prog (w.alloc (.cells #[.int .u8 (b.toNat : Int)] 5)) = .ok (.slice a' (n + 1) c') w') ∧ w'.ownsRow base 5 1 (.slice a' (n + 1) c') (n + 1) (bv (xs ++ [b])) ∧ Gw w w' v (.slice a' (n + 1) c') := by
  obtain ⟨v', w', h1, h2, h3, h4⟩ := app22_own (w.alloc (.cells #[.int .u8 (b.toNat : Int)] 5)) base _ _ v n (bv xs) _ 1 1 [.int .u8 (b.toNat : Int)] (ho.alloc _) (one_row w [.int .u8 (b.toNat : Int)] 5) rfl (fun u hu => by simp at hu; subst hu; rfl) (by omega) (by simp; omega)
  obtain ⟨a', c', rfl, _⟩ := owns_slice h2
  exact ⟨a', c', w', h1, by rw [bv_append]; exact h2, (Gw.of_below v ((Below.refl _ w).alloc (Nat.le_refl _) _)).trans (Gw.of_grown h3 h4)⟩
theorem str_gw (w : World) (base : Nat) (v : Value) (n : Nat) (xs : List UInt8) (s : ByteArray) (ho : w.ownsRow base 5 1 v n (bv xs)) (hmax : n + s.size ≤ 10000000) (hbase : base ≤ w.heap.size) :
    ∃ a' c' w', (∀ ty, (app22s ty #[v, .string s]).run Try.prog w = .ok (.slice a' (n + s.size) c') w') ∧ w'.ownsRow base 5 1 (.slice a' (n + s.size) c') (n + s.size) (bv (xs ++ sB s)) ∧ Gw w w' v (.slice a' (n + s.size) c') := by
  obtain ⟨i, hi', hz, hsz, hby⟩ := info5
  obtain ⟨v', w', h1, h2, h3, h4⟩ := Lib.run_append_own_string (P := Try.prog) w base 22 9 22 5 i Try.underlying22 Try.underlying9 hi' hz hsz hby v n (bv xs) ho s (by unfold maxLen; omega) (by omega) hbase
  have hf : v'.ownBlock = v.ownBlock ∨ v'.ownBlock = some w.heap.size := by
    rcases ho.2 with ⟨rfl, rfl⟩ | ⟨g, cap, cur, rfl, hg, hh, hcap, hm, hcs, htk⟩
    · by_cases hs : s.size = 0
      · rw [h4.2 ⟨rfl, hs⟩]; exact .inl rfl
      · rw [run_append_nil_string (P := Try.prog) w 22 9 22 5 i (.int .u8 0) Try.underlying22 Try.underlying9 hi' hz s (by omega) (by omega) (by rw [hby]; omega)] at h1
        injection h1 with e1 e2
        subst e1
        exact .inr rfl
    · by_cases hroom : n + s.size ≤ cap
      · rw [Lib.run_append_room_string (P := Try.prog) w 22 9 22 5 i Try.underlying22 Try.underlying9 hi' hsz g n cap cur hh s hroom (by omega)] at h1
        injection h1 with e1 e2
        subst e1
        exact .inl rfl
      · have hold : ∀ j u, (bv xs)[j]? = some u → w.cell? ((⟨g, 0, none⟩ : Addr).add j) = some u := ho.cells (g := g) rfl
        have hfit : Builtin.nextslicecap (n + s.size) cap * i.bytes ≤ 281474976710656 := growslice_fits (by omega) (by rw [hby]; omega)
        rw [Lib.run_append_grow_string (P := Try.prog) w 22 9 22 5 i (.int .u8 0) Try.underlying22 Try.underlying9 hi' hz ⟨g, 0, none⟩ n cap (bv xs) (by rw [ho.1, hsz]) hold s (by omega) (by omega) hfit] at h1
        injection h1 with e1 e2
        subst e1
        exact .inr rfl
  obtain ⟨a', c', rfl, _⟩ := owns_slice h2
  exact ⟨a', c', w', fun ty => h1, by rw [bv_append]; exact h2, Gw.of_grown h3 hf⟩
/-- What the document's text and node leave. -/
def RowG (base : Nat) (w : World) (v : Value) (n : Nat) (xs : List UInt8) (e : Ending) (w' : World) : Prop := ∃ a c, e = .returned (.slice a n c) ∧ w'.ownsRow base 5 1 (.slice a n c) n (bv xs) ∧ Gw w w' v (.slice a n c)
theorem padN_le8 (n : Nat) : padN n ≤ 7 := by unfold padN; omega
set_option maxRecDepth 20000 in
set_option maxHeartbeats 2000000 in
theorem etext_any (base : Nat) (a : Option Addr) (c n : Nat) (xs : List UInt8) (s : ByteArray) (w : World) (ho : w.ownsRow base 5 1 (.slice a n c) n (bv xs)) (hmax : n + s.size ≤ 9000000) (hbase : base ≤ w.heap.size) :
    Calls Try.prog 31 #[.slice a n c, .string s] w fun e w' => RowG base w (.slice a n c) (n + (8 + s.size + padN s.size)) (xs ++ tx (sB s)) e w' := by
  obtain ⟨Q, hQ⟩ : ∃ Q, Q = fun (e : Ending) (w' : World) => RowG base w (.slice a n c) (n + (8 + s.size + padN s.size)) (xs ++ tx (sB s)) e w' := ⟨_, rfl⟩
  rw [← hQ]
  have HQ := hide hQ
  have HO := hide ho
  clear ho hQ
  go_enter Try.func31, Try.ntmps31
  go_wp2_with fail
  generalize hN : s.size = N at *
  go_loopw [6, 0] (fun vi vb wr => ∃ (i : Nat) (a' : Option Addr) (c' : Nat), i ≤ 8 ∧ vi = .int .i64 (i : Int) ∧ vb = .slice a' (n + i) c' ∧ Hid (wr.ownsRow base 5 1 (.slice a' (n + i) c') (n + i) (bv (xs ++ lenB i N))) ∧ Hid (Gw w wr (.slice a n c) (.slice a' (n + i) c'))) (fun vi _ _ => 8 - (intOf vi).toNat)
  case atStart => exact ⟨0, a, c, by omega, rfl, rfl, by show World.ownsRow _ _ _ _ _ _ _; simpa [lenB] using unhide HO, Gw.refl _ _⟩
  case round =>
    obtain ⟨i, a', c', hi, rfl, rfl, hO, hb⟩ := hrel
    have hs := (unhide hb).size
    by_cases hlt : i < 8
    · obtain ⟨a2, c2, w2, happ, h2, h3⟩ := byte_gw wr base (.slice a' (n + i) c') (n + i) (xs ++ lenB i N) (UInt8.ofNat (N / 256 ^ i)) (unhide hO) (by omega) (by omega)
      have H2 : Hid (w2.ownsRow base 5 1 (.slice a2 (n + i + 1) c2) (n + i + 1) (bv (xs ++ lenB (i + 1) N))) := by
        show World.ownsRow _ _ _ _ _ _ _
        rw [lenB_snoc, ← List.append_assoc]; exact h2
      have H3 := hide ((unhide hb).trans h3)
      have e0 : ((UInt8.ofNat (N / 256 ^ i)).toNat : Int) = (N : Int) / 2 ^ (8 * i) % 256 := by
        have e256 : (256 : Nat) ^ i = 2 ^ (8 * i) := by rw [Nat.pow_mul]
        rw [UInt8.toNat_ofNat', e256]
        push_cast
        rfl
      rw [e0] at happ
      clear hO h2 h3 hb hs e0
      go_wp2_with fail
      go_roundw
      case rel => exact ⟨i + 1, a2, c2, by omega, by go_num, rfl, unhide H2, unhide H3⟩
      case measure => simp [intOf]; try omega
    · obtain rfl : i = 8 := by omega
      obtain ⟨a3, c3, w3, happ3, ho3, hb3⟩ := str_gw wr base (.slice a' (n + 8) c') (n + 8) (xs ++ lenB 8 N) s (unhide hO) (by rw [hN]; omega) (by omega)
      rw [hN] at happ3 ho3
      rw [hN] at hb3
      have HB3 := hide ((unhide hb).trans hb3)
      have HO3 := hide ho3
      have HTX : Hid (xs ++ tx (sB s) = xs ++ lenB 8 N ++ sB s ++ List.replicate (padN N) 0) := by
        show _ = _
        unfold tx
        rw [show (sB s).length = N from hN]
        simp only [List.append_assoc]
      have HNS := hide hN
      have hp := padN_le8 N
      have HPD : Hid (∀ j, j ≤ padN N → ((N + j) % 8 = 0 ↔ j = padN N)) := by
        intro j hj
        unfold padN at *
        omega
      clear hO hb hs ho3 hb3 hN
      obtain ⟨P, hP⟩ : ∃ P, P = padN N := ⟨_, rfl⟩
      rw [← hP] at hp HPD HTX
      have HPP := hide hP
      clear hP
      go_wp2_with fail
      clear happ3
      go_loopw [7, 0] (fun vi vb wq => ∃ (j : Nat) (a' : Option Addr) (c' : Nat), j ≤ P ∧ vi = .int .i64 ((N : Int) + (j : Int)) ∧ vb = .slice a' (n + 8 + N + j) c' ∧ Hid (wq.ownsRow base 5 1 (.slice a' (n + 8 + N + j) c') (n + 8 + N + j) (bv (xs ++ lenB 8 N ++ sB s ++ List.replicate j 0))) ∧ Hid (Gw w wq (.slice a n c) (.slice a' (n + 8 + N + j) c'))) (fun vi _ _ => N + P - (intOf vi).toNat)
      case atStart => exact ⟨0, a3, c3, by omega, by simp, by simp, by show World.ownsRow _ _ _ _ _ _ _; simpa using unhide HO3, by show Gw _ _ _ _; simpa using unhide HB3⟩
      case round =>
        clear HO3 HB3
        obtain ⟨j, a4, c4, hj, rfl, rfl, hO, hb⟩ := hrel
        have hs := (unhide hb).size
        have hm := unhide HPD j hj
        by_cases hlt : j < P
        · obtain ⟨a5, c5, w5, happ, h2, h3⟩ := byte_gw wr base (.slice a4 (n + 8 + N + j) c4) (n + 8 + N + j) (xs ++ lenB 8 N ++ sB s ++ List.replicate j 0) 0 (unhide hO) (by omega) (by omega)
          have happ' : ∀ ty, (app22 ty #[.slice a4 (n + 8 + N + j) c4, .slice (some ⟨wr.heap.size, 0, none⟩) 1 1]).run Try.prog (wr.alloc (.cells #[.int .u8 0] 5)) = .ok (.slice a5 (n + 8 + N + j + 1) c5) w5 := happ
          have H2 : Hid (w5.ownsRow base 5 1 (.slice a5 (n + 8 + N + j + 1) c5) (n + 8 + N + j + 1) (bv (xs ++ lenB 8 N ++ sB s ++ List.replicate (j + 1) 0))) := by
            show World.ownsRow _ _ _ _ _ _ _
            rw [rep_snoc, ← List.append_assoc]; exact h2
          have H3 := hide ((unhide hb).trans h3)
          have hmd : ¬ ((N : Int) + (j : Int)) % 8 = 0 := by omega
          clear hO h2 h3 hb hs happ hm
          go_wp2_with fail
          go_roundw
          case rel => exact ⟨j + 1, a5, c5, by omega, by rw [show (N : Int) + (j : Int) + 1 = (N : Int) + ((j + 1 : Nat) : Int) by omega], rfl, unhide H2, unhide H3⟩
          case measure => simp [intOf]; omega
        · obtain rfl : j = P := by omega
          have hmd : ((N : Int) + (j : Int)) % 8 = 0 := by omega
          have HR : Hid (Q (.returned (.slice a4 (n + 8 + N + j) c4)) wr) := by
            show Q _ _
            rw [unhide HQ, ← unhide HPP]
            refine ⟨a4, c4, ?_, ?_, ?_⟩
            · rw [show n + (8 + N + j) = n + 8 + N + j by omega]
            · rw [unhide HTX, show n + (8 + N + j) = n + 8 + N + j by omega]
              exact unhide hO
            · rw [show n + (8 + N + j) = n + 8 + N + j by omega]
              exact unhide hb
          clear hO hb hs hm
          go_wp2_with fail
          exact unhide HR
end Go.Proofs.Ytikamklgelcnhaa
/- Parts of slices. -/
namespace Go.Proofs.Ytikamklgelcnhaa
open Go.RowKit
theorem elem23 : Try.prog.elem 23 = 9 := by kernel_rfl
theorem elem24 : Try.prog.elem 24 = 26 := by kernel_rfl
theorem ht23 : Try.prog.underlying 23 = some (.slice (Try.prog.elem 23)) := by rw [elem23]; exact Try.underlying23
theorem ht24 : Try.prog.underlying 24 = some (.slice (Try.prog.elem 24)) := by rw [elem24]; exact Try.underlying24
def sl23 (v : Value) (lo hi mx : Option Value) : Sem Value := Instr.slice 23 v lo hi mx
def sl24 (v : Value) (lo hi mx : Option Value) : Sem Value := Instr.slice 24 v lo hi mx
theorem slice_sl23 (v : Value) (lo hi mx : Option Value) : Instr.slice 23 v lo hi mx = sl23 v lo hi mx := rfl
theorem slice_sl24 (v : Value) (lo hi mx : Option Value) : Instr.slice 24 v lo hi mx = sl24 v lo hi mx := rfl
theorem row_take {lo hi : Nat} {w : World} {a : Option Addr} {n c i size : Nat} {xs : List Value} (h : Row lo hi w (.slice a n c) n xs) (hi' : i ≤ n) (a1 : Option Addr) (ha : ∀ g o, a = some ⟨g, o, none⟩ → a1 = some ⟨g, o, none⟩) (hc : n ≤ c) : Row lo hi w (.slice a1 i c) i (xs.take (i * size)) := by
  refine ⟨a1, c, rfl, by omega, fun h0 => ?_⟩
  obtain ⟨g, o, rfl, h1, h2, h3⟩ := h.at (by omega)
  refine ⟨g, o, ha g o rfl, h1, h2, fun j u hj => h3 j u ?_⟩
  rw [List.getElem?_take] at hj
  split at hj
  · exact hj
  · cases hj
theorem row_drop {lo hi : Nat} {w : World} {a : Option Addr} {n c i size : Nat} {xs : List Value} (h : Row lo hi w (.slice a n c) n xs) (hi' : i ≤ n) (a1 : Option Addr) (ha : ∀ g o, i < n → a = some ⟨g, o, none⟩ → a1 = some ⟨g, o + i * size, none⟩) (hc : n ≤ c) : Row lo hi w (.slice a1 (n - i) (c - i)) (n - i) (xs.drop (i * size)) := by
  refine ⟨a1, c - i, rfl, by omega, fun h0 => ?_⟩
  obtain ⟨g, o, rfl, h1, h2, h3⟩ := h.at (by omega)
  refine ⟨g, o + i * size, ha g o (by omega) rfl, h1, h2, fun j u hj => ?_⟩
  rw [List.getElem?_drop] at hj
  rw [Nat.add_assoc]
  exact h3 _ u hj
theorem cut_hi23 (lo hi : Nat) (a : Option Addr) (n c i : Nat) (hn : n ≤ c) (hin : i ≤ n) : ∃ a1, (∀ w, (sl23 (.slice a n c) none (some (.int .i64 (i : Int))) none).run Try.prog w = .ok (.slice a1 i c) w) ∧ ∀ (w : World) (xs : List Value), xs.length = n → Row lo hi w (.slice a n c) n xs → Row lo hi w (.slice a1 i c) i (xs.take i) := by
  refine ⟨if c = 0 then a else a.map (·.add (0 * 1)), fun w => ?_, fun w xs hx hr => ?_⟩
  · unfold sl23
    rw [run_slice_h w 23 a n c ht23 .i64 (i : Int) (by omega) (by omega)]
    rw [elem23]
    simp [Try.sizeOf9, Result.andThen, sliced]
  · have := row_take (size := 1) hr hin (if c = 0 then a else a.map (·.add (0 * 1))) (fun g o e => by subst e; split <;> simp [addr_mid]) hn
    simpa using this
theorem cut_lo23 (lo hi : Nat) (a : Option Addr) (n c i : Nat) (hn : n ≤ c) (hin : i ≤ n) : ∃ a1, (∀ w, (sl23 (.slice a n c) (some (.int .i64 (i : Int))) none none).run Try.prog w = .ok (.slice a1 (n - i) (c - i)) w) ∧ ∀ (w : World) (xs : List Value), xs.length = n → Row lo hi w (.slice a n c) n xs → Row lo hi w (.slice a1 (n - i) (c - i)) (n - i) (xs.drop i) := by
  refine ⟨if c = i then a else a.map (·.add (i * 1)), fun w => ?_, fun w xs hx hr => ?_⟩
  · unfold sl23
    rw [run_slice_l w 23 a n c ht23 .i64 (i : Int) (by omega) (by omega)]
    rw [elem23]
    simp [Try.sizeOf9, Result.andThen, sliced]
  · have := row_drop (size := 1) hr hin (if c = i then a else a.map (·.add (i * 1))) (fun g o h e => by subst e; rw [if_neg (by omega)]; simp [addr_mid]) hn
    simpa using this
theorem cut_hi24 (lo hi : Nat) (a : Option Addr) (n c i : Nat) (hn : n ≤ c) (hin : i ≤ n) : ∃ a1, (∀ w, (sl24 (.slice a n c) none (some (.int .i64 (i : Int))) none).run Try.prog w = .ok (.slice a1 i c) w) ∧ ∀ (w : World) (xs : List Value), xs.length = n * 5 → Row lo hi w (.slice a n c) n xs → Row lo hi w (.slice a1 i c) i (xs.take (i * 5)) := by
  refine ⟨if c = 0 then a else a.map (·.add (0 * 5)), fun w => ?_, fun w xs hx hr => ?_⟩
  · unfold sl24
    rw [run_slice_h w 24 a n c ht24 .i64 (i : Int) (by omega) (by omega)]
    rw [elem24]
    simp [Try.sizeOf26, Result.andThen, sliced]
  · exact row_take (size := 5) hr hin (if c = 0 then a else a.map (·.add (0 * 5))) (fun g o e => by subst e; split <;> simp [addr_mid]) hn
theorem cut_lo24 (lo hi : Nat) (a : Option Addr) (n c i : Nat) (hn : n ≤ c) (hin : i ≤ n) : ∃ a1, (∀ w, (sl24 (.slice a n c) (some (.int .i64 (i : Int))) none none).run Try.prog w = .ok (.slice a1 (n - i) (c - i)) w) ∧ ∀ (w : World) (xs : List Value), xs.length = n * 5 → Row lo hi w (.slice a n c) n xs → Row lo hi w (.slice a1 (n - i) (c - i)) (n - i) (xs.drop (i * 5)) := by
  refine ⟨if c = i then a else a.map (·.add (i * 5)), fun w => ?_, fun w xs hx hr => ?_⟩
  · unfold sl24
    rw [run_slice_l w 24 a n c ht24 .i64 (i : Int) (by omega) (by omega)]
    rw [elem24]
    simp [Try.sizeOf26, Result.andThen, sliced]
  · exact row_drop (size := 5) hr hin (if c = i then a else a.map (·.add (i * 5))) (fun g o h e => by subst e; rw [if_neg (by omega)]; simp [addr_mid]) hn
end Go.Proofs.Ytikamklgelcnhaa
/- The reader of nar: its box; fail. -/
namespace Go.Proofs.Ytikamklgelcnhaa
open Go.RowKit
set_option linter.unusedSimpArgs false
/-- A reader: what was handed in, how many bytes are read, how many nodes have begun, the error. -/
def Rx (w : World) (r : Nat) (b : Value) (p n e : Int) : Prop := w.heap[r]? = some (.cells #[b, .int .i64 p, .int .i64 n, .int .i64 e] 69)
theorem Rx.cells {w : World} {r : Nat} {b : Value} {p n e : Int} (h : Rx w r b p n e) :
    w.cell? ⟨r, 0, none⟩ = some b ∧ w.cell? ⟨r, 1, none⟩ = some (.int .i64 p) ∧ w.cell? ⟨r, 2, none⟩ = some (.int .i64 n) ∧ w.cell? ⟨r, 3, none⟩ = some (.int .i64 e) := by
  unfold Rx at h
  refine ⟨?_, ?_, ?_, ?_⟩
  all_goals
    unfold World.cell?
    rw [h]
    rfl
theorem Rx.fr {w : World} {r : Nat} {b : Value} {p n e : Int} (h : Rx w r b p n e) (o : Nat) : w.frozen? ⟨r, o, none⟩ = false := by
  unfold World.frozen?; rw [show w.heap[r]? = _ from h]; simp
theorem Rx.lt {w : World} {r : Nat} {b : Value} {p n e : Int} (h : Rx w r b p n e) : r < w.heap.size := (Array.getElem?_eq_some_iff.1 h).1
theorem Rx.of {w w' : World} {r : Nat} {b : Value} {p n e : Int} (h : Rx w r b p n e) (k : w'.heap[r]? = w.heap[r]?) : Rx w' r b p n e := by
  unfold Rx; rw [k]; exact h
theorem Rx.kept {w w' : World} {r B : Nat} {b : Value} {p n e : Int} (h : Rx w r b p n e) (hb : Below B w w') (hB : r < B) : Rx w' r b p n e := h.of (hb.block r hB)
theorem Rx.set1 {w : World} {r : Nat} {b : Value} {p n e : Int} (h : Rx w r b p n e) (x : Int) : Rx (w.setCell ⟨r, 1, none⟩ (.int .i64 x)) r b x n e := by
  unfold Rx at *; simp [World.setCell, Array.getElem?_modify, h]
theorem Rx.set2 {w : World} {r : Nat} {b : Value} {p n e : Int} (h : Rx w r b p n e) (x : Int) : Rx (w.setCell ⟨r, 2, none⟩ (.int .i64 x)) r b p x e := by
  unfold Rx at *; simp [World.setCell, Array.getElem?_modify, h]
theorem Rx.set3 {w : World} {r : Nat} {b : Value} {p n e : Int} (h : Rx w r b p n e) (x : Int) : Rx (w.setCell ⟨r, 3, none⟩ (.int .i64 x)) r b p n x := by
  unfold Rx at *; simp [World.setCell, Array.getElem?_modify, h]
theorem Rx.drew {w : World} {r : Nat} {b : Value} {p n e : Int} (h : Rx w r b p n e) : Rx w.drew r b p n e := h
theorem Rx.drewN {w : World} {r : Nat} {b : Value} {p n e : Int} (h : Rx w r b p n e) (k : Nat) : Rx (w.drewN k) r b p n e := h
theorem rx_new (w : World) (b : Value) (p n e : Int) : Rx (w.alloc (.cells #[b, .int .i64 p, .int .i64 n, .int .i64 e] 69)) w.heap.size b p n e := by
  show (w.heap.push _)[w.heap.size]? = _
  rw [Array.getElem?_push, if_pos rfl]
/-- Behind an error another one changes nothing. -/
def orE (e k : Int) : Int := if e = 0 then k else e
theorem orE_ne {e k : Int} (h : e ≠ 0) : orE e k = e := if_neg h
theorem orE_zero (k : Int) : orE 0 k = k := if_pos rfl
set_option maxRecDepth 20000 in
set_option maxHeartbeats 400000 in
theorem fail_any (r : Nat) (b : Value) (p n e k : Int) (w : World) (hx : Rx w r b p n e) :
    Calls Try.prog 60 #[.pointer (some ⟨r, 0, none⟩), .int .i64 k] w fun x w' => x = .returned (.tuple #[]) ∧ Sole r w w' ∧ Rx w' r b p n (orE e k) := by
  obtain ⟨h0, h1, h2, h3⟩ := hx.cells
  have hf := hx.fr 3
  by_cases he : e = 0
  · subst he
    have HX : Hid (Sole r w (w.setCell ⟨r, 3, none⟩ (.int .i64 k)) ∧ Rx (w.setCell ⟨r, 3, none⟩ (.int .i64 k)) r b p n (orE 0 k)) := ⟨(Sole.refl r w).setCell 3 _, by rw [orE_zero]; exact hx.set3 k⟩
    clear hx
    go_enter Try.func60, Try.ntmps60
    go_wp2_with fail
    exact bodyPost_end (v := .tuple #[]) (by simp [results, Try.results60, go_sem]) rfl ⟨rfl, unhide HX⟩
  · have HX : Hid (Sole r w w ∧ Rx w r b p n (orE e k)) := ⟨Sole.refl r w, by rw [orE_ne he]; exact hx⟩
    have hb : (e == 0) = false := by rw [beq_eq_false_iff_ne]; exact he
    clear hx
    go_enter Try.func60, Try.ntmps60
    go_wp2_with fail
    exact bodyPost_end (v := .tuple #[]) (by simp [results, Try.results60, go_sem]) rfl ⟨rfl, unhide HX⟩
end Go.Proofs.Ytikamklgelcnhaa
/- The reader's take. -/
namespace Go.Proofs.Ytikamklgelcnhaa
open Go.RowKit
set_option linter.unusedSimpArgs false
theorem elem22' : Try.prog.elem 22 = 5 := by kernel_rfl
theorem ht22' : Try.prog.underlying 22 = some (.slice (Try.prog.elem 22)) := by rw [elem22']; exact Try.underlying22
def sl22 (v : Value) (lo hi mx : Option Value) : Sem Value := Instr.slice 22 v lo hi mx
theorem slice_sl22 (v : Value) (lo hi mx : Option Value) : Instr.slice 22 v lo hi mx = sl22 v lo hi mx := rfl
theorem cut_lh22 (a : Option Addr) (n c i j : Nat) (hn : n ≤ c) (hin : i ≤ j) (hjn : j ≤ n) : ∃ a1, (∀ w, (sl22 (.slice a n c) (some (.int .i64 (i : Int))) (some (.int .i64 (j : Int))) none).run Try.prog w = .ok (.slice a1 (j - i) (c - i)) w) ∧ ∀ (lo hi : Nat) (w : World) (xs : List Value), xs.length = n → Row lo hi w (.slice a n c) n xs → Row lo hi w (.slice a1 (j - i) (c - i)) (j - i) ((xs.drop i).take (j - i)) := by
  refine ⟨if c = i then a else a.map (·.add (i * 1)), fun w => ?_, fun lo hi w xs hx hr => ?_⟩
  · unfold sl22
    rw [run_slice_lh w 22 a n c ht22' .i64 .i64 (i : Int) (j : Int) (by omega) (by omega) (by omega)]
    rw [elem22']
    simp [Try.sizeOf5, Result.andThen, sliced]
  · refine ⟨_, _, rfl, by omega, fun h0 => ?_⟩
    obtain ⟨g, o, rfl, h1, h2, h3⟩ := hr.at (by omega)
    refine ⟨g, o + i, by rw [if_neg (by omega)]; simp [addr_mid], h1, h2, fun k u hk => ?_⟩
    rw [List.getElem?_take] at hk
    split at hk
    · rw [List.getElem?_drop] at hk
      rw [Nat.add_assoc]; exact h3 _ u hk
    · cases hk
/-- A piece of what was handed in. -/
def Piece (b v : Value) (i n : Nat) : Prop := ∃ (a a1 : Option Addr) (N c d : Nat), b = .slice a N c ∧ v = .slice a1 n d ∧ n ≤ d ∧ i + n ≤ N ∧ ∀ (lo hi : Nat) (w : World) (xs : List Value), xs.length = N → Row lo hi w b N xs → Row lo hi w v n ((xs.drop i).take n)
attribute [local go_sem ↓] slice_sl22
set_option maxRecDepth 20000 in
set_option maxHeartbeats 1000000 in
theorem take_any (r : Nat) (a : Option Addr) (N c p n : Nat) (m e : Int) (w : World) (hx : Rx w r (.slice a N c) (p : Int) m e) (hc : N ≤ c) (hp : p ≤ N) (hN : N ≤ 1000000000) (hn : n ≤ 1000000000) :
    Calls Try.prog 95 #[.pointer (some ⟨r, 0, none⟩), .int .i64 (n : Int)] w fun x w' => ∃ v, x = .returned v ∧ Sole r w w' ∧
      ((e = 0 ∧ p + n ≤ N ∧ Rx w' r (.slice a N c) ((p + n : Nat) : Int) m 0 ∧ Piece (.slice a N c) v p n) ∨
       (¬ (e = 0 ∧ p + n ≤ N) ∧ v = .slice none 0 0 ∧ Rx w' r (.slice a N c) (p : Int) m (orE e 2))) := by
  obtain ⟨h0, h1, h2, h3⟩ := hx.cells
  have hf1 := hx.fr 1
  have HF := hide (fun W (hW : Rx W r (.slice a N c) p m e) => fail_any r (.slice a N c) p m e 2 W hW)
  have HR := hide hx
  by_cases hq : p + n ≤ N
  · by_cases he : e = 0
    · subst he
      have hlt : ¬ ((N : Int) - (p : Int) < (n : Int)) := by omega
      obtain ⟨a1, hrun, hrow⟩ := cut_lh22 a N c p (p + n) hc (by omega) hq
      have e1 : p + n - p = n := by omega
      rw [e1] at hrun hrow
      have e2 : (p : Int) + (n : Int) = ((p + n : Nat) : Int) := by omega
      rw [← e2] at hrun
      clear e1 e2
      have HP : Hid (Piece (.slice a N c) (.slice a1 n (c - p)) p n) := ⟨a, a1, N, c, c - p, rfl, rfl, by omega, hq, hrow⟩
      clear hx hrow
      go_enter Try.func95, Try.ntmps95
      go_wp2_with fail
      go_quiet (fail)
      go_wp2_with fail
      go_quiet (fail)
      go_wp2_with fail
      go_ret
      refine ⟨_, rfl, ((Sole.refl r w).drewN _ |>.setCell 1 _).drewN _, .inl ⟨trivial, hq, ?_, unhide HP⟩⟩
      refine Rx.drewN ?_ _
      rw [Int.natCast_add]
      exact ((unhide HR).drewN _).set1 _
    · have hlt : ¬ ((N : Int) - (p : Int) < (n : Int)) := by omega
      have hb : (e == 0) = false := by rw [beq_eq_false_iff_ne]; exact he
      clear hx
      go_enter Try.func95, Try.ntmps95
      go_wp2_with fail
      go_quiet (fail)
      go_wp2_with fail
      go_ret
      refine ⟨_, rfl, (Sole.refl r w).drewN _, .inr ⟨fun h => he h.1, rfl, ?_⟩⟩
      rw [orE_ne he]
      exact (unhide HR).drewN _
  · have hlt : ((N : Int) - (p : Int) < (n : Int)) := by omega
    have hE : orE e 2 ≠ 0 := by unfold orE; split <;> omega
    obtain ⟨E, hEE⟩ : ∃ E, E = orE e 2 := ⟨_, rfl⟩
    rw [← hEE] at hE
    have HE := hide hEE
    have hb : (E == 0) = false := by rw [beq_eq_false_iff_ne]; exact hE
    clear hx hEE
    go_enter Try.func95, Try.ntmps95
    go_wp2_with fail
    go_quiet (fail)
    go_wp2_with fail
    refine (unhide HF (w.drewN nq) ((unhide HR).drewN _)).mono ?_
    rintro x w1 ⟨rfl, hs1, hr1⟩
    rw [← unhide HE] at hr1
    obtain ⟨k0, k1, k2, k3⟩ := hr1.cells
    have HZ : Hid (Sole r w w1 ∧ Rx w1 r (.slice a N c) p m E) := ⟨((Sole.refl r w).drewN _).trans hs1, hr1⟩
    clear hs1 hr1
    go_wp2_with fail
    go_ret
    refine ⟨_, rfl, (unhide HZ).1, .inr ⟨fun h => hq h.2, rfl, ?_⟩⟩
    rw [← unhide HE]
    exact (unhide HZ).2
end Go.Proofs.Ytikamklgelcnhaa
/- The reader's length. -/
namespace Go.Proofs.Ytikamklgelcnhaa
open Go.RowKit
set_option linter.unusedSimpArgs false
/-- The number that bytes tell, the lowest first. -/
def leN : List UInt8 → Nat
  | [] => 0
  | x :: l => x.toNat + 256 * leN l
theorem leN_snoc (l : List UInt8) (x : UInt8) : leN (l ++ [x]) = leN l + 256 ^ l.length * x.toNat := by
  induction l with
  | nil => simp [leN]
  | cons y l ih =>
    rw [List.cons_append, leN, ih, leN, List.length_cons, Nat.pow_succ, Nat.mul_add, Nat.mul_comm (256 ^ l.length) 256, Nat.mul_assoc]; omega
theorem leN_lt (l : List UInt8) : leN l < 256 ^ l.length := by
  induction l with
  | nil => simp [leN]
  | cons x l ih =>
    have := x.toNat_lt
    rw [leN, List.length_cons, Nat.pow_succ]; omega
theorem leN_lenB (k : Nat) : ∀ n, n < 256 ^ k → leN (lenB k n) = n := by
  induction k with
  | zero => intro n hn; simp at hn; subst hn; rfl
  | succ k ih =>
    intro n hn
    rw [Nat.pow_succ] at hn
    rw [lenB, leN, ih _ (by omega), UInt8.toNat_ofNat']; omega
theorem or_le (n c k : Nat) (h : n < 2 ^ k) : n ||| (c * 2 ^ k) = n + 2 ^ k * c := by
  rw [Nat.mul_comm c, Nat.or_comm, ← Nat.two_pow_add_eq_or_of_lt h, Nat.add_comm]
theorem bits_le (n i : Nat) (x : UInt8) (hn : n < 256 ^ i) (hi : i < 8) : bits .or .u64 (n : Int) (IntKind.u64.wrap (IntKind.u64.wrap (x.toNat : Int) * 2 ^ (8 * i))) = ((n + 256 ^ i * x.toNat : Nat) : Int) := by
  have hx := x.toNat_lt
  have e256 : (256 : Nat) ^ i = 2 ^ (8 * i) := by rw [Nat.pow_mul]
  have h8 : 2 ^ (8 * i) ≤ 2 ^ 56 := Nat.pow_le_pow_right (by omega) (by omega)
  have e1 : IntKind.u64.wrap (x.toNat : Int) = (x.toNat : Int) := by rw [IntKind.wrap_u64]; omega
  have e2 : (x.toNat : Int) * 2 ^ (8 * i) = ((x.toNat * 2 ^ (8 * i) : Nat) : Int) := by push_cast; rfl
  have h9 : x.toNat * 2 ^ (8 * i) < 18446744073709551616 := Nat.lt_of_le_of_lt (Nat.mul_le_mul (Nat.le_of_lt_succ hx) h8) (by decide)
  rw [e1, e2, IntKind.wrap_u64]
  have e3 : ((x.toNat * 2 ^ (8 * i) : Nat) : Int) % 18446744073709551616 = ((x.toNat * 2 ^ (8 * i) : Nat) : Int) := by omega
  rw [e3, bits_or_u64_nat _ _ (by omega) h9, or_le _ _ _ (by omega), e256]
/-- What a reader has and where it lies. -/
structure Rs (lo hi r : Nat) (b : Value) (B : List UInt8) (w : World) (p : Nat) (m e : Int) : Prop where
  rx : Rx w r b (p : Int) m e
  row : Row lo hi w b B.length (bv B)
  le : p ≤ B.length
  big : B.length ≤ 1000000000
  off : r < lo ∨ hi ≤ r
  hi : hi ≤ w.heap.size
theorem Rs.form {lo hi r : Nat} {b : Value} {B : List UInt8} {w : World} {p : Nat} {m e : Int} (h : Rs lo hi r b B w p m e) : ∃ a c, b = .slice a B.length c ∧ B.length ≤ c := by
  obtain ⟨a, c, e, h1, _⟩ := h.row
  exact ⟨a, c, e, h1⟩
theorem Rs.step {lo hi r : Nat} {b : Value} {B : List UInt8} {w w' : World} {p p' : Nat} {m m' e e' : Int} (h : Rs lo hi r b B w p m e) (hs : Sole r w w') (hx : Rx w' r b (p' : Int) m' e') (hp : p' ≤ B.length) : Rs lo hi r b B w' p' m' e' :=
  ⟨hx, h.row.same (fun k h1 h2 => hs.block k (by have := h.hi; omega) (by have := h.off; omega)), hp, h.big, h.off, Nat.le_trans h.hi hs.size⟩
/-- What stands of a row in a piece of it. -/
theorem Rs.piece {lo hi r : Nat} {b v : Value} {B : List UInt8} {w : World} {p i n : Nat} {m e : Int} (h : Rs lo hi r b B w p m e) (hp : Piece b v i n) : Row lo hi w v n (bv ((B.drop i).take n)) := by
  obtain ⟨a, a1, N, c, d, rfl, rfl, h1, h2, h3⟩ := hp
  obtain ⟨a', c', e, h4⟩ := h.form
  cases e
  have := h3 lo hi w (bv B) (bv_length B) h.row
  unfold bv at *
  rwa [← List.map_drop, ← List.map_take] at this
/-- What reading bytes leaves behind: of what was there only the reader has changed. -/
def Err (lo hi r : Nat) (b : Value) (B : List UInt8) (w : World) (m E : Int) : Prop := E ≠ 0 ∧ ∃ p, Rs lo hi r b B w p m E
theorem take_rs (lo hi r : Nat) (b : Value) (B : List UInt8) (w : World) (p n : Nat) (m e : Int) (h : Rs lo hi r b B w p m e) (hn : n ≤ 1000000000) :
    Calls Try.prog 95 #[.pointer (some ⟨r, 0, none⟩), .int .i64 (n : Int)] w fun x w' => ∃ v, x = .returned v ∧ Sole r w w' ∧
      ((e = 0 ∧ p + n ≤ B.length ∧ Rs lo hi r b B w' (p + n) m 0 ∧ Piece b v p n) ∨
       (¬ (e = 0 ∧ p + n ≤ B.length) ∧ v = .slice none 0 0 ∧ Rs lo hi r b B w' p m (orE e 2))) := by
  obtain ⟨a, c, rfl, hc⟩ := h.form
  refine (take_any r a B.length c p n m e w h.rx hc h.le h.big hn).mono ?_
  rintro x w' ⟨v, rfl, hs, hh⟩
  refine ⟨v, rfl, hs, ?_⟩
  rcases hh with ⟨h1, h2, h3, h4⟩ | ⟨h1, h2, h3⟩
  · exact .inl ⟨h1, h2, h.step hs h3 h2, h4⟩
  · exact .inr ⟨h1, h2, h.step hs h3 h.le⟩
/-- What length answers. -/
def LenA (lo hi r : Nat) (b : Value) (B : List UInt8) (w : World) (p : Nat) (m e : Int) (L : List UInt8) (x : Ending) (w' : World) : Prop :=
  ∃ n : Nat, x = .returned (.int .i64 (n : Int)) ∧ Sole r w w' ∧
      ((e = 0 ∧ p + 8 ≤ B.length ∧ n = leN L ∧ n ≤ 2097152 ∧ Rs lo hi r b B w' (p + 8) m 0) ∨
       (e = 0 ∧ p + 8 ≤ B.length ∧ n = 0 ∧ 2097152 < leN L ∧ Rs lo hi r b B w' (p + 8) m 3) ∨
       (¬ (e = 0 ∧ p + 8 ≤ B.length) ∧ n = 0 ∧ Rs lo hi r b B w' p m (orE e 2)))
set_option maxRecDepth 20000 in
set_option maxHeartbeats 1000000 in
theorem length_any (lo hi r : Nat) (b : Value) (B : List UInt8) (w : World) (p : Nat) (m e : Int) (h : Rs lo hi r b B w p m e) :
    Calls Try.prog 94 #[.pointer (some ⟨r, 0, none⟩)] w (LenA lo hi r b B w p m e ((B.drop p).take 8)) := by
  have HT := hide (take_rs lo hi r b B w p 8 m e h (by omega))
  have HR := hide h
  obtain ⟨L, hL⟩ : ∃ L, L = (B.drop p).take 8 := ⟨_, rfl⟩
  rw [← hL]
  have HL := hide hL
  clear h hL
  go_enter Try.func94, Try.ntmps94
  go_wp2_with fail
  refine (unhide HT).mono ?_
  rintro x w1 ⟨v, rfl, hs, hh⟩
  rcases hh with ⟨rfl, h2, h3, h4⟩ | ⟨h1, rfl, h3⟩
  · have hl8 : L.length = 8 := by rw [unhide HL]; simp; omega
    have hrow := h3.piece h4
    rw [← unhide HL] at hrow
    obtain ⟨_, a1, _, _, d, rfl, rfl, hd, _, _⟩ := h4
    obtain ⟨g, o, rfl, _, _, hcell⟩ := hrow.at (by omega)
    have H8 := hide hl8
    have hcs : ∀ i, i < 8 → ∃ x : UInt8, L[i]? = some x ∧ w1.cell? ⟨g, o + i, none⟩ = some (.int .u8 (x.toNat : Int)) := by
      intro i hi
      have hx : L[i]? = some L[i] := List.getElem?_eq_getElem (by omega)
      exact ⟨_, hx, hcell i _ (by unfold bv; rw [List.getElem?_map, hx]; rfl)⟩
    have HC := hide hcs
    have HZ := hide (And.intro hs h3)
    clear hs h3 hrow hcell hcs
    go_wp2_with fail
    go_loopw [9, 3] (fun vi vn wr => ∃ i : Nat, i ≤ 8 ∧ vi = .int .i64 (i : Int) ∧ vn = .int .u64 ((leN (L.take i) : Nat) : Int) ∧ wr = w1) (fun vi _ _ => 8 - (intOf vi).toNat)
    case atStart => exact ⟨0, by omega, rfl, rfl, rfl⟩
    case round =>
      obtain ⟨i, hi, rfl, rfl, rfl⟩ := hrel
      by_cases hlt : i < 8
      · obtain ⟨x, hx, hxc⟩ := unhide HC i hlt
        have hn := leN_lt (L.take i)
        have hl : (L.take i).length = i := by rw [List.length_take, unhide H8]; omega
        rw [hl] at hn
        have hq := bits_le _ i x hn hlt
        have hsn : leN (L.take (i + 1)) = leN (L.take i) + 256 ^ i * x.toNat := by
          rw [List.take_add_one, hx, Option.toList_some, leN_snoc, hl]
        rw [← hsn] at hq
        have HQ := hide hq
        clear hq hn hsn hl hx
        go_wp2_with fail
        go_roundw
        case rel => exact ⟨i + 1, by omega, by go_num, by rw [unhide HQ], by trivial⟩
        case measure => simp [intOf]; try omega
      · obtain rfl : i = 8 := by omega
        have hlen : leN (L.take 8) = leN L := by rw [List.take_of_length_le (by rw [unhide H8]; omega)]
        rw [hlen]
        have hlt64 : leN L < 18446744073709551616 := by have := leN_lt L; rw [unhide H8] at this; simpa using this
        clear hlen
        by_cases hbig : leN L ≤ 2097152
        · go_wp2_with fail
          go_ret
          exact ⟨leN L, rfl, (unhide HZ).1, .inl ⟨rfl, h2, rfl, hbig, (unhide HZ).2⟩⟩
        · go_wp2_with fail
          refine (fail_any r _ _ m 0 3 _ (unhide HZ).2.rx).mono ?_
          rintro x w2 ⟨rfl, hs2, hr2⟩
          have HY := hide (And.intro ((unhide HZ).1.trans hs2) ((unhide HZ).2.step hs2 hr2 h2))
          clear hs2 hr2
          go_wp2_with fail
          go_ret
          exact ⟨0, rfl, (unhide HY).1, .inr (.inl ⟨rfl, h2, rfl, by omega, (unhide HY).2⟩)⟩
  · have HZ := hide (And.intro hs h3)
    clear hs h3
    go_wp2_with fail
    go_loopw [9, 3] (fun vi vn wr => vi = .int .i64 0 ∧ vn = .int .u64 0 ∧ wr = w1) (fun _ _ _ => 0)
    case atStart => exact ⟨rfl, rfl, rfl⟩
    case round =>
      obtain ⟨rfl, rfl, rfl⟩ := hrel
      go_wp2_with fail
      go_ret
      exact ⟨0, rfl, (unhide HZ).1, .inr (.inr ⟨h1, rfl, (unhide HZ).2⟩)⟩
end Go.Proofs.Ytikamklgelcnhaa
/- The reader's text. -/
namespace Go.Proofs.Ytikamklgelcnhaa
open Go.RowKit
set_option linter.unusedSimpArgs false
theorem piece_lo {b : Value} {a1 : Option Addr} {i n d k : Nat} (h : Piece b (.slice a1 n d) i n) (hk : k ≤ n) : ∃ a2, (∀ w, (sl22 (.slice a1 n d) (some (.int .i64 (k : Int))) none none).run Try.prog w = .ok (.slice a2 (n - k) (d - k)) w) ∧ Piece b (.slice a2 (n - k) (d - k)) (i + k) (n - k) := by
  obtain ⟨a, _, N, c, _, rfl, he, h1, h2, h3⟩ := h
  cases he
  refine ⟨if d = k then a1 else a1.map (·.add (k * 1)), fun w => ?_, a, _, N, c, d - k, rfl, rfl, by omega, by omega, fun lo hi w xs hx hr => ?_⟩
  · unfold sl22
    rw [run_slice_l w 22 a1 n d ht22' .i64 (k : Int) (by omega) (by omega)]
    rw [elem22']
    simp [Try.sizeOf5, Result.andThen, sliced]
  · have := row_drop (size := 1) (h3 lo hi w xs hx hr) hk (if d = k then a1 else a1.map (·.add (k * 1))) (fun g o h e => by subst e; rw [if_neg (by omega)]; simp [addr_mid]) h1
    simp only [Nat.mul_one] at this ⊢
    rw [List.drop_take, List.drop_drop] at this
    exact this
theorem piece_hi {b : Value} {a1 : Option Addr} {i n d k : Nat} (h : Piece b (.slice a1 n d) i n) (hk : k ≤ n) : ∃ a2, (∀ w, (sl22 (.slice a1 n d) none (some (.int .i64 (k : Int))) none).run Try.prog w = .ok (.slice a2 k d) w) ∧ Piece b (.slice a2 k d) i k := by
  obtain ⟨a, _, N, c, _, rfl, he, h1, h2, h3⟩ := h
  cases he
  refine ⟨if d = 0 then a1 else a1.map (·.add (0 * 1)), fun w => ?_, a, _, N, c, d, rfl, rfl, by omega, by omega, fun lo hi w xs hx hr => ?_⟩
  · unfold sl22
    rw [run_slice_h w 22 a1 n d ht22' .i64 (k : Int) (by omega) (by omega)]
    rw [elem22']
    simp [Try.sizeOf5, Result.andThen, sliced]
  · have := row_take (size := 1) (h3 lo hi w xs hx hr) hk (if d = 0 then a1 else a1.map (·.add (0 * 1))) (fun g o e => by subst e; split <;> simp [addr_mid]) h1
    simp only [Nat.mul_one] at this ⊢
    rw [List.take_take, Nat.min_eq_left hk] at this
    exact this
/-- The next text's length, or the error. -/
def rdT (l : List UInt8) : Except Int Nat :=
  if l.length < 8 then .error 2
  else if 2097152 < leN (l.take 8) then .error 3
  else if l.length < 8 + leN (l.take 8) + padN (leN (l.take 8)) then .error 2
  else if ((l.drop (8 + leN (l.take 8))).take (padN (leN (l.take 8)))).all (· == 0) then .ok (leN (l.take 8)) else .error 3
/-- What text answers. -/
def TxA (lo hi r : Nat) (b : Value) (B : List UInt8) (w : World) (p : Nat) (m e : Int) (x : Ending) (w' : World) : Prop :=
  ∃ v, x = .returned v ∧ Sole r w w' ∧
    ((∃ n, e = 0 ∧ rdT (B.drop p) = .ok n ∧ Rs lo hi r b B w' (p + 8 + n + padN n) m 0 ∧ Piece b v (p + 8) n) ∨
     (∃ (E : Int) (p' : Nat), E ≠ 0 ∧ (e = 0 → rdT (B.drop p) = .error E) ∧ (e ≠ 0 → E = e) ∧ v = .slice none 0 0 ∧ Rs lo hi r b B w' p' m E))
attribute [local go_sem ↓] slice_sl22
/-- What is left of text, once the length is known and in bounds. -/
theorem rdT_short {l : List UInt8} (h : l.length < 8) : rdT l = .error 2 := by unfold rdT; rw [if_pos h]
theorem rdT_long {l : List UInt8} (h : 8 ≤ l.length) (h2 : 2097152 < leN (l.take 8)) : rdT l = .error 3 := by unfold rdT; rw [if_neg (by omega), if_pos h2]
theorem rdT_cut {l : List UInt8} {n : Nat} (h : 8 ≤ l.length) (hn : n = leN (l.take 8)) (h2 : n ≤ 2097152) (h3 : l.length < 8 + n + padN n) : rdT l = .error 2 := by subst hn; unfold rdT; rw [if_neg (by omega), if_neg (by omega), if_pos h3]
theorem rdT_ok {l : List UInt8} {n : Nat} (h : 8 ≤ l.length) (hn : n = leN (l.take 8)) (h2 : n ≤ 2097152) (h3 : 8 + n + padN n ≤ l.length) (h4 : ((l.drop (8 + n)).take (padN n)).all (· == 0) = true) : rdT l = .ok n := by subst hn; unfold rdT; rw [if_neg (by omega), if_neg (by omega), if_neg (by omega), if_pos h4]
theorem rdT_pad {l : List UInt8} {n : Nat} (h : 8 ≤ l.length) (hn : n = leN (l.take 8)) (h2 : n ≤ 2097152) (h3 : 8 + n + padN n ≤ l.length) (h4 : ¬ ((l.drop (8 + n)).take (padN n)).all (· == 0) = true) : rdT l = .error 3 := by subst hn; unfold rdT; rw [if_neg (by omega), if_neg (by omega), if_neg (by omega), if_neg h4]
set_option maxRecDepth 20000 in
set_option maxHeartbeats 1000000 in
theorem text_any (lo hi r : Nat) (b : Value) (B : List UInt8) (w : World) (p : Nat) (m e : Int) (h : Rs lo hi r b B w p m e) :
    Calls Try.prog 79 #[.pointer (some ⟨r, 0, none⟩)] w (TxA lo hi r b B w p m e) := by
  have HT := hide (length_any lo hi r b B w p m e h)
  have hBd : (B.drop p).length = B.length - p := List.length_drop
  have hle := h.le
  clear h
  go_enter Try.func79, Try.ntmps79
  go_wp2_with fail
  refine (unhide HT).mono ?_
  rintro x w1 ⟨n, rfl, hs, hh⟩
  have hn : n ≤ 2097152 := by rcases hh with ⟨_, _, _, h4, _⟩ | ⟨_, _, h3, _, _⟩ | ⟨_, h2, _⟩ <;> omega
  have hp7 : padN n ≤ 7 := by unfold padN; omega
  -- what the second take finds
  have HK : Hid (∃ (q : Nat) (E : Int), Rs lo hi r b B w1 q m E ∧ ((e = 0 ∧ E = 0 ∧ q = p + 8 ∧ p + 8 ≤ B.length ∧ n = leN ((B.drop p).take 8)) ∨ (E ≠ 0 ∧ (e = 0 → rdT (B.drop p) = .error E) ∧ (e ≠ 0 → E = e)))) := by
    rcases hh with ⟨h1, h2, h3, h4, h5⟩ | ⟨h1, h2, h3, h4, h5⟩ | ⟨h1, h2, h3⟩
    · exact ⟨p + 8, 0, h5, .inl ⟨h1, rfl, rfl, h2, h3⟩⟩
    · exact ⟨p + 8, 3, h5, .inr ⟨by omega, fun _ => rdT_long (by omega) h4, fun h => absurd h1 h⟩⟩
    · refine ⟨p, orE e 2, h3, .inr ⟨by unfold orE; split <;> omega, fun he => ?_, fun he => orE_ne he⟩⟩
      subst he
      rw [orE_zero]
      exact rdT_short (by simp at h1; omega)
  clear hh HT
  obtain ⟨q, E, hR, hc⟩ := unhide HK
  clear HK
  have HC := hide hc
  have HS := hide hs
  have HP := hide (padding_any n w1 (by omega))
  have HT2 := hide (take_rs lo hi r b B w1 q (n + padN n) m E hR (by omega))
  have HR := hide hR
  clear hR hs hc
  generalize hpn : padN n = k at *
  have HN := hide hpn
  clear hpn
  go_wp2_with fail
  refine (unhide HP).mono ?_
  rintro x w2 ⟨rfl, rfl⟩
  clear HP
  go_wp2_with fail
  rw [← Int.natCast_add]
  refine (unhide HT2).mono ?_
  rintro x w3 ⟨v, rfl, hs3, hh⟩
  clear HT2
  rcases hh with ⟨rfl, h2, h3, h4⟩ | ⟨h1, rfl, h3⟩
  · obtain ⟨c0, c1, c2, c3⟩ := h3.rx.cells
    have HC' : Hid (e = 0 ∧ q = p + 8 ∧ p + 8 ≤ B.length ∧ n = leN ((B.drop p).take 8)) := by
      rcases unhide HC with ⟨h5, _, h6, h7, h8⟩ | ⟨h5, _⟩
      · exact ⟨h5, h6, h7, h8⟩
      · exact absurd rfl h5
    obtain ⟨_, a1, _, _, d, _, rfl, hd, _, _⟩ := id h4
    obtain ⟨a2, hrun2, hP2⟩ := piece_lo h4 (k := n) (by omega)
    obtain ⟨a3, hrun3, hP3⟩ := piece_hi h4 (k := n) (by omega)
    rw [Nat.add_sub_cancel_left] at hrun2 hP2
    have hrow := h3.piece hP2
    obtain ⟨Pd, hPd⟩ : ∃ Pd, Pd = (B.drop (q + n)).take k := ⟨_, rfl⟩
    have hPl : Pd.length = k := by rw [hPd]; simp; omega
    rw [← hPd] at hrow
    have HA : Hid (0 < k → ∃ g o, a2 = some ⟨g, o, none⟩ ∧ ∀ i, i < k → ∃ x : UInt8, Pd[i]? = some x ∧ w3.cell? ⟨g, o + i, none⟩ = some (.int .u8 (x.toNat : Int))) := by
      intro hk
      obtain ⟨g, o, ha, _, _, hcell⟩ := hrow.at hk
      refine ⟨g, o, ha, fun i hi => ?_⟩
      have hx : Pd[i]? = some Pd[i] := List.getElem?_eq_getElem (by omega)
      exact ⟨_, hx, hcell i _ (by unfold bv; rw [List.getElem?_map, hx]; rfl)⟩
    have HB : Hid (Pd.length = k ∧ Pd = (B.drop (q + n)).take k) := ⟨hPl, hPd⟩
    have HZ := hide (And.intro ((unhide HS).trans hs3) h3)
    have H3 := hide hP3
    clear hs3 h3 hrow hPl hPd hP2 hP3 h4 HC HR
    go_wp2_with fail
    go_loopw [24] (fun vi wr => ∃ i : Nat, i ≤ k ∧ vi = .int .i64 (i : Int) ∧ wr = w3 ∧ Hid ((Pd.take i).all (· == 0) = true)) (fun vi _ => k - (intOf vi).toNat)
    case atStart => exact ⟨0, by omega, rfl, rfl, by show _ = _; simp⟩
    case round =>
      obtain ⟨i, hi, rfl, rfl, hz⟩ := hrel
      by_cases hlt : i < k
      · obtain ⟨g, o, ha, hc⟩ := unhide HA (by omega)
        obtain ⟨x, hx, hxc⟩ := hc i hlt
        clear hc hrun2
        subst ha
        by_cases hx0 : x = 0
        · subst hx0
          have H4 : Hid ((Pd.take (i + 1)).all (· == 0) = true) := by
            show _ = _
            rw [List.take_add_one, hx, List.all_append, unhide hz]; rfl
          clear hz hx
          have hxc' : wr.cell? ⟨g, o + i, none⟩ = some (.int .u8 0) := hxc
          clear hxc
          go_wp2_with fail
          go_roundw
          case rel => exact ⟨i + 1, by omega, by go_num, by trivial, unhide H4⟩
          case measure => simp [intOf]; try omega
        · have hxb : ((x.toNat : Int) == 0) = false := by
            rw [beq_eq_false_iff_ne]; intro h; exact hx0 (UInt8.toNat_inj.1 (by simpa using h))
          have HW : Hid (rdT (B.drop p) = .error 3) := by
            obtain ⟨h5, h6, h7, h8⟩ := unhide HC'
            have hk := unhide HN
            refine rdT_pad (by omega) h8 hn (by omega) ?_
            rw [hk, List.drop_drop, show p + (8 + n) = q + n by omega, ← (unhide HB).2]
            intro hall
            have := List.all_eq_true.1 hall x (List.mem_of_getElem? hx)
            exact hx0 (by simpa using this)
          clear hz hx
          go_wp2_with fail
          refine (fail_any r _ _ m 0 3 _ (unhide HZ).2.rx).mono ?_
          rintro x' w4 ⟨rfl, hs4, hr4⟩
          have HY := hide (And.intro ((unhide HZ).1.trans hs4) ((unhide HZ).2.step hs4 hr4 (unhide HZ).2.le))
          clear hs4 hr4
          go_wp2_with fail
          go_ret
          exact ⟨_, rfl, (unhide HY).1, .inr ⟨3, _, by omega, fun _ => unhide HW, fun he => absurd (unhide HC').1 he, rfl, (unhide HY).2⟩⟩
      · obtain rfl : k = i := by omega
        have HW : Hid (rdT (B.drop p) = .ok n) := by
          obtain ⟨h5, h6, h7, h8⟩ := unhide HC'
          have hk := unhide HN
          refine rdT_ok (by omega) h8 hn (by omega) ?_
          rw [hk, List.drop_drop, show p + (8 + n) = q + n by omega, ← (unhide HB).2]
          have := unhide hz
          rwa [List.take_of_length_le (by rw [(unhide HB).1]; omega)] at this
        go_wp2_with fail
        go_ret
        obtain ⟨h5, h6, h7, h8⟩ := unhide HC'
        subst h6
        refine ⟨_, rfl, (unhide HZ).1, .inl ⟨n, h5, unhide HW, ?_, unhide H3⟩⟩
        rw [unhide HN, Nat.add_assoc]
        exact (unhide HZ).2
  · obtain ⟨c0, c1, c2, c3⟩ := h3.rx.cells
    have hE : orE E 2 ≠ 0 := by unfold orE; split <;> omega
    have HZ : Hid (TxA lo hi r b B w p m e (.returned (.slice none 0 0)) w3) := by
      refine ⟨_, rfl, (unhide HS).trans hs3, .inr ⟨orE E 2, q, hE, fun he => ?_, fun he => ?_, rfl, h3⟩⟩
      · rcases unhide HC with ⟨h5, rfl, rfl, h6, h7⟩ | ⟨h5, h6, h7⟩
        · rw [orE_zero]
          have := unhide HN
          exact rdT_cut (by omega) h7 hn (by rw [this]; simp at h1; omega)
        · rw [orE_ne h5]; exact h6 he
      · rcases unhide HC with ⟨h5, rfl, rfl, h6, h7⟩ | ⟨h5, h6, h7⟩
        · exact absurd h5 he
        · rw [orE_ne h5]; exact h7 he
    generalize orE E 2 = F at *
    have hb : (F == 0) = false := by rw [beq_eq_false_iff_ne]; exact hE
    clear hs3 h3 h1
    go_wp2_with fail
    go_ret
    exact unhide HZ
end Go.Proofs.Ytikamklgelcnhaa
/- Bytes as a text. -/
namespace Go.Proofs.Ytikamklgelcnhaa
open Go.RowKit
def cv22 (v : Value) : Sem Value := convert 22 9 v
@[go_sem ↓] theorem convert_cv22 (v : Value) : convert 22 9 v = cv22 v := rfl
theorem push_fold (l : List UInt8) : ∀ r : ByteArray, (l.map (fun b => (b.toNat : Int))).foldl (fun r n => r.push (UInt8.ofNat n.toNat)) r = ⟨r.data ++ l.toArray⟩ := by
  induction l with
  | nil => intro r; simp
  | cons x l ih =>
    intro r
    rw [List.map_cons, List.foldl_cons, ih]
    simp [ByteArray.push]
theorem run_cv22 {lo hi : Nat} {w : World} {a : Option Addr} {c : Nat} {d : ByteArray} (h : Row lo hi w (.slice a d.size c) d.size (byteVals d)) : (cv22 (.slice a d.size c)).run Try.prog w = .ok (.string d) w := by
  unfold cv22
  rw [run_convert_bytes_string w 22 9 5 _ _ _ Try.underlying22 Try.underlying5 Try.underlying9]
  by_cases h0 : 0 < d.size
  · obtain ⟨b, rfl, hcell⟩ := h.src h0
    have hload : (loadCells b d.size).run Try.prog w = .ok ((d.data.toList.map (fun b => (b.toNat : Int))).map (Value.int .u8)).toArray w := by
      have := run_loadCells_list (P := Try.prog) w b ((d.data.toList.map (fun b => (b.toNat : Int))).map (Value.int .u8)) (fun j v hv => hcell j v (by rw [List.map_map] at hv; exact hv))
      simpa using this
    rw [run_bytesToString w _ d.size c _ hload, push_fold]
    simp [ByteArray.empty, ByteArray.emptyWithCapacity]
    cases d
    simp
    rfl
  · have hz : d.size = 0 := by omega
    obtain rfl : d = ⟨#[]⟩ := by
      cases d with
      | mk a => have : a = #[] := Array.eq_empty_of_size_eq_zero hz
                rw [this]
    cases a with
    | none => rfl
    | some x =>
      show (Conv.bytesToString (.slice (some x) 0 c)).run Try.prog w = _
      rw [run_bytesToString w _ 0 c [] rfl]; rfl
end Go.Proofs.Ytikamklgelcnhaa
/- The reader's state: an error, or how many bytes are read and how many nodes have begun. -/
namespace Go.Proofs.Ytikamklgelcnhaa
open Go.RowKit
set_option linter.unusedSimpArgs false
abbrev RS := Except Int (Nat × Nat)
/-- In the heap. -/
def Rst (lo hi r : Nat) (b : Value) (B : List UInt8) (w : World) : RS → Prop
  | .ok (p, m) => Rs lo hi r b B w p (m : Int) 0 ∧ m ≤ 65536
  | .error E => E ≠ 0 ∧ ∃ (p : Nat) (m : Int), Rs lo hi r b B w p m E
def failS (k : Int) : RS → RS
  | .ok _ => .error k
  | .error E => .error E
def txtS (B : List UInt8) : RS → RS × ByteArray
  | .error E => (.error E, ⟨#[]⟩)
  | .ok (p, m) => match rdT (B.drop p) with
    | .ok n => (.ok (p + 8 + n + padN n, m), ⟨((B.drop (p + 8)).take n).toArray⟩)
    | .error E => (.error E, ⟨#[]⟩)
/-- A text that is a piece of what was handed in. -/
def Tv (lo hi : Nat) (b v : Value) (B : List UInt8) (d : ByteArray) : Prop := ∀ w, Row lo hi w b B.length (bv B) → Row lo hi w v d.size (byteVals d)
theorem tv_nil (lo hi : Nat) (b : Value) (B : List UInt8) : Tv lo hi b (.slice none 0 0) B ⟨#[]⟩ := fun _ _ => ⟨none, 0, rfl, Nat.le_refl _, fun h => absurd h (by decide)⟩
theorem Rst.rs {lo hi r : Nat} {b : Value} {B : List UInt8} {w : World} {σ : RS} (h : Rst lo hi r b B w σ) : ∃ p m e, Rs lo hi r b B w p m e ∧ ((∃ k : Nat, e = 0 ∧ m = (k : Int) ∧ k ≤ 65536 ∧ σ = .ok (p, k)) ∨ (e ≠ 0 ∧ σ = .error e)) := by
  match σ, h with
  | .ok (p, m), h => exact ⟨p, m, 0, h.1, .inl ⟨m, rfl, rfl, h.2, rfl⟩⟩
  | .error E, ⟨h, p, m, k⟩ => exact ⟨p, m, E, k, .inr ⟨h, rfl⟩⟩
theorem Rst.row {lo hi r : Nat} {b : Value} {B : List UInt8} {w : World} {σ : RS} (h : Rst lo hi r b B w σ) : Row lo hi w b B.length (bv B) := by
  obtain ⟨p, m, e, k, _⟩ := h.rs; exact k.row
theorem Rst.lt {lo hi r : Nat} {b : Value} {B : List UInt8} {w : World} {σ : RS} (h : Rst lo hi r b B w σ) : r < w.heap.size := by
  obtain ⟨p, m, e, k, _⟩ := h.rs; exact k.rx.lt
theorem Rst.hi {lo hi r : Nat} {b : Value} {B : List UInt8} {w : World} {σ : RS} (h : Rst lo hi r b B w σ) : hi ≤ w.heap.size := by
  obtain ⟨p, m, e, k, _⟩ := h.rs; exact k.hi
theorem Rs.kept {lo hi r : Nat} {b : Value} {B : List UInt8} {w w' : World} {p : Nat} {m e : Int} (h : Rs lo hi r b B w p m e) {base : Nat} (hb : Below base w w') (h1 : r < base) (h2 : hi ≤ base) : Rs lo hi r b B w' p m e :=
  ⟨h.rx.kept hb h1, h.row.same (fun k _ hk => hb.block k (by omega)), h.le, h.big, h.off, Nat.le_trans h.hi hb.size⟩
theorem Rst.kept {lo hi r : Nat} {b : Value} {B : List UInt8} {w w' : World} {σ : RS} (h : Rst lo hi r b B w σ) {base : Nat} (hb : Below base w w') (h1 : r < base) (h2 : hi ≤ base) : Rst lo hi r b B w' σ := by
  match σ, h with
  | .ok (p, m), h => exact ⟨h.1.kept hb h1 h2, h.2⟩
  | .error E, ⟨h, p, m, k⟩ => exact ⟨h, p, m, k.kept hb h1 h2⟩
theorem fail_rst (lo hi r : Nat) (b : Value) (B : List UInt8) (w : World) (σ : RS) (k : Int) (hk : k ≠ 0) (h : Rst lo hi r b B w σ) :
    Calls Try.prog 60 #[.pointer (some ⟨r, 0, none⟩), .int .i64 k] w fun x w' => x = .returned (.tuple #[]) ∧ Sole r w w' ∧ Rst lo hi r b B w' (failS k σ) := by
  match σ, h with
  | .ok (p, m), ⟨h, _⟩ =>
    refine (fail_any r b p m 0 k w h.rx).mono ?_
    rintro x w' ⟨rfl, hs, hr⟩
    rw [orE_zero] at hr
    exact ⟨rfl, hs, hk, p, m, h.step hs hr h.le⟩
  | .error E, ⟨he, p, m, h⟩ =>
    refine (fail_any r b p m E k w h.rx).mono ?_
    rintro x w' ⟨rfl, hs, hr⟩
    rw [orE_ne he] at hr
    exact ⟨rfl, hs, he, p, m, h.step hs hr h.le⟩
theorem rdT_le {l : List UInt8} {n : Nat} (h : rdT l = .ok n) : 8 + n + padN n ≤ l.length := by
  unfold rdT at h
  split at h
  · cases h
  · split at h
    · cases h
    · split at h
      · cases h
      · split at h
        · cases h; omega
        · cases h
/-- What text answers, in the reader's state. -/
def TxR (lo hi r : Nat) (b : Value) (B : List UInt8) (w : World) (σ : RS) (x : Ending) (w' : World) : Prop :=
  ∃ a c, x = .returned (.slice a (txtS B σ).2.size c) ∧ Sole r w w' ∧ Rst lo hi r b B w' (txtS B σ).1 ∧ Tv lo hi b (.slice a (txtS B σ).2.size c) B (txtS B σ).2
theorem text_rst (lo hi r : Nat) (b : Value) (B : List UInt8) (w : World) (σ : RS) (h : Rst lo hi r b B w σ) :
    Calls Try.prog 79 #[.pointer (some ⟨r, 0, none⟩)] w (TxR lo hi r b B w σ) := by
  match σ, h with
  | .ok (p, m), ⟨h, hm⟩ =>
    refine (text_any lo hi r b B w p m 0 h).mono ?_
    rintro x w' ⟨v, rfl, hs, ⟨n, _, h2, h3, h4⟩ | ⟨E, p', h1, h2, h3, rfl, h5⟩⟩
    · have e1 : txtS B (.ok (p, m)) = (.ok (p + 8 + n + padN n, m), ⟨((B.drop (p + 8)).take n).toArray⟩) := by simp only [txtS, h2]
      unfold TxR
      rw [e1]
      have hl := rdT_le h2
      have hsz : (⟨((B.drop (p + 8)).take n).toArray⟩ : ByteArray).size = n := by
        show ((B.drop (p + 8)).take n).toArray.size = n
        rw [List.length_drop] at hl
        simp; omega
      obtain ⟨a, a1, N, c, d, rfl, rfl, h6, h7, h8⟩ := h4
      show ∃ a c, _ = Ending.returned (.slice a (ByteArray.size _) c) ∧ _
      obtain ⟨a', c', e, _⟩ := h.form
      cases e
      refine ⟨a1, d, by rw [hsz], hs, ⟨h3, hm⟩, fun W hW => ?_⟩
      show Row lo hi W (.slice a1 (ByteArray.size _) d) (ByteArray.size _) _
      rw [hsz]
      have := h8 lo hi W (bv B) (bv_length B) hW
      unfold bv at this
      rw [← List.map_drop, ← List.map_take] at this
      exact this
    · have e1 : txtS B (.ok (p, m)) = (.error E, ⟨#[]⟩) := by simp only [txtS, h2 rfl]
      unfold TxR
      rw [e1]
      exact ⟨none, 0, rfl, hs, ⟨h1, p', m, h5⟩, tv_nil _ _ _ _⟩
  | .error E, ⟨he, p, m, h⟩ =>
    refine (text_any lo hi r b B w p m E h).mono ?_
    rintro x w' ⟨v, rfl, hs, ⟨n, h1, _⟩ | ⟨E', p', h1, h2, h3, rfl, h5⟩⟩
    · exact absurd h1 he
    · obtain rfl := h3 he
      exact ⟨none, 0, rfl, hs, ⟨h1, p', m, h5⟩, tv_nil _ _ _ _⟩
def wantS (B : List UInt8) (σ : RS) (s : ByteArray) : RS := if (txtS B σ).2 = s then (txtS B σ).1 else failS 3 (txtS B σ).1
def wantsS (B : List UInt8) (σ : RS) (ts : List ByteArray) : RS := ts.foldl (wantS B) σ
def eitherS (B : List UInt8) (σ : RS) (f s : ByteArray) : RS × Bool := if (txtS B σ).2 = f then ((txtS B σ).1, true) else (wantS B σ s, false)
def beginS (deep : Nat) : RS → RS
  | .error E => .error E
  | .ok (p, m) => if 65536 < m + 1 ∨ 64 < deep then .error 5 else .ok (p, m + 1)
theorem tv_conv {lo hi r : Nat} {b : Value} {B : List UInt8} {w : World} {σ : RS} {a : Option Addr} {c : Nat} {d : ByteArray} (h : Rst lo hi r b B w σ) (hv : Tv lo hi b (.slice a d.size c) B d) : (cv22 (.slice a d.size c)).run Try.prog w = .ok (.string d) w := run_cv22 (hv w h.row)
end Go.Proofs.Ytikamklgelcnhaa
