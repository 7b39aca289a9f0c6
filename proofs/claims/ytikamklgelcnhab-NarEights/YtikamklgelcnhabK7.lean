import Derived.Test.YtikamklgelcnhabK6
import Derived.Test.YtikamklgelcnhabK4
import Derived.Test.YtikamklgelcnhabK5
import Derived.WalkKit
import Derived.ProofKit
import Derived.OpenShut
import Derived.ChangeOld
import Derived.SizedLaws
/- The same for a sink in one block. -/
namespace Go.Proofs.Ytikamklgelcnhab
open Go.RowKit
set_option linter.unusedSimpArgs false
/-- What writeNode does. -/
def NodeD (pc : Nat) (HK : World → Nat → List UInt8 → Prop) (c : Nat) (T : Tr) : Prop := ∀ (lo hi : Nat) (cs : List Value) (w : World) (v : Value) (xs : List UInt8), Lies lo hi w T cs → hi ≤ c → HasD HK c w v xs → xs.length + (nodeB T).length ≤ 10000000 → (nodeB T).length ≤ 960000 →
  Calls Try.prog 22 #[.agg cs.toArray, .func (Fn.func 14) #[] #[.pointer (some ⟨pc, 0, none⟩)]] w fun e w' => e = .returned (.tuple #[]) ∧ SkD HK c w v (xs ++ nodeB T) w'
set_option maxRecDepth 20000 in
set_option maxHeartbeats 4000000 in
theorem dwriteEntries_any {HK : World → Nat → List UInt8 → Prop} {pc : Nat} (hSK : SinkD pc HK) (c : Nat) (k : Int) (x : Bool) (d : ByteArray) (ns : List ByteArray) (ks : List Tr) (ih : ∀ t ∈ ks, NodeD pc HK c t) (lo hi : Nat) (cs : List Value) (w : World) (v : Value) (xs : List UInt8) (hL : Lies lo hi w (.mk k x d ns ks) cs) (hhi : hi ≤ c) (hS : HasD HK c w v xs) (hle : ns.length = ks.length) (hNm : ns.length ≤ 100000) (hmax : xs.length + (entsB ns ks).length ≤ 10000000) (hm2 : (entsB ns ks).length ≤ 960000) :
    Calls Try.prog 37 #[.agg cs.toArray, .func (Fn.func 14) #[] #[.pointer (some ⟨pc, 0, none⟩)]] w fun e w' => e = .returned (.tuple #[]) ∧ SkD HK c w v (xs ++ entsB ns ks) w' := by
  have hcl := hS.ctr.lt
  have hown : ∀ g, v.ownBlock = some g → c + 1 ≤ g ∧ g < w.heap.size := fun g hg => owns_lt hS.row g hg
  cases hL with
  | mk _ _ _ _ _ vd vn vk Ks hl hd hn hk hK =>
  obtain ⟨ad, cd, rfl, hcd⟩ := hd.slice
  obtain ⟨an, cn, rfl, hcn⟩ := hn.slice
  obtain ⟨ak, ck, rfl, hck⟩ := hk.slice
  obtain ⟨N, hN⟩ : ∃ N, ns.length = N := ⟨_, rfl⟩
  have hNk : ks.length = N := by omega
  rw [hN] at hn hcn hNm ⊢
  rw [hNk] at hk hck ⊢
  obtain ⟨W0, hW0⟩ : ∃ W0, W0 = w.alloc (.cells #[.int .i64 k, .bool x, .slice ad d.size cd, .slice an N cn, .slice ak N ck] 26) := ⟨_, rfl⟩
  have hb0 : Below w.heap.size w W0 := by rw [hW0]; exact (Below.refl _ _).alloc (Nat.le_refl _) _
  have hs0 : W0.heap.size = w.heap.size + 1 := by rw [hW0]; simp
  have hx0 : Bx W0 w.heap.size (.int .i64 k) (.bool x) (.slice ad d.size cd) (.slice an N cn) (.slice ak N ck) := by rw [hW0]; exact bx_new _ _ _ _ _ _
  have hA0 : Dt HK c W0 W0 v v xs := ⟨Gt.of_below v (Below.refl _ _), hS.kept' hSK hb0⟩
  have HW0 := hide hW0
  have HG0 : Hid (Gt c w W0 v v) := Gt.of_below v hb0
  have HA0 := hide (And.intro hA0 hx0)
  have HT := hide (And.intro (hn.below hb0 (by omega)) (And.intro (hk.below hb0 (by omega)) (And.intro hl (fun i t c h1 h2 => (hK i t c h1 h2).kept hb0 (by omega)))))
  have HM := hide (And.intro hmax (And.intro hm2 (And.intro hN hNk)))
  have HIH := hide ih
  have HO := hide hown
  clear hW0 hb0 hx0 hA0 hS hd hn hk hl hK hmax hm2 ih hown hN hNk hle
  go_enter Try.func37, Try.ntmps37
  go_wp2_with fail
  rw [← unhide HW0]
  go_loopw [9] (fun vi wr => ∃ (i : Nat) (v' : Value), i ≤ N ∧ vi = .int .i64 (i : Int) ∧ Hid (Dt HK c W0 wr v v' (xs ++ entsB (ns.take i) (ks.take i))) ∧ Bx wr w.heap.size (.int .i64 k) (.bool x) (.slice ad d.size cd) (.slice an N cn) (.slice ak N ck)) (fun vi _ => N - (intOf vi).toNat)
  case atStart => exact ⟨0, v, by omega, rfl, by show Dt HK _ _ _ _ _ _; rw [List.take_zero, entsB_nil, List.append_nil]; exact (unhide HA0).1, (unhide HA0).2⟩
  case round =>
    obtain ⟨i, v', hiN, rfl, hA, hB⟩ := hrel
    obtain ⟨hmax, hm2, hN, hNk⟩ := unhide HM
    have hsr := (unhide hA).g.size
    by_cases hlt : i < N
    · have hi1 : i < ns.length := by omega
      have hi2 : i < ks.length := by omega
      have htk := entsB_take hi1 hi2
      have hle1 := entsB_le ns ks (i + 1)
      rw [htk] at hle1
      simp only [List.length_append] at hle1
      have hvo : ∀ g, v.ownBlock = some g → g < lo ∨ hi ≤ g := fun g hg => by have := (unhide HO g hg).1; omega
      have hnr := (unhide hA).g.row (unhide HT).1 (by omega) (.inr hhi) hvo
      obtain ⟨g, o, rfl, hcx⟩ := row_strX hnr hN i hlt
      have hgl : g < wr.heap.size := cell_lt hcx
      have hL1 := hide (dlits_any hSK c [⟨#[101, 110, 116, 114, 121]⟩, ⟨#[40]⟩, ⟨#[110, 97, 109, 101]⟩, ns.getD i ⟨#[]⟩, ⟨#[110, 111, 100, 101]⟩] W0 wr v v' _ (unhide hA) (by simp) (by
        show _ + (txs [wEntry, wOpen, wName, sB (ns.getD i ⟨#[]⟩), wNode]).length ≤ _
        rw [List.length_append]; omega) (by
        show (txs [wEntry, wOpen, wName, sB (ns.getD i ⟨#[]⟩), wNode]).length ≤ _
        omega))
      obtain ⟨y0, y1, y2, y3, y4⟩ := hB.cells
      have hlB : w.heap.size < wr.heap.size := by omega
      have HTK := hide htk
      have HLE := hide hle1
      have HB := hide hB
      generalize hsi : ns.getD i ⟨#[]⟩ = s at *
      clear htk hle1 hnr hB hsi
      go_wp2_with fail
      refine (unhide hL1).mono ?_
      rintro e w1 ⟨rfl, v1, hA1, hg1⟩
      have hB1 := (unhide hA).box hg1 (fun g hg => (unhide HO g hg).2) (by omega) (by omega) (unhide HB)
      have hs1 := hg1.size
      have hkr := hA1.g.row (unhide HT).2.1 (by omega) (.inr hhi) hvo
      obtain ⟨gk, ok, eak, hgk1, hgk2, hcell⟩ := hkr.at (by omega)
      have hKr : ∀ (i : Nat) (t : Tr) (c' : List Value), ks[i]? = some t → Ks[i]? = some c' → Lies lo hi w1 t c' := fun i t c' h1 h2 => Lies.gt hA1.g ((unhide HT).2.2.2 i t c' h1 h2) hhi (by omega) (fun g hg => by have := (unhide HO g hg).1; omega)
      obtain ⟨k1, x1, b1, b2, b3, b4, b5, b6, b7, b8, b9, hLi, z0, z1, z2, z3, z4⟩ := kid_sl (unhide HT).2.2.1 hcell hKr i hi2
      have hlen0 : (xs ++ entsB (ns.take i) (ks.take i)).length = xs.length + (entsB (ns.take i) (ks.take i)).length := List.length_append
      have HI := hide (unhide HIH ks[i] (List.getElem_mem hi2) lo hi _ w1 v1 _ hLi hhi hA1.h (by
        have := unhide HLE
        rw [List.length_append, hlen0]
        show _ + (txs [wEntry, wOpen, wName, sB s, wNode]).length + _ ≤ _
        omega) (by have := unhide HLE; omega))
      obtain ⟨t0, t1, t2, t3, t4⟩ := hB1.cells
      have HA1 := hide hA1
      have HB1 := hide hB1
      subst eak
      have hgkl : gk < w1.heap.size := by omega
      clear hL1 hg1 hA1 hkr hcell hKr hLi hB1 y0 y1 y2 y3 y4 hcx hA HB
      generalize ks[i] = t at *
      go_wp2_with fail
      refine (unhide HI).mono ?_
      rintro e w2 ⟨rfl, hk2⟩
      obtain ⟨v2, hA2, hg2⟩ := (unhide HA1).step hk2
      have hB2 := (unhide HA1).box hg2 (fun g hg => (unhide HO g hg).2) (by omega) (by omega) (unhide HB1)
      have hL3 := hide (dlits_any hSK c [⟨#[41]⟩] W0 w2 v v2 _ hA2 (by simp) (by
        have := unhide HLE
        rw [List.length_append, List.length_append, hlen0]
        show _ + (txs [wEntry, wOpen, wName, sB s, wNode]).length + _ + (txs [wClose]).length ≤ _
        omega) (by show (txs [wClose]).length ≤ _; decide))
      have HA2 := hide (And.intro hA2 hB2)
      clear HI hk2 hA2 hg2 hB2 z0 z1 z2 z3 z4 t0 t1 t2 t3 t4 HB1
      go_wp2_with fail
      refine (unhide hL3).mono ?_
      rintro e w3 ⟨rfl, v3, hA3, hg3⟩
      have hB3 := (unhide HA2).1.box hg3 (fun g hg => (unhide HO g hg).2) (by omega) (by omega) (unhide HA2).2
      have HA3 : Hid (Dt HK c W0 w3 v v3 (xs ++ entsB (ns.take (i + 1)) (ks.take (i + 1)))) := by
        show Dt HK _ _ _ _ _ _
        rw [unhide HTK]
        have hA3' : Dt HK c W0 w3 v v3 (xs ++ entsB (ns.take i) (ks.take i) ++ txs [wEntry, wOpen, wName, sB s, wNode] ++ nodeB t ++ txs [wClose]) := hA3
        simpa only [List.append_assoc] using hA3'
      have HB3 := hide hB3
      clear hL3 hA3 hg3 hB3 HA2 HA1
      go_wp2_with fail
      go_roundw
      case rel => exact ⟨i + 1, v3, by omega, by go_num, unhide HA3, unhide HB3⟩
      case measure => simp [intOf]; try omega
    · obtain rfl : N = i := by omega
      have e1 : ns.take N = ns := List.take_of_length_le (by omega)
      have e2 : ks.take N = ks := List.take_of_length_le (by omega)
      rw [e1, e2] at hA
      have HE : Hid (SkD HK c w v (xs ++ entsB ns ks) wr) := SkD.trans (unhide HG0) ⟨v', (unhide hA).g, (unhide hA).h⟩
      clear hA e1 e2 hmax hm2
      go_wp2_with fail
      exact bodyPost_end (v := .tuple #[]) (by simp [results, Try.results37, go_sem]) rfl ⟨rfl, unhide HE⟩
set_option maxRecDepth 20000 in
set_option maxHeartbeats 8000000 in
theorem dwriteNode_any {HK : World → Nat → List UInt8 → Prop} {pc : Nat} (hSK : SinkD pc HK) (c : Nat) (T : Tr) : Nice T → wt T ≤ 100000 → NodeD pc HK c T := by
  induction T using Tr.ind with
  | h K x d ns ks ih =>
  intro hN hW lo hi cs w v xs hL hhi hS hmax hm2
  have hSm := small_of hW
  have hcl := hS.ctr.lt
  have hown : ∀ g, v.ownBlock = some g → c + 1 ≤ g ∧ g < w.heap.size := fun g hg => owns_lt hS.row g hg
  have HL := hide hL
  obtain ⟨hnk, hkn⟩ : ns.length = ks.length ∧ ∀ t ∈ ks, Nice t := by cases hN with | mk _ _ _ _ _ h1 h2 h3 => exact ⟨h2, h3⟩
  cases hL with
  | mk _ _ _ _ _ vd vn vk Ks hl hd hn hk hK =>
  obtain ⟨ad, cd, rfl, hcd⟩ := hd.slice
  obtain ⟨an, cn, rfl, hcn⟩ := hn.slice
  obtain ⟨ak, ck, rfl, hck⟩ := hk.slice
  obtain ⟨W0, hW0⟩ : ∃ W0, W0 = w.alloc (.cells #[.int .i64 K, .bool x, .slice ad d.size cd, .slice an ns.length cn, .slice ak ks.length ck] 26) := ⟨_, rfl⟩
  have hb0 : Below w.heap.size w W0 := by rw [hW0]; exact (Below.refl _ _).alloc (Nat.le_refl _) _
  have hs0 : W0.heap.size = w.heap.size + 1 := by rw [hW0]; simp
  have hx0 : Bx W0 w.heap.size (.int .i64 K) (.bool x) (.slice ad d.size cd) (.slice an ns.length cn) (.slice ak ks.length ck) := by rw [hW0]; exact bx_new _ _ _ _ _ _
  have hA0 : Dt HK c W0 W0 v v xs := ⟨Gt.of_below v (Below.refl _ _), hS.kept' hSK hb0⟩
  have HW0 := hide hW0
  have HG0 : Hid (Gt c w W0 v v) := Gt.of_below v hb0
  have HA0 := hide (And.intro hA0 hx0)
  have HD := hide (hd.below hb0 (by omega))
  have HE := hide (fun (W : World) (v' : Value) (ys : List UInt8) (g : Gt c W0 W v v') (h : HasD HK c W v' ys) => dwriteEntries_any hSK c K x d ns ks (fun t ht => ih t ht (hkn t ht) (hSm.t t ht)) lo hi _ W v' ys (Lies.gt g ((unhide HL).kept hb0 (by omega)) hhi (by omega) (fun g hg => by have := (hown g hg).1; omega)) hhi h hnk (by have := hSm.n; omega))
  have HO := hide hown
  have hvo : ∀ g, v.ownBlock = some g → g < lo ∨ hi ≤ g := fun g hg => by have := (hown g hg).1; omega
  have l1 : (txs [wOpen, wType]).length = 32 := by decide
  have l2 : (txs [wClose]).length = 16 := by decide
  have hWA : (W0.alloc (.cells #[.string ⟨#[40]⟩, .string ⟨#[116, 121, 112, 101]⟩] 9)) = (w.alloc (.cells #[.int .i64 K, .bool x, .slice ad d.size cd, .slice an ns.length cn, .slice ak ks.length ck] 26)).alloc (.cells #[.string ⟨#[40]⟩, .string ⟨#[116, 121, 112, 101]⟩] 9) := by rw [hW0]
  have HL1 := hide (dlits_any hSK c [⟨#[40]⟩, ⟨#[116, 121, 112, 101]⟩] W0 W0 v v _ hA0 (by simp) (by
    show _ + (txs [wOpen, wType]).length ≤ _
    rw [nodeB] at hmax
    simp only [List.length_append] at hmax
    omega) (by show (txs [wOpen, wType]).length ≤ _; omega))
  have HM := hide (And.intro hmax hm2)
  clear hN hW hSm hnk hkn hd hn hk hl hK hb0 hx0 hA0 hown ih hS hmax hm2
  rw [show W0.heap.size = w.heap.size + 1 from hs0] at HL1
  go_enter Try.func22, Try.ntmps22
  go_wp2_with fail
  rw [← unhide HW0]
  refine (unhide HL1).mono ?_
  rintro e w1 ⟨rfl, v1, hA, hg⟩
  have HA1 : Hid (Dt HK c W0 w1 v v1 (xs ++ txs [wOpen, wType]) ∧ Bx w1 w.heap.size (.int .i64 K) (.bool x) (.slice ad d.size cd) (.slice an ns.length cn) (.slice ak ks.length ck)) := ⟨hA, (unhide HA0).1.box hg (fun g hg => (unhide HO g hg).2) (by omega) (by omega) (unhide HA0).2⟩
  have hs1 := hg.size
  clear HL1 hA hg hW0 hWA HW0
  by_cases hk1 : K = 1
  case pos =>
    subst hk1
    have l3 : (txs [wReg]).length = 16 := by decide
    have l4 : (txs [wCont]).length = 16 := by decide
    have l5 : (txs [wExec, []]).length = 32 := by decide
    cases x
    case true =>
      have hnb : nodeB (.mk 1 true d ns ks) = txs [wOpen, wType] ++ (txs [wReg] ++ txs [wExec, []] ++ txs [wCont] ++ tx (sB d)) ++ txs [wClose] := by rw [nodeB, if_pos rfl]; rfl
      obtain ⟨hmax, hm2⟩ := unhide HM
      rw [hnb] at hmax hm2
      simp only [List.length_append, List.length_nil] at hmax hm2
      have HNB := hide hnb
      clear hnb HM
      obtain ⟨y0, y1, y2, y3, y4⟩ := (unhide HA1).2.cells
      have HX := hide (dlits_any hSK c [⟨#[114, 101, 103, 117, 108, 97, 114]⟩] W0 w1 v v1 _ (unhide HA1).1 (by simp) (by
        show _ + (txs [wReg]).length ≤ _
        simp only [List.length_append]
        omega) (by show (txs [wReg]).length ≤ _; omega))
      go_wp2_with fail
      refine (unhide HX).mono ?_
      rintro e w2 ⟨rfl, v2, hA, hg⟩
      have HA2 : Hid (Dt HK c W0 w2 v v2 (xs ++ txs [wOpen, wType] ++ txs [wReg]) ∧ Bx w2 w.heap.size (.int .i64 1) (.bool true) (.slice ad d.size cd) (.slice an ns.length cn) (.slice ak ks.length ck)) := ⟨hA, (unhide HA1).1.box hg (fun g hg => (unhide HO g hg).2) (by omega) (by omega) (unhide HA1).2⟩
      have hs2 := hg.size
      clear HX hA hg HA1 y0 y1 y2 y3 y4
      obtain ⟨y0, y1, y2, y3, y4⟩ := (unhide HA2).2.cells
      have HX := hide (dlits_any hSK c [⟨#[101, 120, 101, 99, 117, 116, 97, 98, 108, 101]⟩, ⟨#[]⟩] W0 w2 v v2 _ (unhide HA2).1 (by simp) (by
        show _ + (txs [wExec, []]).length ≤ _
        simp only [List.length_append]
        omega) (by show (txs [wExec, []]).length ≤ _; omega))
      go_wp2_with fail
      refine (unhide HX).mono ?_
      rintro e w3 ⟨rfl, v3, hA, hg⟩
      have HA3 : Hid (Dt HK c W0 w3 v v3 (xs ++ txs [wOpen, wType] ++ txs [wReg] ++ txs [wExec, []]) ∧ Bx w3 w.heap.size (.int .i64 1) (.bool true) (.slice ad d.size cd) (.slice an ns.length cn) (.slice ak ks.length ck)) := ⟨hA, (unhide HA2).1.box hg (fun g hg => (unhide HO g hg).2) (by omega) (by omega) (unhide HA2).2⟩
      have hs3 := hg.size
      clear HX hA hg HA2 y0 y1 y2 y3 y4
      obtain ⟨y0, y1, y2, y3, y4⟩ := (unhide HA3).2.cells
      have HX := hide (dlits_any hSK c [⟨#[99, 111, 110, 116, 101, 110, 116, 115]⟩] W0 w3 v v3 _ (unhide HA3).1 (by simp) (by
        show _ + (txs [wCont]).length ≤ _
        simp only [List.length_append]
        omega) (by show (txs [wCont]).length ≤ _; omega))
      go_wp2_with fail
      refine (unhide HX).mono ?_
      rintro e w4 ⟨rfl, v4, hA, hg⟩
      have HA4 : Hid (Dt HK c W0 w4 v v4 (xs ++ txs [wOpen, wType] ++ txs [wReg] ++ txs [wExec, []] ++ txs [wCont]) ∧ Bx w4 w.heap.size (.int .i64 1) (.bool true) (.slice ad d.size cd) (.slice an ns.length cn) (.slice ak ks.length ck)) := ⟨hA, (unhide HA3).1.box hg (fun g hg => (unhide HO g hg).2) (by omega) (by omega) (unhide HA3).2⟩
      have hs4 := hg.size
      clear HX hA hg HA3 y0 y1 y2 y3 y4
      obtain ⟨y0, y1, y2, y3, y4⟩ := (unhide HA4).2.cells
      have HX := hide (dwriteData_any hSK c v4 _ (sB d) lo hi ad d.size cd w4 (unhide HA4).1.h ((unhide HA4).1.g.row (unhide HD) (by omega) (.inr hhi) hvo) rfl hhi (by simp only [List.length_append]; omega))
      go_wp2_with fail
      refine (unhide HX).mono ?_
      rintro e w5 ⟨rfl, hk⟩
      obtain ⟨v5, hA, hg⟩ := (unhide HA4).1.step hk
      clear hk
      have HA5 : Hid (Dt HK c W0 w5 v v5 (xs ++ txs [wOpen, wType] ++ txs [wReg] ++ txs [wExec, []] ++ txs [wCont] ++ tx (sB d)) ∧ Bx w5 w.heap.size (.int .i64 1) (.bool true) (.slice ad d.size cd) (.slice an ns.length cn) (.slice ak ks.length ck)) := ⟨hA, (unhide HA4).1.box hg (fun g hg => (unhide HO g hg).2) (by omega) (by omega) (unhide HA4).2⟩
      have hs5 := hg.size
      clear HX hA hg HA4 y0 y1 y2 y3 y4
      obtain ⟨y0, y1, y2, y3, y4⟩ := (unhide HA5).2.cells
      have HX := hide (dlits_any hSK c [⟨#[41]⟩] W0 w5 v v5 _ (unhide HA5).1 (by simp) (by
        show _ + (txs [wClose]).length ≤ _
        simp only [List.length_append]
        omega) (by show (txs [wClose]).length ≤ _; omega))
      go_wp2_with fail
      refine (unhide HX).mono ?_
      rintro e w6 ⟨rfl, v6, hA, hg⟩
      have HA6 : Hid (Dt HK c W0 w6 v v6 (xs ++ txs [wOpen, wType] ++ txs [wReg] ++ txs [wExec, []] ++ txs [wCont] ++ tx (sB d) ++ txs [wClose]) ∧ Bx w6 w.heap.size (.int .i64 1) (.bool true) (.slice ad d.size cd) (.slice an ns.length cn) (.slice ak ks.length ck)) := ⟨hA, (unhide HA5).1.box hg (fun g hg => (unhide HO g hg).2) (by omega) (by omega) (unhide HA5).2⟩
      have hs6 := hg.size
      clear HX hA hg HA5 y0 y1 y2 y3 y4
      have HZ : Hid (SkD HK c w v (xs ++ nodeB (.mk 1 true d ns ks)) w6) := by
        have h := SkD.trans (unhide HG0) ⟨v6, (unhide HA6).1.g, (unhide HA6).1.h⟩
        show SkD HK _ _ _ _ _
        rw [unhide HNB]
        simpa only [List.append_assoc, List.nil_append, List.append_nil] using h
      clear HA6
      go_wp2_with fail
      exact bodyPost_end (v := .tuple #[]) (by simp [results, Try.results22, go_sem]) rfl ⟨rfl, unhide HZ⟩
    case false =>
      have hnb : nodeB (.mk 1 false d ns ks) = txs [wOpen, wType] ++ (txs [wReg] ++ [] ++ txs [wCont] ++ tx (sB d)) ++ txs [wClose] := by rw [nodeB, if_pos rfl]; rfl
      obtain ⟨hmax, hm2⟩ := unhide HM
      rw [hnb] at hmax hm2
      simp only [List.length_append, List.length_nil] at hmax hm2
      have HNB := hide hnb
      clear hnb HM
      obtain ⟨y0, y1, y2, y3, y4⟩ := (unhide HA1).2.cells
      have HX := hide (dlits_any hSK c [⟨#[114, 101, 103, 117, 108, 97, 114]⟩] W0 w1 v v1 _ (unhide HA1).1 (by simp) (by
        show _ + (txs [wReg]).length ≤ _
        simp only [List.length_append]
        omega) (by show (txs [wReg]).length ≤ _; omega))
      go_wp2_with fail
      refine (unhide HX).mono ?_
      rintro e w2 ⟨rfl, v2, hA, hg⟩
      have HA2 : Hid (Dt HK c W0 w2 v v2 (xs ++ txs [wOpen, wType] ++ txs [wReg]) ∧ Bx w2 w.heap.size (.int .i64 1) (.bool false) (.slice ad d.size cd) (.slice an ns.length cn) (.slice ak ks.length ck)) := ⟨hA, (unhide HA1).1.box hg (fun g hg => (unhide HO g hg).2) (by omega) (by omega) (unhide HA1).2⟩
      have hs2 := hg.size
      clear HX hA hg HA1 y0 y1 y2 y3 y4
      obtain ⟨y0, y1, y2, y3, y4⟩ := (unhide HA2).2.cells
      have HX := hide (dlits_any hSK c [⟨#[99, 111, 110, 116, 101, 110, 116, 115]⟩] W0 w2 v v2 _ (unhide HA2).1 (by simp) (by
        show _ + (txs [wCont]).length ≤ _
        simp only [List.length_append]
        omega) (by show (txs [wCont]).length ≤ _; omega))
      go_wp2_with fail
      refine (unhide HX).mono ?_
      rintro e w3 ⟨rfl, v3, hA, hg⟩
      have HA3 : Hid (Dt HK c W0 w3 v v3 (xs ++ txs [wOpen, wType] ++ txs [wReg] ++ txs [wCont]) ∧ Bx w3 w.heap.size (.int .i64 1) (.bool false) (.slice ad d.size cd) (.slice an ns.length cn) (.slice ak ks.length ck)) := ⟨hA, (unhide HA2).1.box hg (fun g hg => (unhide HO g hg).2) (by omega) (by omega) (unhide HA2).2⟩
      have hs3 := hg.size
      clear HX hA hg HA2 y0 y1 y2 y3 y4
      obtain ⟨y0, y1, y2, y3, y4⟩ := (unhide HA3).2.cells
      have HX := hide (dwriteData_any hSK c v3 _ (sB d) lo hi ad d.size cd w3 (unhide HA3).1.h ((unhide HA3).1.g.row (unhide HD) (by omega) (.inr hhi) hvo) rfl hhi (by simp only [List.length_append]; omega))
      go_wp2_with fail
      refine (unhide HX).mono ?_
      rintro e w4 ⟨rfl, hk⟩
      obtain ⟨v4, hA, hg⟩ := (unhide HA3).1.step hk
      clear hk
      have HA4 : Hid (Dt HK c W0 w4 v v4 (xs ++ txs [wOpen, wType] ++ txs [wReg] ++ txs [wCont] ++ tx (sB d)) ∧ Bx w4 w.heap.size (.int .i64 1) (.bool false) (.slice ad d.size cd) (.slice an ns.length cn) (.slice ak ks.length ck)) := ⟨hA, (unhide HA3).1.box hg (fun g hg => (unhide HO g hg).2) (by omega) (by omega) (unhide HA3).2⟩
      have hs4 := hg.size
      clear HX hA hg HA3 y0 y1 y2 y3 y4
      obtain ⟨y0, y1, y2, y3, y4⟩ := (unhide HA4).2.cells
      have HX := hide (dlits_any hSK c [⟨#[41]⟩] W0 w4 v v4 _ (unhide HA4).1 (by simp) (by
        show _ + (txs [wClose]).length ≤ _
        simp only [List.length_append]
        omega) (by show (txs [wClose]).length ≤ _; omega))
      go_wp2_with fail
      refine (unhide HX).mono ?_
      rintro e w5 ⟨rfl, v5, hA, hg⟩
      have HA5 : Hid (Dt HK c W0 w5 v v5 (xs ++ txs [wOpen, wType] ++ txs [wReg] ++ txs [wCont] ++ tx (sB d) ++ txs [wClose]) ∧ Bx w5 w.heap.size (.int .i64 1) (.bool false) (.slice ad d.size cd) (.slice an ns.length cn) (.slice ak ks.length ck)) := ⟨hA, (unhide HA4).1.box hg (fun g hg => (unhide HO g hg).2) (by omega) (by omega) (unhide HA4).2⟩
      have hs5 := hg.size
      clear HX hA hg HA4 y0 y1 y2 y3 y4
      have HZ : Hid (SkD HK c w v (xs ++ nodeB (.mk 1 false d ns ks)) w5) := by
        have h := SkD.trans (unhide HG0) ⟨v5, (unhide HA5).1.g, (unhide HA5).1.h⟩
        show SkD HK _ _ _ _ _
        rw [unhide HNB]
        simpa only [List.append_assoc, List.nil_append, List.append_nil] using h
      clear HA5
      go_wp2_with fail
      exact bodyPost_end (v := .tuple #[]) (by simp [results, Try.results22, go_sem]) rfl ⟨rfl, unhide HZ⟩
  have e1 : (K == 1) = false := by simpa using hk1
  by_cases hk3 : K = 3
  case pos =>
    subst hk3
    have l3 : (txs [wSym, wTarg]).length = 32 := by decide
    have hnb : nodeB (.mk 3 x d ns ks) = txs [wOpen, wType] ++ (txs [wSym, wTarg] ++ tx (sB d)) ++ txs [wClose] := by rw [nodeB, if_neg (by decide), if_pos rfl]
    obtain ⟨hmax, hm2⟩ := unhide HM
    rw [hnb] at hmax hm2
    simp only [List.length_append, List.length_nil] at hmax hm2
    have HNB := hide hnb
    clear hnb HM
    obtain ⟨y0, y1, y2, y3, y4⟩ := (unhide HA1).2.cells
    have HX := hide (dlits_any hSK c [⟨#[115, 121, 109, 108, 105, 110, 107]⟩, ⟨#[116, 97, 114, 103, 101, 116]⟩] W0 w1 v v1 _ (unhide HA1).1 (by simp) (by
      show _ + (txs [wSym, wTarg]).length ≤ _
      simp only [List.length_append]
      omega) (by show (txs [wSym, wTarg]).length ≤ _; omega))
    go_wp2_with fail
    refine (unhide HX).mono ?_
    rintro e w2 ⟨rfl, v2, hA, hg⟩
    have HA2 : Hid (Dt HK c W0 w2 v v2 (xs ++ txs [wOpen, wType] ++ txs [wSym, wTarg]) ∧ Bx w2 w.heap.size (.int .i64 3) (.bool x) (.slice ad d.size cd) (.slice an ns.length cn) (.slice ak ks.length ck)) := ⟨hA, (unhide HA1).1.box hg (fun g hg => (unhide HO g hg).2) (by omega) (by omega) (unhide HA1).2⟩
    have hs2 := hg.size
    clear HX hA hg HA1 y0 y1 y2 y3 y4
    obtain ⟨y0, y1, y2, y3, y4⟩ := (unhide HA2).2.cells
    have HX := hide (dwriteData_any hSK c v2 _ (sB d) lo hi ad d.size cd w2 (unhide HA2).1.h ((unhide HA2).1.g.row (unhide HD) (by omega) (.inr hhi) hvo) rfl hhi (by simp only [List.length_append]; omega))
    go_wp2_with fail
    refine (unhide HX).mono ?_
    rintro e w3 ⟨rfl, hk⟩
    obtain ⟨v3, hA, hg⟩ := (unhide HA2).1.step hk
    clear hk
    have HA3 : Hid (Dt HK c W0 w3 v v3 (xs ++ txs [wOpen, wType] ++ txs [wSym, wTarg] ++ tx (sB d)) ∧ Bx w3 w.heap.size (.int .i64 3) (.bool x) (.slice ad d.size cd) (.slice an ns.length cn) (.slice ak ks.length ck)) := ⟨hA, (unhide HA2).1.box hg (fun g hg => (unhide HO g hg).2) (by omega) (by omega) (unhide HA2).2⟩
    have hs3 := hg.size
    clear HX hA hg HA2 y0 y1 y2 y3 y4
    obtain ⟨y0, y1, y2, y3, y4⟩ := (unhide HA3).2.cells
    have HX := hide (dlits_any hSK c [⟨#[41]⟩] W0 w3 v v3 _ (unhide HA3).1 (by simp) (by
      show _ + (txs [wClose]).length ≤ _
      simp only [List.length_append]
      omega) (by show (txs [wClose]).length ≤ _; omega))
    go_wp2_with fail
    refine (unhide HX).mono ?_
    rintro e w4 ⟨rfl, v4, hA, hg⟩
    have HA4 : Hid (Dt HK c W0 w4 v v4 (xs ++ txs [wOpen, wType] ++ txs [wSym, wTarg] ++ tx (sB d) ++ txs [wClose]) ∧ Bx w4 w.heap.size (.int .i64 3) (.bool x) (.slice ad d.size cd) (.slice an ns.length cn) (.slice ak ks.length ck)) := ⟨hA, (unhide HA3).1.box hg (fun g hg => (unhide HO g hg).2) (by omega) (by omega) (unhide HA3).2⟩
    have hs4 := hg.size
    clear HX hA hg HA3 y0 y1 y2 y3 y4
    have HZ : Hid (SkD HK c w v (xs ++ nodeB (.mk 3 x d ns ks)) w4) := by
      have h := SkD.trans (unhide HG0) ⟨v4, (unhide HA4).1.g, (unhide HA4).1.h⟩
      show SkD HK _ _ _ _ _
      rw [unhide HNB]
      simpa only [List.append_assoc, List.nil_append, List.append_nil] using h
    clear HA4
    go_wp2_with fail
    exact bodyPost_end (v := .tuple #[]) (by simp [results, Try.results22, go_sem]) rfl ⟨rfl, unhide HZ⟩
  have e3 : (K == 3) = false := by simpa using hk3
  by_cases hk2 : K = 2
  case pos =>
    subst hk2
    have l3 : (txs [wDir]).length = 24 := by decide
    have hnb : nodeB (.mk 2 x d ns ks) = txs [wOpen, wType] ++ (txs [wDir] ++ entsB ns ks) ++ txs [wClose] := by rw [nodeB, if_neg (by decide), if_neg (by decide), if_pos rfl]
    obtain ⟨hmax, hm2⟩ := unhide HM
    rw [hnb] at hmax hm2
    simp only [List.length_append, List.length_nil] at hmax hm2
    have HNB := hide hnb
    clear hnb HM
    obtain ⟨y0, y1, y2, y3, y4⟩ := (unhide HA1).2.cells
    have HX := hide (dlits_any hSK c [⟨#[100, 105, 114, 101, 99, 116, 111, 114, 121]⟩] W0 w1 v v1 _ (unhide HA1).1 (by simp) (by
      show _ + (txs [wDir]).length ≤ _
      simp only [List.length_append]
      omega) (by show (txs [wDir]).length ≤ _; omega))
    go_wp2_with fail
    refine (unhide HX).mono ?_
    rintro e w2 ⟨rfl, v2, hA, hg⟩
    have HA2 : Hid (Dt HK c W0 w2 v v2 (xs ++ txs [wOpen, wType] ++ txs [wDir]) ∧ Bx w2 w.heap.size (.int .i64 2) (.bool x) (.slice ad d.size cd) (.slice an ns.length cn) (.slice ak ks.length ck)) := ⟨hA, (unhide HA1).1.box hg (fun g hg => (unhide HO g hg).2) (by omega) (by omega) (unhide HA1).2⟩
    have hs2 := hg.size
    clear HX hA hg HA1 y0 y1 y2 y3 y4
    obtain ⟨y0, y1, y2, y3, y4⟩ := (unhide HA2).2.cells
    have HX := hide (unhide HE w2 v2 _ (unhide HA2).1.g (unhide HA2).1.h (by simp only [List.length_append]; omega) (by omega))
    go_wp2_with fail
    refine (unhide HX).mono ?_
    rintro e w3 ⟨rfl, hk⟩
    obtain ⟨v3, hA, hg⟩ := (unhide HA2).1.step hk
    clear hk
    have HA3 : Hid (Dt HK c W0 w3 v v3 (xs ++ txs [wOpen, wType] ++ txs [wDir] ++ entsB ns ks) ∧ Bx w3 w.heap.size (.int .i64 2) (.bool x) (.slice ad d.size cd) (.slice an ns.length cn) (.slice ak ks.length ck)) := ⟨hA, (unhide HA2).1.box hg (fun g hg => (unhide HO g hg).2) (by omega) (by omega) (unhide HA2).2⟩
    have hs3 := hg.size
    clear HX hA hg HA2 y0 y1 y2 y3 y4
    obtain ⟨y0, y1, y2, y3, y4⟩ := (unhide HA3).2.cells
    have HX := hide (dlits_any hSK c [⟨#[41]⟩] W0 w3 v v3 _ (unhide HA3).1 (by simp) (by
      show _ + (txs [wClose]).length ≤ _
      simp only [List.length_append]
      omega) (by show (txs [wClose]).length ≤ _; omega))
    go_wp2_with fail
    refine (unhide HX).mono ?_
    rintro e w4 ⟨rfl, v4, hA, hg⟩
    have HA4 : Hid (Dt HK c W0 w4 v v4 (xs ++ txs [wOpen, wType] ++ txs [wDir] ++ entsB ns ks ++ txs [wClose]) ∧ Bx w4 w.heap.size (.int .i64 2) (.bool x) (.slice ad d.size cd) (.slice an ns.length cn) (.slice ak ks.length ck)) := ⟨hA, (unhide HA3).1.box hg (fun g hg => (unhide HO g hg).2) (by omega) (by omega) (unhide HA3).2⟩
    have hs4 := hg.size
    clear HX hA hg HA3 y0 y1 y2 y3 y4
    have HZ : Hid (SkD HK c w v (xs ++ nodeB (.mk 2 x d ns ks)) w4) := by
      have h := SkD.trans (unhide HG0) ⟨v4, (unhide HA4).1.g, (unhide HA4).1.h⟩
      show SkD HK _ _ _ _ _
      rw [unhide HNB]
      simpa only [List.append_assoc, List.nil_append, List.append_nil] using h
    clear HA4
    go_wp2_with fail
    exact bodyPost_end (v := .tuple #[]) (by simp [results, Try.results22, go_sem]) rfl ⟨rfl, unhide HZ⟩
  have e2 : (K == 2) = false := by simpa using hk2
  have hnb : nodeB (.mk K x d ns ks) = txs [wOpen, wType] ++ [] ++ txs [wClose] := by rw [nodeB, if_neg hk1, if_neg hk3, if_neg hk2]
  obtain ⟨hmax, hm2⟩ := unhide HM
  rw [hnb] at hmax hm2
  simp only [List.length_append, List.length_nil] at hmax hm2
  have HNB := hide hnb
  clear hnb HM
  clear hk1 hk2 hk3
  obtain ⟨y0, y1, y2, y3, y4⟩ := (unhide HA1).2.cells
  have HX := hide (dlits_any hSK c [⟨#[41]⟩] W0 w1 v v1 _ (unhide HA1).1 (by simp) (by
    show _ + (txs [wClose]).length ≤ _
    simp only [List.length_append]
    omega) (by show (txs [wClose]).length ≤ _; omega))
  go_wp2_with fail
  refine (unhide HX).mono ?_
  rintro e w2 ⟨rfl, v2, hA, hg⟩
  have HA2 : Hid (Dt HK c W0 w2 v v2 (xs ++ txs [wOpen, wType] ++ txs [wClose]) ∧ Bx w2 w.heap.size (.int .i64 K) (.bool x) (.slice ad d.size cd) (.slice an ns.length cn) (.slice ak ks.length ck)) := ⟨hA, (unhide HA1).1.box hg (fun g hg => (unhide HO g hg).2) (by omega) (by omega) (unhide HA1).2⟩
  have hs2 := hg.size
  clear HX hA hg HA1 y0 y1 y2 y3 y4
  have HZ : Hid (SkD HK c w v (xs ++ nodeB (.mk K x d ns ks)) w2) := by
    have h := SkD.trans (unhide HG0) ⟨v2, (unhide HA2).1.g, (unhide HA2).1.h⟩
    show SkD HK _ _ _ _ _
    rw [unhide HNB]
    simpa only [List.append_assoc, List.nil_append, List.append_nil] using h
  clear HA2
  go_wp2_with fail
  exact bodyPost_end (v := .tuple #[]) (by simp [results, Try.results22, go_sem]) rfl ⟨rfl, unhide HZ⟩

end Go.Proofs.Ytikamklgelcnhab
/- The same for a sink in one block. -/
namespace Go.Proofs.Ytikamklgelcnhab
open Go.RowKit
set_option linter.unusedSimpArgs false
set_option maxRecDepth 20000 in
set_option maxHeartbeats 2000000 in
theorem dwriteTree_any {HK : World → Nat → List UInt8 → Prop} {pc : Nat} (hSK : SinkD pc HK) (c : Nat) (T : Tr) (lo hi : Nat) (cs : List Value) (w : World) (v : Value) (xs : List UInt8) (hL : Lies lo hi w T cs) (hhi : hi ≤ c) (hS : HasD HK c w v xs) (hN : Nice T) (hW : wt T ≤ 3000) (hx : xs.length ≤ 1000000) :
    Calls Try.prog 11 #[.agg cs.toArray, .func (Fn.func 14) #[] #[.pointer (some ⟨pc, 0, none⟩)]] w fun e w' => e = .returned (.tuple #[]) ∧ SkD HK c w v (xs ++ narB T) w' := by
  have hcl := hS.ctr.lt
  have hown : ∀ g, v.ownBlock = some g → c + 1 ≤ g ∧ g < w.heap.size := fun g hg => owns_lt hS.row g hg
  obtain ⟨kt, xt, at0, nt, ct, bt, mt, dt, et, pt, qt, rfl⟩ := hL.form
  obtain ⟨W0, hW0⟩ : ∃ W0, W0 = w.alloc (.cells #[.int .i64 kt, .bool xt, .slice at0 nt ct, .slice bt mt dt, .slice et pt qt] 26) := ⟨_, rfl⟩
  have hb0 : Below w.heap.size w W0 := by rw [hW0]; exact (Below.refl _ _).alloc (Nat.le_refl _) _
  have hs0 : W0.heap.size = w.heap.size + 1 := by rw [hW0]; simp
  have hx0 : Bx W0 w.heap.size (.int .i64 kt) (.bool xt) (.slice at0 nt ct) (.slice bt mt dt) (.slice et pt qt) := by rw [hW0]; exact bx_new _ _ _ _ _ _
  have hA0 : Dt HK c W0 W0 v v xs := ⟨Gt.of_below v (Below.refl _ _), hS.kept' hSK hb0⟩
  have HL0 := hide (hL.kept hb0 (by omega))
  have HW0 := hide hW0
  have HG0 : Hid (Gt c w W0 v v) := Gt.of_below v hb0
  have HA0 := hide (And.intro hA0 hx0)
  have HO := hide hown
  have hlen := nodeB_len T
  have l1 : (txs [wMagic]).length = 24 := by decide
  have HL1 := hide (dlits_any hSK c [⟨#[110, 105, 120, 45, 97, 114, 99, 104, 105, 118, 101, 45, 49]⟩] W0 W0 v v _ hA0 (by simp) (by show _ + (txs [wMagic]).length ≤ _; omega) (by show (txs [wMagic]).length ≤ _; omega))
  have HN := hide (dwriteNode_any hSK c T hN (by omega))
  clear hL hS hb0 hx0 hA0 hown hW0 hN
  rw [hs0] at HL1
  go_enter Try.func11, Try.ntmps11
  go_wp2_with fail
  rw [← unhide HW0]
  refine (unhide HL1).mono ?_
  rintro e w1 ⟨rfl, v1, hA, hg⟩
  have hB1 := (unhide HA0).1.box hg (fun g hg => (unhide HO g hg).2) (by omega) (by omega) (unhide HA0).2
  have hL1 := Lies.gt hg (unhide HL0) hhi (by omega) (fun g hg => by have := (unhide HO g hg).1; omega)
  have hA' : Dt HK c W0 w1 v v1 (xs ++ txs [wMagic]) := hA
  have HX := hide (unhide HN lo hi _ w1 v1 _ hL1 hhi hA'.h (by rw [List.length_append]; omega) (by omega))
  have HA1 := hide hA'
  obtain ⟨y0, y1, y2, y3, y4⟩ := hB1.cells
  clear HL1 hA hg hA' hL1 hB1 HW0
  go_wp2_with fail
  refine (unhide HX).mono ?_
  rintro e w2 ⟨rfl, hk⟩
  obtain ⟨v2, hA2, _⟩ := (unhide HA1).step hk
  have HZ : Hid (SkD HK c w v (xs ++ narB T) w2) := by
    have h := SkD.trans (unhide HG0) ⟨v2, hA2.g, hA2.h⟩
    show SkD HK _ _ _ _ _
    unfold narB
    simpa only [List.append_assoc] using h
  clear HX hk hA2 HA1
  go_wp2_with fail
  exact bodyPost_end (v := .tuple #[]) (by simp [results, Try.results11, go_sem]) rfl ⟨rfl, unhide HZ⟩
end Go.Proofs.Ytikamklgelcnhab
/- A tree that came in as an argument. -/
namespace Go.Proofs.Ytikamklgelcnhab
open Go.RowKit
theorem cell_spot {w : World} {x : Addr} {v : Value} (h : w.cell? x = some v) : x = ⟨x.block, x.off, none⟩ ∧ x.block < w.heap.size := by
  refine ⟨?_, cell_lt h⟩
  unfold World.cell? at h
  split at h
  · cases x with
    | mk b o s => cases s with
      | none => rfl
      | some s => simp at h
  · simp at h
theorem flatN (s : Nat) (Ks : List (List Value)) (h : ∀ c ∈ Ks, c.length = s) (i j : Nat) (c : List Value) (hi : Ks[i]? = some c) (hj : j < s) : Ks.flatten[i * s + j]? = c[j]? := by
  induction Ks generalizing i with
  | nil => simp at hi
  | cons a r ih =>
    have ha : a.length = s := h a (by simp)
    cases i with
    | zero => simp at hi; subst hi; simp [List.flatten_cons, List.getElem?_append_left (by omega : j < a.length)]
    | succ i =>
      have e : (i + 1) * s = i * s + s := by rw [Nat.add_mul, Nat.one_mul]
      rw [List.flatten_cons, List.getElem?_append_right (by omega), ← ih (fun c hc => h c (by simp [hc])) i (by simpa using hi)]
      congr 1; omega
theorem flatN_length (s : Nat) (Ks : List (List Value)) (h : ∀ c ∈ Ks, c.length = s) : Ks.flatten.length = Ks.length * s := by
  induction Ks with
  | nil => simp
  | cons a r ih => rw [List.flatten_cons, List.length_append, ih (fun c hc => h c (by simp [hc])), h a (by simp), List.length_cons, Nat.add_mul]; omega
section
variable {H : Type} {enc : TypeId × Value → H} {W : World} {sp : Nat → Bool} {held : Bool}
/-- A slice that came in: its elements' cells, and what each reads as. -/
theorem open_rows {t e : TypeId} {size fuel : Nat} {cs : List Value} {x : DataW H × List MemPlace} (hsz : 0 < size) (ht : Try.prog.underlying t = some (.slice e)) (hc : Try.prog.cellsOf e = size) (h : DataW.trod enc Try.prog W 0 sp held fuel t cs = some x) :
    ∃ (v : Value) (Cs : List (List Value)) (ds : List (DataW H)), cs = [v] ∧ ds.length = Cs.length ∧ Row 0 W.heap.size W v Cs.length Cs.flatten ∧ (x.1 = .nil ∧ Cs = [] ∨ ∃ spr, x.1 = .slice ds spr) ∧ ∀ (i : Nat) (c : List Value) (d : DataW H), Cs[i]? = some c → ds[i]? = some d → c.length = size ∧ ∃ n q, n < fuel ∧ DataW.trod enc Try.prog W 0 sp held n e c = some (d, q) := by
  rcases DataW.trod_slice ht h with ⟨rfl, rfl⟩ | ⟨a, len, cap, elems, rest, n, rfl, rfl, rfl, _, hl, _, hlen, hel, _, _⟩
  · exact ⟨_, [], [], rfl, rfl, ⟨none, 0, rfl, Nat.le_refl _, fun h => absurd h (Nat.lt_irrefl _)⟩, .inl ⟨rfl, rfl⟩, fun i c d h => by simp at h⟩
  · rw [hc] at hel
    have hE : ∀ i, (hi : i < len) → ∃ c, W.cells? 0 (a.add (i * size)) size = some c ∧ DataW.trod enc Try.prog W 0 sp held n e c = elems[i]? := fun i hi => by
      have h1 := hel i hi
      rw [List.getElem?_eq_getElem (by omega)] at h1
      obtain ⟨c, h2, h3⟩ := Option.bind_eq_some_iff.1 h1
      exact ⟨c, h2, by rw [h3, List.getElem?_eq_getElem (by omega)]⟩
    obtain ⟨f, hf⟩ : ∃ f : Nat → List Value, ∀ i, i < len → W.cells? 0 (a.add (i * size)) size = some (f i) ∧ DataW.trod enc Try.prog W 0 sp held n e (f i) = elems[i]? := by
      refine ⟨fun i => (W.cells? 0 (a.add (i * size)) size).getD [], fun i hi => ?_⟩
      obtain ⟨c, h1, h2⟩ := hE i hi
      simp only [h1, Option.getD_some]
      exact ⟨trivial, h2⟩
    have hsome : ∀ i, i < len → (f i).length = size ∧ ∀ j u, (f i)[j]? = some u → W.cell? ((a.add (i * size)).add j) = some u := fun i hi => by
      obtain ⟨_, h1, h2⟩ := World.cells?_some (hf i hi).1
      exact ⟨h1, fun j u hj => by rw [h2 j (by have := (List.getElem?_eq_some_iff.1 hj).1; omega)]; exact hj⟩
    have hCl : ∀ c ∈ (List.range len).map f, c.length = size := fun c hc => by
      obtain ⟨i, hi, rfl⟩ := List.mem_map.1 hc
      exact (hsome i (List.mem_range.1 hi)).1
    refine ⟨_, (List.range len).map f, elems.map (·.1), rfl, by simp [hlen], ?_, .inr ⟨_, rfl⟩, fun i c d h1 h2 => ?_⟩
    · rw [List.length_map, List.length_range]
      refine ⟨some a, cap, rfl, hl, fun h0 => ?_⟩
      have h00 := (hsome 0 h0).2 0 _ (List.getElem?_eq_getElem (by rw [(hsome 0 h0).1]; exact hsz))
      obtain ⟨hx, hlt⟩ := cell_spot (show W.cell? a = some _ from by simpa [Addr.add] using h00)
      refine ⟨a.block, a.off, congrArg some hx, Nat.zero_le _, hlt, fun j u hj => ?_⟩
      have hjl : j < len * size := by
        have := (List.getElem?_eq_some_iff.1 hj).1
        rw [flatN_length size _ hCl] at this
        simpa using this
      have hq : j / size < len := Nat.div_lt_of_lt_mul (by rw [Nat.mul_comm]; exact hjl)
      have hr : j % size < size := Nat.mod_lt _ hsz
      have ej : j / size * size + j % size = j := by rw [Nat.mul_comm]; exact Nat.div_add_mod j size
      have h1 := flatN size _ hCl (j / size) (j % size) (f (j / size)) (by rw [List.getElem?_map, List.getElem?_range hq]; rfl) hr
      rw [ej, hj] at h1
      have h2 := (hsome _ hq).2 _ u h1.symm
      rw [hx, addr_mid, addr_mid, Nat.add_assoc, ej] at h2
      exact h2
    · have hi : i < len := by have := (List.getElem?_eq_some_iff.1 h1).1; simpa using this
      rw [List.getElem?_map, List.getElem?_range hi] at h1
      simp at h1
      subst h1
      rw [List.getElem?_map] at h2
      refine ⟨(hsome i hi).1, n, ?_⟩
      have h3 := (hf i hi).2
      rw [List.getElem?_eq_getElem (by omega)] at h2 h3
      simp at h2
      subst h2
      exact ⟨_, Nat.lt_succ_self _, h3⟩
theorem weights_memA {P : Program} {e : TypeId} : ∀ {l : List (DataW H)} {d : DataW H}, d ∈ l → ∀ n ∈ d.weights P e, n ∈ DataW.weightsAll P e l
  | x :: r, d, hd, n, hn => by
    simp only [DataW.weightsAll, List.mem_append]
    rcases List.mem_cons.1 hd with rfl | h
    · exact Or.inl hn
    · exact Or.inr (weights_memA h n hn)
theorem slice_len {t e : TypeId} {x : DataW H} {Cs : List (List Value)} {ds : List (DataW H)} (ht : Try.prog.underlying t = some (.slice e)) (hb : 0 < Try.prog.bytesOf e) (hl : ds.length = Cs.length) (hs : x = .nil ∧ Cs = [] ∨ ∃ spr, x = .slice ds spr) (hw : ∀ n ∈ x.weights Try.prog t, n ≤ reachBytes) : Cs.length ≤ reachBytes ∧ ∀ d ∈ ds, ∀ n ∈ d.weights Try.prog e, n ≤ reachBytes := by
  rcases hs with ⟨_, rfl⟩ | ⟨spr, rfl⟩
  · obtain rfl : ds = [] := List.eq_nil_of_length_eq_zero (by simpa using hl)
    exact ⟨Nat.zero_le _, fun d hd => by simp at hd⟩
  · simp only [DataW.weights, ht] at hw
    have h1 := hw _ (List.mem_cons_self ..)
    refine ⟨?_, fun d hd n hn => hw n (List.mem_cons_of_mem _ (List.mem_append.2 (.inl (weights_memA hd n hn))))⟩
    have h2 : ds.length + spr.length ≤ (ds.length + spr.length) * Try.prog.bytesOf e := Nat.le_mul_of_pos_right _ hb
    omega
theorem bytes_of (Cs : List (List Value)) (h : ∀ c ∈ Cs, ∃ b : UInt8, c = [.int .u8 (b.toNat : Int)]) : ∃ l : List UInt8, l.length = Cs.length ∧ l.map (fun b => Value.int .u8 (b.toNat : Int)) = Cs.flatten := by
  induction Cs with
  | nil => exact ⟨[], rfl, rfl⟩
  | cons c r ih =>
    obtain ⟨b, hb⟩ := h c (by simp)
    obtain ⟨l, h1, h2⟩ := ih (fun c hc => h c (by simp [hc]))
    exact ⟨b :: l, by simp [h1], by rw [List.map_cons, h2, List.flatten_cons, hb]; rfl⟩
theorem strs_of {P : ByteArray → Prop} (Cs : List (List Value)) (h : ∀ c ∈ Cs, ∃ s : ByteArray, c = [.string s] ∧ P s) : ∃ l : List ByteArray, l.length = Cs.length ∧ l.map Value.string = Cs.flatten ∧ ∀ s ∈ l, P s := by
  induction Cs with
  | nil => exact ⟨[], rfl, rfl, fun s hs => by simp at hs⟩
  | cons c r ih =>
    obtain ⟨b, hb, hP⟩ := h c (by simp)
    obtain ⟨l, h1, h2, h3⟩ := ih (fun c hc => h c (by simp [hc]))
    exact ⟨b :: l, by simp [h1], by rw [List.map_cons, h2, List.flatten_cons, hb]; rfl, fun s hs => by rcases List.mem_cons.1 hs with rfl | hs; exact hP; exact h3 s hs⟩
theorem trees_of {Q : Tr → List Value → Prop} (Cs : List (List Value)) (h : ∀ c ∈ Cs, ∃ T, Q T c) : ∃ ks : List Tr, ks.length = Cs.length ∧ ∀ (i : Nat) (t : Tr) (c : List Value), ks[i]? = some t → Cs[i]? = some c → Q t c := by
  induction Cs with
  | nil => exact ⟨[], rfl, fun i t c h => by simp at h⟩
  | cons c r ih =>
    obtain ⟨T, hT⟩ := h c (by simp)
    obtain ⟨l, h1, h2⟩ := ih (fun c hc => h c (by simp [hc]))
    refine ⟨T :: l, by simp [h1], fun i t c' ht hc => ?_⟩
    cases i with
    | zero => simp at ht hc; subst ht hc; exact hT
    | succ i => exact h2 i t c' (by simpa using ht) (by simpa using hc)
theorem list5 {α : Type} {l : List α} (h : l.length = 5) : ∃ a b c d e, l = [a, b, c, d, e] := by
  match l, h with
  | [a, b, c, d, e], _ => exact ⟨a, b, c, d, e, rfl⟩
theorem cells3 : Try.prog.cellsOf 3 = 1 := by kernel_rfl
theorem cells4 : Try.prog.cellsOf 4 = 1 := by kernel_rfl
theorem cells5' : Try.prog.cellsOf 5 = 1 := by kernel_rfl
theorem cells9 : Try.prog.cellsOf 9 = 1 := by kernel_rfl
theorem cells22 : Try.prog.cellsOf 22 = 1 := by kernel_rfl
theorem cells23 : Try.prog.cellsOf 23 = 1 := by kernel_rfl
theorem cells24 : Try.prog.cellsOf 24 = 1 := by kernel_rfl
theorem cells26 : Try.prog.cellsOf 26 = 5 := by kernel_rfl
/-- A tree that came in lies there, and its lengths are those of slices. -/
theorem open_tree : ∀ (fuel : Nat) (cs : List Value) (x : DataW H × List MemPlace), DataW.trod enc Try.prog W 0 sp held fuel 26 cs = some x → (∀ n ∈ x.1.weights Try.prog 26, n ≤ reachBytes) → ∃ T, Lies 0 W.heap.size W T cs ∧ Fit T := by
  intro fuel
  induction fuel using Nat.strongRecOn with
  | ind fuel ih =>
  intro cs x h hw
  have hR : reachBytes = 140737488351232 := rfl
  obtain ⟨xs, n, rfl, rfl, hcl, hxl, hf⟩ := DataW.trod_struct Try.underlying26 h
  rw [cells26] at hcl
  have hxl5 : xs.length = 5 := hxl
  obtain ⟨c0, c1, c2, c3, c4, rfl⟩ := list5 hcl
  obtain ⟨x0, x1, x2, x3, x4, rfl⟩ := list5 hxl5
  have h0 : DataW.trod enc Try.prog W 0 sp held n 3 [c0] = some x0 := by have := hf 0 _ rfl; simpa [cells3] using this
  have h1 : DataW.trod enc Try.prog W 0 sp held n 4 [c1] = some x1 := by have := hf 1 _ rfl; simpa [cells4] using this
  have h2 : DataW.trod enc Try.prog W 0 sp held n 22 [c2] = some x2 := by have := hf 2 _ rfl; simpa [cells22] using this
  have h3 : DataW.trod enc Try.prog W 0 sp held n 23 [c3] = some x3 := by have := hf 3 _ rfl; simpa [cells23] using this
  have h4 : DataW.trod enc Try.prog W 0 sp held n 24 [c4] = some x4 := by have := hf 4 _ rfl; simpa [cells24] using this
  have hwE : ∀ (j : Nat) (t : TypeId) (d : DataW H), ([3, 4, 22, 23, 24] : List TypeId)[j]? = some t → [x0.1, x1.1, x2.1, x3.1, x4.1][j]? = some d → ∀ n ∈ d.weights Try.prog t, n ≤ reachBytes := fun j t d e1 e2 n hn => hw n (by
    simp only [DataW.weights, Try.underlying26]
    exact DataW.weights_mem_each (ts := [3, 4, 22, 23, 24]) (ds := [x0.1, x1.1, x2.1, x3.1, x4.1]) e1 e2 n hn)
  obtain ⟨k, e0, -, -⟩ := DataW.trod_int Try.underlying3 h0
  obtain ⟨b, e1, -⟩ := DataW.trod_bool Try.underlying4 h1
  simp at e0 e1
  subst e0 e1
  obtain ⟨v2, C2, d2, e2, l2, r2, s2, q2⟩ := open_rows (size := 1) (by omega) Try.underlying22 cells5' h2
  obtain ⟨v3, C3, d3, e3, l3, r3, s3, q3⟩ := open_rows (size := 1) (by omega) Try.underlying23 cells9 h3
  obtain ⟨v4, C4, d4, e4, l4, r4, s4, q4⟩ := open_rows (size := 5) (by omega) Try.underlying24 cells26 h4
  simp at e2 e3 e4
  subst e2 e3 e4
  obtain ⟨z2, -⟩ := slice_len Try.underlying22 (by decide +kernel) l2 s2 (hwE 2 22 _ rfl rfl)
  obtain ⟨z3, w3⟩ := slice_len Try.underlying23 (by decide +kernel) l3 s3 (hwE 3 23 _ rfl rfl)
  obtain ⟨z4, w4⟩ := slice_len Try.underlying24 (by decide +kernel) l4 s4 (hwE 4 24 _ rfl rfl)
  obtain ⟨dl, hd1, hd2⟩ := bytes_of C2 (fun c hc => by
    obtain ⟨i, hi, rfl⟩ := List.getElem_of_mem hc
    obtain ⟨_, m, q, _, ht⟩ := q2 i _ _ (List.getElem?_eq_getElem hi) (List.getElem?_eq_getElem (by omega : i < d2.length))
    obtain ⟨z, hz, -, hwf⟩ := DataW.trod_int Try.underlying5 ht
    have hb := bounds_u8 hwf
    refine ⟨UInt8.ofNat z.toNat, ?_⟩
    rw [hz]
    have : ((UInt8.ofNat z.toNat).toNat : Int) = z := by
      rw [UInt8.toNat_ofNat']
      omega
    rw [this])
  obtain ⟨ns, hn1, hn2, hn3⟩ := strs_of (P := fun s => s.size ≤ reachBytes) C3 (fun c hc => by
    obtain ⟨i, hi, rfl⟩ := List.getElem_of_mem hc
    have hdi : i < d3.length := by omega
    obtain ⟨_, m, q, _, ht⟩ := q3 i _ _ (List.getElem?_eq_getElem hi) (List.getElem?_eq_getElem hdi)
    obtain ⟨s, hs, hx, -⟩ := DataW.trod_string Try.underlying9 ht
    refine ⟨s, hs, ?_⟩
    have := w3 d3[i] (List.getElem_mem hdi)
    rw [(Prod.mk.inj hx).1] at this
    exact this _ (by simp [DataW.weights]))
  obtain ⟨ks, hk1, hk2⟩ := trees_of (Q := fun T c => Lies 0 W.heap.size W T c ∧ Fit T) C4 (fun c hc => by
    obtain ⟨i, hi, rfl⟩ := List.getElem_of_mem hc
    have hdi : i < d4.length := by omega
    obtain ⟨_, m, q, hm, ht⟩ := q4 i _ _ (List.getElem?_eq_getElem hi) (List.getElem?_eq_getElem hdi)
    exact ih m (by omega) _ _ ht (w4 _ (List.getElem_mem hdi)))
  have hds : (⟨dl.toArray⟩ : ByteArray).size = C2.length := by rw [← hd1]; rfl
  refine ⟨.mk k b ⟨dl.toArray⟩ ns ks, .mk k b ⟨dl.toArray⟩ ns ks _ _ _ C4 hk1.symm ?_ ?_ ?_ (fun i t c e1 e2 => (hk2 i t c e1 e2).1), .mk _ _ _ _ _ (by rw [hds]; omega) (by omega) (fun s hs => by have := hn3 s hs; omega) (by omega) (fun t ht => ?_)⟩
  · rw [hds, show byteVals ⟨dl.toArray⟩ = C2.flatten from hd2]; exact r2
  · rw [hn1, hn2]; exact r3
  · rw [hk1]; exact r4
  · obtain ⟨i, hi, rfl⟩ := List.getElem_of_mem ht
    exact (hk2 i _ _ (List.getElem?_eq_getElem hi) (List.getElem?_eq_getElem (by omega : i < C4.length))).2
end
end Go.Proofs.Ytikamklgelcnhab
/- The document's Count, in the code. -/
namespace Go.Proofs.Ytikamklgelcnhab
open Go.RowKit
mutual
/-- Nodes. -/
def cn : Tr → Nat | .mk _ _ _ _ ks => 1 + cns ks
def cns : List Tr → Nat | [] => 0 | t :: r => cn t + cns r
end
mutual
/-- Bytes of files. -/
def cb : Tr → Nat | .mk k _ d _ ks => (if k = 1 then d.size else 0) + cbs ks
def cbs : List Tr → Nat | [] => 0 | t :: r => cb t + cbs r
end
theorem cns_append (a b : List Tr) : cns (a ++ b) = cns a + cns b := by
  induction a with
  | nil => simp [cns]
  | cons x r ih => simp only [List.cons_append, cns, ih]; omega
theorem cbs_append (a b : List Tr) : cbs (a ++ b) = cbs a + cbs b := by
  induction a with
  | nil => simp [cbs]
  | cons x r ih => simp only [List.cons_append, cbs, ih]; omega
theorem cns_take (l : List Tr) (i : Nat) (h : i < l.length) : cns (l.take (i + 1)) = cns (l.take i) + cn l[i] := by
  rw [List.take_succ_eq_append_getElem h, cns_append]; simp [cns]
theorem cbs_take (l : List Tr) (i : Nat) (h : i < l.length) : cbs (l.take (i + 1)) = cbs (l.take i) + cb l[i] := by
  rw [List.take_succ_eq_append_getElem h, cbs_append]; simp [cbs]
theorem cn_le (T : Tr) : cn T ≤ wt T ∧ cb T ≤ 20 * wt T := by
  induction T using Tr.ind with
  | h k x d ns ks ih =>
    have h2 : ∀ l : List Tr, (∀ t ∈ l, cn t ≤ wt t ∧ cb t ≤ 20 * wt t) → cns l ≤ wts l ∧ cbs l ≤ 20 * wts l := by
      intro l
      induction l with
      | nil => intro _; simp [cns, cbs, wts]
      | cons t r ih2 =>
        intro h
        have h3 := h t (by simp)
        have h4 := ih2 (fun t ht => h t (by simp [ht]))
        rw [cns, cbs, wts]
        omega
    have h3 := h2 ks ih
    rw [cn, cb, wt]
    split <;> omega
theorem cns_le (l : List Tr) : cns l ≤ wts l ∧ cbs l ≤ 20 * wts l := by
  induction l with
  | nil => simp [cns, cbs, wts]
  | cons t r ih => have := cn_le t; rw [cns, cbs, wts]; omega
set_option maxRecDepth 20000 in
set_option maxHeartbeats 2000000 in
theorem rcount_any (T : Tr) : ∀ (lo hi : Nat) (cs : List Value) (w : World), Lies lo hi w T cs → wt T ≤ 100000 → hi ≤ w.heap.size →
    Calls Try.prog 19 #[.agg cs.toArray] w fun e w' => e = .returned (.tuple #[.int .i64 ((cn T : Nat) : Int), .int .i64 ((cb T : Nat) : Int)]) ∧ Below w.heap.size w w' := by
  induction T using Tr.ind with
  | h k x d ns ks ih =>
  intro lo hi cs w hL hW hhi
  have hSm := small_of hW
  cases hL with
  | mk _ _ _ _ _ vd vn vk Ks hl hd hn hk hK =>
  obtain ⟨ad, cd, rfl, hcd⟩ := hd.slice
  obtain ⟨an, cn', rfl, hcn⟩ := hn.slice
  obtain ⟨ak, ck, rfl, hck⟩ := hk.slice
  have HE : Hid (cn (.mk k x d ns ks) = 1 + cns ks ∧ cb (.mk k x d ns ks) = (if k = 1 then d.size else 0) + cbs ks) := ⟨by rw [cn], by rw [cb]⟩
  obtain ⟨wA, hwA⟩ : ∃ wA, wA = w.alloc (.cells #[.int .i64 k, .bool x, .slice ad d.size cd, .slice an ns.length cn', .slice ak ks.length ck] 26) := ⟨_, rfl⟩
  have hbA : Below w.heap.size w wA := by rw [hwA]; exact (Below.refl _ _).alloc (Nat.le_refl _) _
  have hsA : wA.heap.size = w.heap.size + 1 := by rw [hwA]; simp
  have hbx : Bx wA w.heap.size (.int .i64 k) (.bool x) (.slice ad d.size cd) (.slice an ns.length cn') (.slice ak ks.length ck) := by rw [hwA]; exact bx_new _ _ _ _ _ _
  have hds := hSm.d
  have hkl := hSm.k
  have hwk : wts ks ≤ 100000 := by rw [wt] at hW; omega
  have HR := hide (And.intro hk (And.intro hl (And.intro hK hwk)))
  have HIH := hide ih
  have HSm := hide hSm
  have HwA := hide hwA
  have H0 := hide (And.intro hbA (And.intro hbx hsA))
  obtain ⟨N, hN⟩ : ∃ N, ks.length = N := ⟨_, rfl⟩
  rw [hN] at hkl hck
  have HN := hide hN
  obtain ⟨c0, c1, c2, c3, c4⟩ := hbx.cells
  clear hk hl hK ih hSm hbA hbx hwA hd hn hW hwk
  obtain ⟨B0, hB0⟩ : ∃ B0 : Nat, B0 = if k = 1 then d.size else 0 := ⟨_, rfl⟩
  have HB0 := hide hB0
  have hB0l : B0 ≤ 1000009 := by rw [hB0]; split <;> omega
  rw [hN] at HwA
  rw [hN]
  go_enter Try.func19, Try.ntmps19
  by_cases hk1 : k = 1
  case pos =>
    have hB1 : B0 = d.size := by rw [hB0, if_pos hk1]
    subst hk1
    clear hB0
    go_wp2_with fail
    rw [← unhide HwA]
    clear c0 c1 c2 c3 c4
    go_loopw [4, 5, 6] (fun vn vb vi wr => ∃ i : Nat, i ≤ N ∧ vi = .int .i64 (i : Int) ∧ vn = .int .i64 ((1 + cns (ks.take i) : Nat) : Int) ∧ vb = .int .i64 ((B0 + cbs (ks.take i) : Nat) : Int) ∧ Below w.heap.size w wr ∧ Bx wr w.heap.size (.int .i64 1) (.bool x) (.slice ad d.size cd) (.slice an ns.length cn') (.slice ak N ck) ∧ w.heap.size + 1 ≤ wr.heap.size) (fun _ _ vi _ => N - (intOf vi).toNat)
    case atStart => exact ⟨0, by omega, rfl, by simp [cns], by simp [cbs, hB1], (unhide H0).1, by have := (unhide H0).2.1; rw [unhide HN] at this; exact this, by have := (unhide H0).2.2; omega⟩
    case round =>
      obtain ⟨i, hiN, rfl, rfl, rfl, hbr, hbx, hsr⟩ := hrel
      obtain ⟨c0, c1, c2, c3, c4⟩ := hbx.cells
      have hle := cns_le (ks.take i)
      have hle2 := wts_take_le ks i
      have hwk := (unhide HR).2.2.2
      by_cases hlt : i < N
      · have hk1' : i < ks.length := by rw [unhide HN]; exact hlt
        obtain ⟨g', o', rfl, hg1', hg2', hcell'⟩ := (unhide HR).1.at (by omega)
        obtain ⟨q0, q1, f1, g1, h1, f2, g2, h2, f3, g3, h3, hLi, m0, m1, m2, m3, m4⟩ := kid_sl (unhide HR).2.1 (fun j u hj => by rw [hbr.cell (p := ⟨g', o' + j, none⟩) (show g' < w.heap.size by omega)]; exact hcell' j u hj) (fun i t c h1 h2 => ((unhide HR).2.2.1 i t c h1 h2).kept hbr hhi) i hk1'
        have HI := hide (unhide HIH ks[i] (List.getElem_mem hk1') lo hi _ wr hLi ((unhide HSm).t _ (List.getElem_mem hk1')) (by omega))
        have HS1 := hide (And.intro (cns_take ks i hk1') (cbs_take ks i hk1'))
        have hci := cn_le ks[i]
        have hwi := wts_mem (List.getElem_mem hk1')
        have HW := hide (And.intro hbr hbx)
        clear hcell' hLi hbr hbx
        generalize ks[i] = t at *
        clear hk1'
        have hA1 : cns (ks.take i) ≤ 100000 := by omega
        have hA2 : cbs (ks.take i) ≤ 2000000 := by omega
        have hA3 : cn t ≤ 100000 := by omega
        have hA4 : cb t ≤ 2000000 := by omega
        clear hle hle2 hwk hci hwi
        generalize cns (ks.take i) = sn at *
        generalize cbs (ks.take i) = sb at *
        go_wp2_with fail
        refine (unhide HI).mono ?_
        rintro e w5 ⟨rfl, hb5⟩
        have hs5 := hb5.size
        have HW5 := hide (And.intro ((unhide HW).1.trans (hb5.mono (by omega))) ((unhide HW).2.kept hb5 (by omega)))
        generalize cn t = tn at *
        generalize cb t = tb at *
        clear HI hb5
        go_wp2_with fail
        go_roundw
        case rel => exact ⟨i + 1, by omega, by go_num, by rw [(unhide HS1).1]; go_num, by rw [(unhide HS1).2]; go_num, (unhide HW5).1, (unhide HW5).2, by omega⟩
        case measure => simp [intOf]; try omega
      · obtain rfl : i = N := by omega
        have hfull : ks.take i = ks := List.take_of_length_le (by rw [unhide HN]; omega)
        have HEE := unhide HE
        have HFin : Hid (cn (.mk 1 x d ns ks) = 1 + cns (ks.take i) ∧ cb (.mk 1 x d ns ks) = B0 + cbs (ks.take i)) := by rw [hfull]; exact ⟨HEE.1, by rw [HEE.2, unhide HB0]⟩
        have HB := hide hbr
        clear HEE hfull hbr hbx hle hle2 hwk
        generalize cns (ks.take i) = sn at *
        generalize cbs (ks.take i) = sb at *
        go_wp2_with fail
        go_ret2
        exact ⟨by rw [(unhide HFin).1, (unhide HFin).2]; first | rfl | simp, unhide HB⟩
  case neg =>
    have hB1 : B0 = 0 := by rw [hB0, if_neg hk1]
    have e2 : (k == 1) = false := by simpa using hk1
    clear hB0 hk1
    go_wp2_with fail
    rw [← unhide HwA]
    clear c0 c1 c2 c3 c4
    go_loopw [4, 5, 6] (fun vn vb vi wr => ∃ i : Nat, i ≤ N ∧ vi = .int .i64 (i : Int) ∧ vn = .int .i64 ((1 + cns (ks.take i) : Nat) : Int) ∧ vb = .int .i64 ((B0 + cbs (ks.take i) : Nat) : Int) ∧ Below w.heap.size w wr ∧ Bx wr w.heap.size (.int .i64 k) (.bool x) (.slice ad d.size cd) (.slice an ns.length cn') (.slice ak N ck) ∧ w.heap.size + 1 ≤ wr.heap.size) (fun _ _ vi _ => N - (intOf vi).toNat)
    case atStart => exact ⟨0, by omega, rfl, by simp [cns], by simp [cbs, hB1], (unhide H0).1, by have := (unhide H0).2.1; rw [unhide HN] at this; exact this, by have := (unhide H0).2.2; omega⟩
    case round =>
      obtain ⟨i, hiN, rfl, rfl, rfl, hbr, hbx, hsr⟩ := hrel
      obtain ⟨c0, c1, c2, c3, c4⟩ := hbx.cells
      have hle := cns_le (ks.take i)
      have hle2 := wts_take_le ks i
      have hwk := (unhide HR).2.2.2
      by_cases hlt : i < N
      · have hk1' : i < ks.length := by rw [unhide HN]; exact hlt
        obtain ⟨g', o', rfl, hg1', hg2', hcell'⟩ := (unhide HR).1.at (by omega)
        obtain ⟨q0, q1, f1, g1, h1, f2, g2, h2, f3, g3, h3, hLi, m0, m1, m2, m3, m4⟩ := kid_sl (unhide HR).2.1 (fun j u hj => by rw [hbr.cell (p := ⟨g', o' + j, none⟩) (show g' < w.heap.size by omega)]; exact hcell' j u hj) (fun i t c h1 h2 => ((unhide HR).2.2.1 i t c h1 h2).kept hbr hhi) i hk1'
        have HI := hide (unhide HIH ks[i] (List.getElem_mem hk1') lo hi _ wr hLi ((unhide HSm).t _ (List.getElem_mem hk1')) (by omega))
        have HS1 := hide (And.intro (cns_take ks i hk1') (cbs_take ks i hk1'))
        have hci := cn_le ks[i]
        have hwi := wts_mem (List.getElem_mem hk1')
        have HW := hide (And.intro hbr hbx)
        clear hcell' hLi hbr hbx
        generalize ks[i] = t at *
        clear hk1'
        have hA1 : cns (ks.take i) ≤ 100000 := by omega
        have hA2 : cbs (ks.take i) ≤ 2000000 := by omega
        have hA3 : cn t ≤ 100000 := by omega
        have hA4 : cb t ≤ 2000000 := by omega
        clear hle hle2 hwk hci hwi
        generalize cns (ks.take i) = sn at *
        generalize cbs (ks.take i) = sb at *
        go_wp2_with fail
        refine (unhide HI).mono ?_
        rintro e w5 ⟨rfl, hb5⟩
        have hs5 := hb5.size
        have HW5 := hide (And.intro ((unhide HW).1.trans (hb5.mono (by omega))) ((unhide HW).2.kept hb5 (by omega)))
        generalize cn t = tn at *
        generalize cb t = tb at *
        clear HI hb5
        go_wp2_with fail
        go_roundw
        case rel => exact ⟨i + 1, by omega, by go_num, by rw [(unhide HS1).1]; go_num, by rw [(unhide HS1).2]; go_num, (unhide HW5).1, (unhide HW5).2, by omega⟩
        case measure => simp [intOf]; try omega
      · obtain rfl : i = N := by omega
        have hfull : ks.take i = ks := List.take_of_length_le (by rw [unhide HN]; omega)
        have HEE := unhide HE
        have HFin : Hid (cn (.mk k x d ns ks) = 1 + cns (ks.take i) ∧ cb (.mk k x d ns ks) = B0 + cbs (ks.take i)) := by rw [hfull]; exact ⟨HEE.1, by rw [HEE.2, unhide HB0]⟩
        have HB := hide hbr
        clear HEE hfull hbr hbx hle hle2 hwk
        generalize cns (ks.take i) = sn at *
        generalize cbs (ks.take i) = sb at *
        go_wp2_with fail
        go_ret2
        exact ⟨by rw [(unhide HFin).1, (unhide HFin).2]; first | rfl | simp, unhide HB⟩
end Go.Proofs.Ytikamklgelcnhab
/- The document's Count: checked first. -/
namespace Go.Proofs.Ytikamklgelcnhab
open Go.RowKit
/-- Nodes and bytes, or nothing. -/
noncomputable def countS (T : Tr) : Nat × Nat := if (chk T 1 0).1 = 0 then (cn T, cb T) else (0, 0)
set_option maxRecDepth 20000 in
set_option maxHeartbeats 1000000 in
theorem rcounts_any (T : Tr) (lo hi : Nat) (cs : List Value) (w : World) (hL : Lies lo hi w T cs) (hW : wt T ≤ 100000) (hhi : hi ≤ w.heap.size) :
    Calls Try.prog 8 #[.agg cs.toArray] w fun e w' => e = .returned (.tuple #[.int .i64 (((countS T).1 : Nat) : Int), .int .i64 (((countS T).2 : Nat) : Int)]) ∧ Below w.heap.size w w' := by
  obtain ⟨kt, xt, at0, nt, ct, bt, mt, dt, et, pt, qt, rfl⟩ := hL.form
  have HC1 := hide (fun W (h : Below w.heap.size w W) => checkR_any T lo hi _ W (hL.kept h hhi) hW (by have := h.size; omega))
  have HC2 := hide (fun W (h : Below w.heap.size w W) => rcount_any T lo hi _ W (hL.kept h hhi) hW (by have := h.size; omega))
  obtain ⟨wA, hwA⟩ : ∃ wA, wA = w.alloc (.cells #[.int .i64 kt, .bool xt, .slice at0 nt ct, .slice bt mt dt, .slice et pt qt] 26) := ⟨_, rfl⟩
  have hbA : Below w.heap.size w wA := by rw [hwA]; exact (Below.refl _ _).alloc (Nat.le_refl _) _
  have hsA : wA.heap.size = w.heap.size + 1 := by rw [hwA]; simp
  have hbx : Bx wA w.heap.size (.int .i64 kt) (.bool xt) (.slice at0 nt ct) (.slice bt mt dt) (.slice et pt qt) := by rw [hwA]; exact bx_new _ _ _ _ _ _
  have HA := hide (And.intro hbA (And.intro hsA hbx))
  have HwA := hide hwA
  have HF : Hid (countS T = if (chk T 1 0).1 = 0 then (cn T, cb T) else (0, 0)) := rfl
  clear hL hwA hbA hsA hbx
  go_enter Try.func8, Try.ntmps8
  go_wp2_with fail
  rw [← unhide HwA]
  refine (unhide HC1 wA (unhide HA).1).mono ?_
  rintro e w1 ⟨rfl, hb1⟩
  have hs1 := hb1.size
  have HA1 := hide (And.intro ((unhide HA).1.trans (hb1.mono (by have := (unhide HA).2.1; omega))) ((unhide HA).2.2.kept hb1 (by have := (unhide HA).2.1; omega)))
  clear HC1 HwA hb1 HA
  by_cases hc1 : (chk T 1 0).1 = 0
  case neg =>
    have hn1 := ne0 hc1
    rw [if_neg hc1] at HF
    clear hc1
    generalize (chk T 1 0).1 = c1 at *
    go_wp2_with fail
    rw [unhide HF]
    go_ret2
    exact ⟨rfl, (unhide HA1).1⟩
  case pos =>
  rw [if_pos hc1] at HF
  rw [hc1]
  clear hc1
  obtain ⟨y0, y1, y2, y3, y4⟩ := (unhide HA1).2.cells
  go_wp2_with fail
  refine (unhide HC2 w1 (unhide HA1).1).mono ?_
  rintro e w2 ⟨rfl, hb2⟩
  have hs2 := (unhide HA1).1.size
  generalize cn T = a at *
  generalize cb T = b at *
  go_wp2_with fail
  rw [unhide HF]
  go_ret2
  exact ⟨rfl, (unhide HA1).1.trans (hb2.mono (by omega))⟩
end Go.Proofs.Ytikamklgelcnhab
/- An archive's bytes: a multiple of eight, and no fewer than its files have. -/
namespace Go.Proofs.Ytikamklgelcnhab
open Go.RowKit
theorem pad8 (n : Nat) : (n + padN n) % 8 = 0 := by unfold padN; omega
theorem node_eights (T : Tr) : ∀ {deep n : Nat}, (chk T deep n).1 = 0 → (nodeB T).length % 8 = 0 ∧ cb T ≤ (nodeB T).length := by
  induction T using Tr.ind with
  | h k x d ns ks ih =>
  intro deep n hc
  obtain ⟨h1, _, h3⟩ := chk_kids hc
  have hs : ∀ (ns : List ByteArray) (ks' : List Tr), (∀ t ∈ ks', t ∈ ks) → ns.length = ks'.length → (entsB ns ks').length % 8 = 0 ∧ cbs ks' ≤ (entsB ns ks').length := by
    intro ns
    induction ns with
    | nil =>
      intro ks' _ hl
      cases ks' with
      | nil => rw [entsB_nil, cbs]; simp
      | cons t r => simp at hl
    | cons n ns ihn =>
      intro ks' hk hl
      cases ks' with
      | nil => simp at hl
      | cons t ks' =>
        rw [entsB, cbs]
        have e1 := ihn ks' (fun t ht => hk t (by simp [ht])) (by simpa using hl)
        obtain ⟨n', hn'⟩ := h3 t (hk t (by simp))
        have e2 := ih t (hk t (by simp)) hn'
        have l1 : (txs [wClose]).length = 16 := by decide
        have l2 : (txs [wEntry, wOpen, wName, sB n, wNode]).length = 72 + n.size + padN n.size := by
          simp only [txs, List.length_append, tx_len, sB_len, List.length_nil]
          have a1 : wEntry.length = 5 := rfl
          have a2 : wOpen.length = 1 := rfl
          have a3 : wName.length = 4 := rfl
          have a4 : wNode.length = 4 := rfl
          rw [a1, a2, a3, a4]
          have b1 : padN 5 = 3 := rfl
          have b2 : padN 1 = 7 := rfl
          have b3 : padN 4 = 4 := rfl
          rw [b1, b2, b3]
          omega
        have hp := pad8 n.size
        simp only [List.length_append, l1, l2]
        omega
  have hp := pad8 d.size
  have l1 : (txs [wOpen, wType]).length = 32 := by decide
  have l2 : (txs [wClose]).length = 16 := by decide
  have l3 : (txs [wReg]).length = 16 := by decide
  have l4 : (txs [wCont]).length = 16 := by decide
  have l5 : (txs [wExec, []]).length = 32 := by decide
  have l6 : (txs [wSym, wTarg]).length = 32 := by decide
  have l7 : (txs [wDir]).length = 24 := by decide
  rw [nodeB, cb]
  rcases loc0 h1 with ⟨hk, h4, h5⟩ | ⟨hk, _, h4, h5⟩ | ⟨hk, _, _, h4, h5⟩
  · have hk0 : ks = [] := List.eq_nil_of_length_eq_zero (by omega)
    rw [if_pos hk, if_pos hk, hk0, cbs]
    split <;> simp only [List.length_append, List.length_nil, tx_len, sB_len, l1, l2, l3, l4, l5] <;> omega
  · have hk0 : ks = [] := List.eq_nil_of_length_eq_zero (by omega)
    rw [if_neg (by omega), if_pos hk, if_neg (by omega), hk0, cbs]
    simp only [List.length_append, tx_len, sB_len, l1, l2, l6]; omega
  · have he := hs ns ks (fun t ht => ht) h4
    rw [if_neg (by omega), if_neg (by omega), if_pos hk, if_neg (by omega)]
    simp only [List.length_append, l1, l2, l7]; omega
theorem nar_eights {T : Tr} (h : (chk T 1 0).1 = 0) : (narB T).length % 8 = 0 ∧ cb T ≤ (narB T).length := by
  have := node_eights T h
  have hl24 : (txs [wMagic]).length = 24 := by decide
  unfold narB; rw [List.length_append]; omega
end Go.Proofs.Ytikamklgelcnhab
