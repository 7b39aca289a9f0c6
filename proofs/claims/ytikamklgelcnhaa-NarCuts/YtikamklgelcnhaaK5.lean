import Derived.Test.YtikamklgelcnhaaK3
import Derived.Test.YtikamklgelcnhaaK4
import Derived.Deep.RegionLaw
/- writeEntries and writeNode: the walks. -/
namespace Go.Proofs.Ytikamklgelcnhaa
open Go.RowKit
set_option linter.unusedSimpArgs false
/-- What writeNode does. -/
def NodeC (c : Nat) (T : Tr) : Prop := ∀ (lo hi : Nat) (cs : List Value) (w : World) (v : Value) (xs : List UInt8), Lies lo hi w T cs → hi ≤ c → Has c w v xs → xs.length + (nodeB T).length ≤ 10000000 → (nodeB T).length ≤ 960000 →
  Calls Try.prog 45 #[.agg cs.toArray, .func (Fn.func 28) #[] #[.pointer (some ⟨c, 0, none⟩)]] w fun e w' => e = .returned (.tuple #[]) ∧ SkA c w v (xs ++ nodeB T) w'
set_option maxRecDepth 20000 in
set_option maxHeartbeats 4000000 in
theorem writeEntries_any (c : Nat) (k : Int) (x : Bool) (d : ByteArray) (ns : List ByteArray) (ks : List Tr) (ih : ∀ t ∈ ks, NodeC c t) (lo hi : Nat) (cs : List Value) (w : World) (v : Value) (xs : List UInt8) (hL : Lies lo hi w (.mk k x d ns ks) cs) (hhi : hi ≤ c) (hS : Has c w v xs) (hle : ns.length = ks.length) (hNm : ns.length ≤ 100000) (hmax : xs.length + (entsB ns ks).length ≤ 10000000) (hm2 : (entsB ns ks).length ≤ 960000) :
    Calls Try.prog 67 #[.agg cs.toArray, .func (Fn.func 28) #[] #[.pointer (some ⟨c, 0, none⟩)]] w fun e w' => e = .returned (.tuple #[]) ∧ SkA c w v (xs ++ entsB ns ks) w' := by
  have hcl := hS.ctr.lt
  have hown : ∀ g, v.ownBlock = some g → c + 1 ≤ g ∧ g < w.heap.size := fun g hg => owns_lt hS.row g hg
  cases hL with
  | mk _ _ _ _ _ vd vn vk Ks hl hd hn hk hK =>
  obtain ⟨ad, cd, rfl, hcd⟩ := hd.slice
  obtain ⟨an, cn, rfl, hcn⟩ := hn.slice
  obtain ⟨ak, ck, rfl, hck⟩ := hk.slice
  obtain ⟨N, hN⟩ : ∃ N, ns.length = N := ⟨_, rfl⟩
  have hNk : ks.length = N := by omega
  rw [hN] at hn hcn hNm ⊢
  rw [hNk] at hk hck ⊢
  obtain ⟨W0, hW0⟩ : ∃ W0, W0 = w.alloc (.cells #[.int .i64 k, .bool x, .slice ad d.size cd, .slice an N cn, .slice ak N ck] 26) := ⟨_, rfl⟩
  have hb0 : Below w.heap.size w W0 := by rw [hW0]; exact (Below.refl _ _).alloc (Nat.le_refl _) _
  have hs0 : W0.heap.size = w.heap.size + 1 := by rw [hW0]; simp
  have hx0 : Bx W0 w.heap.size (.int .i64 k) (.bool x) (.slice ad d.size cd) (.slice an N cn) (.slice ak N ck) := by rw [hW0]; exact bx_new _ _ _ _ _ _
  have hA0 : At c W0 W0 v v xs := ⟨Gt.of_below v (Below.refl _ _), hS.kept hb0⟩
  have HW0 := hide hW0
  have HG0 : Hid (Gt c w W0 v v) := Gt.of_below v hb0
  have HA0 := hide (And.intro hA0 hx0)
  have HT := hide (And.intro (hn.below hb0 (by omega)) (And.intro (hk.below hb0 (by omega)) (And.intro hl (fun i t c h1 h2 => (hK i t c h1 h2).kept hb0 (by omega)))))
  have HM := hide (And.intro hmax (And.intro hm2 (And.intro hN hNk)))
  have HIH := hide ih
  have HO := hide hown
  clear hW0 hb0 hx0 hA0 hS hd hn hk hl hK hmax hm2 ih hown hN hNk hle
  go_enter Try.func67, Try.ntmps67
  go_wp2_with fail
  rw [← unhide HW0]
  go_loopw [9] (fun vi wr => ∃ (i : Nat) (v' : Value), i ≤ N ∧ vi = .int .i64 (i : Int) ∧ Hid (At c W0 wr v v' (xs ++ entsB (ns.take i) (ks.take i))) ∧ Bx wr w.heap.size (.int .i64 k) (.bool x) (.slice ad d.size cd) (.slice an N cn) (.slice ak N ck)) (fun vi _ => N - (intOf vi).toNat)
  case atStart => exact ⟨0, v, by omega, rfl, by show At _ _ _ _ _ _; rw [List.take_zero, entsB_nil, List.append_nil]; exact (unhide HA0).1, (unhide HA0).2⟩
  case round =>
    obtain ⟨i, v', hiN, rfl, hA, hB⟩ := hrel
    obtain ⟨hmax, hm2, hN, hNk⟩ := unhide HM
    have hsr := (unhide hA).g.size
    by_cases hlt : i < N
    · have hi1 : i < ns.length := by omega
      have hi2 : i < ks.length := by omega
      have htk := entsB_take hi1 hi2
      have hle1 := entsB_le ns ks (i + 1)
      rw [htk] at hle1
      simp only [List.length_append] at hle1
      have hvo : ∀ g, v.ownBlock = some g → g < lo ∨ hi ≤ g := fun g hg => by have := (unhide HO g hg).1; omega
      have hnr := (unhide hA).g.row (unhide HT).1 (by omega) (.inr hhi) hvo
      obtain ⟨g, o, rfl, hcx⟩ := row_strX hnr hN i hlt
      have hgl : g < wr.heap.size := cell_lt hcx
      have hL1 := hide (lits_any c [⟨#[101, 110, 116, 114, 121]⟩, ⟨#[40]⟩, ⟨#[110, 97, 109, 101]⟩, ns.getD i ⟨#[]⟩, ⟨#[110, 111, 100, 101]⟩] W0 wr v v' _ (unhide hA) (by simp) (by
        show _ + (txs [wEntry, wOpen, wName, sB (ns.getD i ⟨#[]⟩), wNode]).length ≤ _
        rw [List.length_append]; omega) (by
        show (txs [wEntry, wOpen, wName, sB (ns.getD i ⟨#[]⟩), wNode]).length ≤ _
        omega))
      obtain ⟨y0, y1, y2, y3, y4⟩ := hB.cells
      have hlB : w.heap.size < wr.heap.size := by omega
      have HTK := hide htk
      have HLE := hide hle1
      have HB := hide hB
      generalize hsi : ns.getD i ⟨#[]⟩ = s at *
      clear htk hle1 hnr hB hsi
      go_wp2_with fail
      refine (unhide hL1).mono ?_
      rintro e w1 ⟨rfl, v1, hA1, hg1⟩
      have hB1 := (unhide hA).box hg1 (fun g hg => (unhide HO g hg).2) (by omega) (by omega) (unhide HB)
      have hs1 := hg1.size
      have hkr := hA1.g.row (unhide HT).2.1 (by omega) (.inr hhi) hvo
      obtain ⟨gk, ok, eak, hgk1, hgk2, hcell⟩ := hkr.at (by omega)
      have hKr : ∀ (i : Nat) (t : Tr) (c' : List Value), ks[i]? = some t → Ks[i]? = some c' → Lies lo hi w1 t c' := fun i t c' h1 h2 => Lies.gt hA1.g ((unhide HT).2.2.2 i t c' h1 h2) hhi (by omega) (fun g hg => by have := (unhide HO g hg).1; omega)
      obtain ⟨k1, x1, b1, b2, b3, b4, b5, b6, b7, b8, b9, hLi, z0, z1, z2, z3, z4⟩ := kid_sl (unhide HT).2.2.1 hcell hKr i hi2
      have hlen0 : (xs ++ entsB (ns.take i) (ks.take i)).length = xs.length + (entsB (ns.take i) (ks.take i)).length := List.length_append
      have HI := hide (unhide HIH ks[i] (List.getElem_mem hi2) lo hi _ w1 v1 _ hLi hhi hA1.h (by
        have := unhide HLE
        rw [List.length_append, hlen0]
        show _ + (txs [wEntry, wOpen, wName, sB s, wNode]).length + _ ≤ _
        omega) (by have := unhide HLE; omega))
      obtain ⟨t0, t1, t2, t3, t4⟩ := hB1.cells
      have HA1 := hide hA1
      have HB1 := hide hB1
      subst eak
      have hgkl : gk < w1.heap.size := by omega
      clear hL1 hg1 hA1 hkr hcell hKr hLi hB1 y0 y1 y2 y3 y4 hcx hA HB
      generalize ks[i] = t at *
      go_wp2_with fail
      refine (unhide HI).mono ?_
      rintro e w2 ⟨rfl, hk2⟩
      obtain ⟨v2, hA2, hg2⟩ := (unhide HA1).step hk2
      have hB2 := (unhide HA1).box hg2 (fun g hg => (unhide HO g hg).2) (by omega) (by omega) (unhide HB1)
      have hL3 := hide (lits_any c [⟨#[41]⟩] W0 w2 v v2 _ hA2 (by simp) (by
        have := unhide HLE
        rw [List.length_append, List.length_append, hlen0]
        show _ + (txs [wEntry, wOpen, wName, sB s, wNode]).length + _ + (txs [wClose]).length ≤ _
        omega) (by show (txs [wClose]).length ≤ _; decide))
      have HA2 := hide (And.intro hA2 hB2)
      clear HI hk2 hA2 hg2 hB2 z0 z1 z2 z3 z4 t0 t1 t2 t3 t4 HB1
      go_wp2_with fail
      refine (unhide hL3).mono ?_
      rintro e w3 ⟨rfl, v3, hA3, hg3⟩
      have hB3 := (unhide HA2).1.box hg3 (fun g hg => (unhide HO g hg).2) (by omega) (by omega) (unhide HA2).2
      have HA3 : Hid (At c W0 w3 v v3 (xs ++ entsB (ns.take (i + 1)) (ks.take (i + 1)))) := by
        show At _ _ _ _ _ _
        rw [unhide HTK]
        have hA3' : At c W0 w3 v v3 (xs ++ entsB (ns.take i) (ks.take i) ++ txs [wEntry, wOpen, wName, sB s, wNode] ++ nodeB t ++ txs [wClose]) := hA3
        simpa only [List.append_assoc] using hA3'
      have HB3 := hide hB3
      clear hL3 hA3 hg3 hB3 HA2 HA1
      go_wp2_with fail
      go_roundw
      case rel => exact ⟨i + 1, v3, by omega, by go_num, unhide HA3, unhide HB3⟩
      case measure => simp [intOf]; try omega
    · obtain rfl : N = i := by omega
      have e1 : ns.take N = ns := List.take_of_length_le (by omega)
      have e2 : ks.take N = ks := List.take_of_length_le (by omega)
      rw [e1, e2] at hA
      have HE : Hid (SkA c w v (xs ++ entsB ns ks) wr) := SkA.trans (unhide HG0) ⟨v', (unhide hA).g, (unhide hA).h⟩
      clear hA e1 e2 hmax hm2
      go_wp2_with fail
      exact bodyPost_end (v := .tuple #[]) (by simp [results, Try.results67, go_sem]) rfl ⟨rfl, unhide HE⟩
set_option maxRecDepth 20000 in
set_option maxHeartbeats 8000000 in
theorem writeNode_any (c : Nat) (T : Tr) : Nice T → wt T ≤ 100000 → NodeC c T := by
  induction T using Tr.ind with
  | h K x d ns ks ih =>
  intro hN hW lo hi cs w v xs hL hhi hS hmax hm2
  have hSm := small_of hW
  have hcl := hS.ctr.lt
  have hown : ∀ g, v.ownBlock = some g → c + 1 ≤ g ∧ g < w.heap.size := fun g hg => owns_lt hS.row g hg
  have HL := hide hL
  obtain ⟨hnk, hkn⟩ : ns.length = ks.length ∧ ∀ t ∈ ks, Nice t := by cases hN with | mk _ _ _ _ _ h1 h2 h3 => exact ⟨h2, h3⟩
  cases hL with
  | mk _ _ _ _ _ vd vn vk Ks hl hd hn hk hK =>
  obtain ⟨ad, cd, rfl, hcd⟩ := hd.slice
  obtain ⟨an, cn, rfl, hcn⟩ := hn.slice
  obtain ⟨ak, ck, rfl, hck⟩ := hk.slice
  obtain ⟨W0, hW0⟩ : ∃ W0, W0 = w.alloc (.cells #[.int .i64 K, .bool x, .slice ad d.size cd, .slice an ns.length cn, .slice ak ks.length ck] 26) := ⟨_, rfl⟩
  have hb0 : Below w.heap.size w W0 := by rw [hW0]; exact (Below.refl _ _).alloc (Nat.le_refl _) _
  have hs0 : W0.heap.size = w.heap.size + 1 := by rw [hW0]; simp
  have hx0 : Bx W0 w.heap.size (.int .i64 K) (.bool x) (.slice ad d.size cd) (.slice an ns.length cn) (.slice ak ks.length ck) := by rw [hW0]; exact bx_new _ _ _ _ _ _
  have hA0 : At c W0 W0 v v xs := ⟨Gt.of_below v (Below.refl _ _), hS.kept hb0⟩
  have HW0 := hide hW0
  have HG0 : Hid (Gt c w W0 v v) := Gt.of_below v hb0
  have HA0 := hide (And.intro hA0 hx0)
  have HD := hide (hd.below hb0 (by omega))
  have HE := hide (fun (W : World) (v' : Value) (ys : List UInt8) (g : Gt c W0 W v v') (h : Has c W v' ys) => writeEntries_any c K x d ns ks (fun t ht => ih t ht (hkn t ht) (hSm.t t ht)) lo hi _ W v' ys (Lies.gt g ((unhide HL).kept hb0 (by omega)) hhi (by omega) (fun g hg => by have := (hown g hg).1; omega)) hhi h hnk (by have := hSm.n; omega))
  have HO := hide hown
  have hvo : ∀ g, v.ownBlock = some g → g < lo ∨ hi ≤ g := fun g hg => by have := (hown g hg).1; omega
  have l1 : (txs [wOpen, wType]).length = 32 := by decide
  have l2 : (txs [wClose]).length = 16 := by decide
  have hWA : (W0.alloc (.cells #[.string ⟨#[40]⟩, .string ⟨#[116, 121, 112, 101]⟩] 9)) = (w.alloc (.cells #[.int .i64 K, .bool x, .slice ad d.size cd, .slice an ns.length cn, .slice ak ks.length ck] 26)).alloc (.cells #[.string ⟨#[40]⟩, .string ⟨#[116, 121, 112, 101]⟩] 9) := by rw [hW0]
  have HL1 := hide (lits_any c [⟨#[40]⟩, ⟨#[116, 121, 112, 101]⟩] W0 W0 v v _ hA0 (by simp) (by
    show _ + (txs [wOpen, wType]).length ≤ _
    rw [nodeB] at hmax
    simp only [List.length_append] at hmax
    omega) (by show (txs [wOpen, wType]).length ≤ _; omega))
  have HM := hide (And.intro hmax hm2)
  clear hN hW hSm hnk hkn hd hn hk hl hK hb0 hx0 hA0 hown ih hS hmax hm2
  rw [show W0.heap.size = w.heap.size + 1 from hs0] at HL1
  go_enter Try.func45, Try.ntmps45
  go_wp2_with fail
  rw [← unhide HW0]
  refine (unhide HL1).mono ?_
  rintro e w1 ⟨rfl, v1, hA, hg⟩
  have HA1 : Hid (At c W0 w1 v v1 (xs ++ txs [wOpen, wType]) ∧ Bx w1 w.heap.size (.int .i64 K) (.bool x) (.slice ad d.size cd) (.slice an ns.length cn) (.slice ak ks.length ck)) := ⟨hA, (unhide HA0).1.box hg (fun g hg => (unhide HO g hg).2) (by omega) (by omega) (unhide HA0).2⟩
  have hs1 := hg.size
  clear HL1 hA hg hW0 hWA HW0
  by_cases hk1 : K = 1
  case pos =>
    subst hk1
    have l3 : (txs [wReg]).length = 16 := by decide
    have l4 : (txs [wCont]).length = 16 := by decide
    have l5 : (txs [wExec, []]).length = 32 := by decide
    cases x
    case true =>
      have hnb : nodeB (.mk 1 true d ns ks) = txs [wOpen, wType] ++ (txs [wReg] ++ txs [wExec, []] ++ txs [wCont] ++ tx (sB d)) ++ txs [wClose] := by rw [nodeB, if_pos rfl]; rfl
      obtain ⟨hmax, hm2⟩ := unhide HM
      rw [hnb] at hmax hm2
      simp only [List.length_append, List.length_nil] at hmax hm2
      have HNB := hide hnb
      clear hnb HM
      obtain ⟨y0, y1, y2, y3, y4⟩ := (unhide HA1).2.cells
      have HX := hide (lits_any c [⟨#[114, 101, 103, 117, 108, 97, 114]⟩] W0 w1 v v1 _ (unhide HA1).1 (by simp) (by
        show _ + (txs [wReg]).length ≤ _
        simp only [List.length_append]
        omega) (by show (txs [wReg]).length ≤ _; omega))
      go_wp2_with fail
      refine (unhide HX).mono ?_
      rintro e w2 ⟨rfl, v2, hA, hg⟩
      have HA2 : Hid (At c W0 w2 v v2 (xs ++ txs [wOpen, wType] ++ txs [wReg]) ∧ Bx w2 w.heap.size (.int .i64 1) (.bool true) (.slice ad d.size cd) (.slice an ns.length cn) (.slice ak ks.length ck)) := ⟨hA, (unhide HA1).1.box hg (fun g hg => (unhide HO g hg).2) (by omega) (by omega) (unhide HA1).2⟩
      have hs2 := hg.size
      clear HX hA hg HA1 y0 y1 y2 y3 y4
      obtain ⟨y0, y1, y2, y3, y4⟩ := (unhide HA2).2.cells
      have HX := hide (lits_any c [⟨#[101, 120, 101, 99, 117, 116, 97, 98, 108, 101]⟩, ⟨#[]⟩] W0 w2 v v2 _ (unhide HA2).1 (by simp) (by
        show _ + (txs [wExec, []]).length ≤ _
        simp only [List.length_append]
        omega) (by show (txs [wExec, []]).length ≤ _; omega))
      go_wp2_with fail
      refine (unhide HX).mono ?_
      rintro e w3 ⟨rfl, v3, hA, hg⟩
      have HA3 : Hid (At c W0 w3 v v3 (xs ++ txs [wOpen, wType] ++ txs [wReg] ++ txs [wExec, []]) ∧ Bx w3 w.heap.size (.int .i64 1) (.bool true) (.slice ad d.size cd) (.slice an ns.length cn) (.slice ak ks.length ck)) := ⟨hA, (unhide HA2).1.box hg (fun g hg => (unhide HO g hg).2) (by omega) (by omega) (unhide HA2).2⟩
      have hs3 := hg.size
      clear HX hA hg HA2 y0 y1 y2 y3 y4
      obtain ⟨y0, y1, y2, y3, y4⟩ := (unhide HA3).2.cells
      have HX := hide (lits_any c [⟨#[99, 111, 110, 116, 101, 110, 116, 115]⟩] W0 w3 v v3 _ (unhide HA3).1 (by simp) (by
        show _ + (txs [wCont]).length ≤ _
        simp only [List.length_append]
        omega) (by show (txs [wCont]).length ≤ _; omega))
      go_wp2_with fail
      refine (unhide HX).mono ?_
      rintro e w4 ⟨rfl, v4, hA, hg⟩
      have HA4 : Hid (At c W0 w4 v v4 (xs ++ txs [wOpen, wType] ++ txs [wReg] ++ txs [wExec, []] ++ txs [wCont]) ∧ Bx w4 w.heap.size (.int .i64 1) (.bool true) (.slice ad d.size cd) (.slice an ns.length cn) (.slice ak ks.length ck)) := ⟨hA, (unhide HA3).1.box hg (fun g hg => (unhide HO g hg).2) (by omega) (by omega) (unhide HA3).2⟩
      have hs4 := hg.size
      clear HX hA hg HA3 y0 y1 y2 y3 y4
      obtain ⟨y0, y1, y2, y3, y4⟩ := (unhide HA4).2.cells
      have HX := hide (writeData_any c v4 _ (sB d) lo hi ad d.size cd w4 (unhide HA4).1.h ((unhide HA4).1.g.row (unhide HD) (by omega) (.inr hhi) hvo) rfl hhi (by simp only [List.length_append]; omega))
      go_wp2_with fail
      refine (unhide HX).mono ?_
      rintro e w5 ⟨rfl, hk⟩
      obtain ⟨v5, hA, hg⟩ := (unhide HA4).1.step hk
      clear hk
      have HA5 : Hid (At c W0 w5 v v5 (xs ++ txs [wOpen, wType] ++ txs [wReg] ++ txs [wExec, []] ++ txs [wCont] ++ tx (sB d)) ∧ Bx w5 w.heap.size (.int .i64 1) (.bool true) (.slice ad d.size cd) (.slice an ns.length cn) (.slice ak ks.length ck)) := ⟨hA, (unhide HA4).1.box hg (fun g hg => (unhide HO g hg).2) (by omega) (by omega) (unhide HA4).2⟩
      have hs5 := hg.size
      clear HX hA hg HA4 y0 y1 y2 y3 y4
      obtain ⟨y0, y1, y2, y3, y4⟩ := (unhide HA5).2.cells
      have HX := hide (lits_any c [⟨#[41]⟩] W0 w5 v v5 _ (unhide HA5).1 (by simp) (by
        show _ + (txs [wClose]).length ≤ _
        simp only [List.length_append]
        omega) (by show (txs [wClose]).length ≤ _; omega))
      go_wp2_with fail
      refine (unhide HX).mono ?_
      rintro e w6 ⟨rfl, v6, hA, hg⟩
      have HA6 : Hid (At c W0 w6 v v6 (xs ++ txs [wOpen, wType] ++ txs [wReg] ++ txs [wExec, []] ++ txs [wCont] ++ tx (sB d) ++ txs [wClose]) ∧ Bx w6 w.heap.size (.int .i64 1) (.bool true) (.slice ad d.size cd) (.slice an ns.length cn) (.slice ak ks.length ck)) := ⟨hA, (unhide HA5).1.box hg (fun g hg => (unhide HO g hg).2) (by omega) (by omega) (unhide HA5).2⟩
      have hs6 := hg.size
      clear HX hA hg HA5 y0 y1 y2 y3 y4
      have HZ : Hid (SkA c w v (xs ++ nodeB (.mk 1 true d ns ks)) w6) := by
        have h := SkA.trans (unhide HG0) ⟨v6, (unhide HA6).1.g, (unhide HA6).1.h⟩
        show SkA _ _ _ _ _
        rw [unhide HNB]
        simpa only [List.append_assoc, List.nil_append, List.append_nil] using h
      clear HA6
      go_wp2_with fail
      exact bodyPost_end (v := .tuple #[]) (by simp [results, Try.results45, go_sem]) rfl ⟨rfl, unhide HZ⟩
    case false =>
      have hnb : nodeB (.mk 1 false d ns ks) = txs [wOpen, wType] ++ (txs [wReg] ++ [] ++ txs [wCont] ++ tx (sB d)) ++ txs [wClose] := by rw [nodeB, if_pos rfl]; rfl
      obtain ⟨hmax, hm2⟩ := unhide HM
      rw [hnb] at hmax hm2
      simp only [List.length_append, List.length_nil] at hmax hm2
      have HNB := hide hnb
      clear hnb HM
      obtain ⟨y0, y1, y2, y3, y4⟩ := (unhide HA1).2.cells
      have HX := hide (lits_any c [⟨#[114, 101, 103, 117, 108, 97, 114]⟩] W0 w1 v v1 _ (unhide HA1).1 (by simp) (by
        show _ + (txs [wReg]).length ≤ _
        simp only [List.length_append]
        omega) (by show (txs [wReg]).length ≤ _; omega))
      go_wp2_with fail
      refine (unhide HX).mono ?_
      rintro e w2 ⟨rfl, v2, hA, hg⟩
      have HA2 : Hid (At c W0 w2 v v2 (xs ++ txs [wOpen, wType] ++ txs [wReg]) ∧ Bx w2 w.heap.size (.int .i64 1) (.bool false) (.slice ad d.size cd) (.slice an ns.length cn) (.slice ak ks.length ck)) := ⟨hA, (unhide HA1).1.box hg (fun g hg => (unhide HO g hg).2) (by omega) (by omega) (unhide HA1).2⟩
      have hs2 := hg.size
      clear HX hA hg HA1 y0 y1 y2 y3 y4
      obtain ⟨y0, y1, y2, y3, y4⟩ := (unhide HA2).2.cells
      have HX := hide (lits_any c [⟨#[99, 111, 110, 116, 101, 110, 116, 115]⟩] W0 w2 v v2 _ (unhide HA2).1 (by simp) (by
        show _ + (txs [wCont]).length ≤ _
        simp only [List.length_append]
        omega) (by show (txs [wCont]).length ≤ _; omega))
      go_wp2_with fail
      refine (unhide HX).mono ?_
      rintro e w3 ⟨rfl, v3, hA, hg⟩
      have HA3 : Hid (At c W0 w3 v v3 (xs ++ txs [wOpen, wType] ++ txs [wReg] ++ txs [wCont]) ∧ Bx w3 w.heap.size (.int .i64 1) (.bool false) (.slice ad d.size cd) (.slice an ns.length cn) (.slice ak ks.length ck)) := ⟨hA, (unhide HA2).1.box hg (fun g hg => (unhide HO g hg).2) (by omega) (by omega) (unhide HA2).2⟩
      have hs3 := hg.size
      clear HX hA hg HA2 y0 y1 y2 y3 y4
      obtain ⟨y0, y1, y2, y3, y4⟩ := (unhide HA3).2.cells
      have HX := hide (writeData_any c v3 _ (sB d) lo hi ad d.size cd w3 (unhide HA3).1.h ((unhide HA3).1.g.row (unhide HD) (by omega) (.inr hhi) hvo) rfl hhi (by simp only [List.length_append]; omega))
      go_wp2_with fail
      refine (unhide HX).mono ?_
      rintro e w4 ⟨rfl, hk⟩
      obtain ⟨v4, hA, hg⟩ := (unhide HA3).1.step hk
      clear hk
      have HA4 : Hid (At c W0 w4 v v4 (xs ++ txs [wOpen, wType] ++ txs [wReg] ++ txs [wCont] ++ tx (sB d)) ∧ Bx w4 w.heap.size (.int .i64 1) (.bool false) (.slice ad d.size cd) (.slice an ns.length cn) (.slice ak ks.length ck)) := ⟨hA, (unhide HA3).1.box hg (fun g hg => (unhide HO g hg).2) (by omega) (by omega) (unhide HA3).2⟩
      have hs4 := hg.size
      clear HX hA hg HA3 y0 y1 y2 y3 y4
      obtain ⟨y0, y1, y2, y3, y4⟩ := (unhide HA4).2.cells
      have HX := hide (lits_any c [⟨#[41]⟩] W0 w4 v v4 _ (unhide HA4).1 (by simp) (by
        show _ + (txs [wClose]).length ≤ _
        simp only [List.length_append]
        omega) (by show (txs [wClose]).length ≤ _; omega))
      go_wp2_with fail
      refine (unhide HX).mono ?_
      rintro e w5 ⟨rfl, v5, hA, hg⟩
      have HA5 : Hid (At c W0 w5 v v5 (xs ++ txs [wOpen, wType] ++ txs [wReg] ++ txs [wCont] ++ tx (sB d) ++ txs [wClose]) ∧ Bx w5 w.heap.size (.int .i64 1) (.bool false) (.slice ad d.size cd) (.slice an ns.length cn) (.slice ak ks.length ck)) := ⟨hA, (unhide HA4).1.box hg (fun g hg => (unhide HO g hg).2) (by omega) (by omega) (unhide HA4).2⟩
      have hs5 := hg.size
      clear HX hA hg HA4 y0 y1 y2 y3 y4
      have HZ : Hid (SkA c w v (xs ++ nodeB (.mk 1 false d ns ks)) w5) := by
        have h := SkA.trans (unhide HG0) ⟨v5, (unhide HA5).1.g, (unhide HA5).1.h⟩
        show SkA _ _ _ _ _
        rw [unhide HNB]
        simpa only [List.append_assoc, List.nil_append, List.append_nil] using h
      clear HA5
      go_wp2_with fail
      exact bodyPost_end (v := .tuple #[]) (by simp [results, Try.results45, go_sem]) rfl ⟨rfl, unhide HZ⟩
  have e1 : (K == 1) = false := by simpa using hk1
  by_cases hk3 : K = 3
  case pos =>
    subst hk3
    have l3 : (txs [wSym, wTarg]).length = 32 := by decide
    have hnb : nodeB (.mk 3 x d ns ks) = txs [wOpen, wType] ++ (txs [wSym, wTarg] ++ tx (sB d)) ++ txs [wClose] := by rw [nodeB, if_neg (by decide), if_pos rfl]
    obtain ⟨hmax, hm2⟩ := unhide HM
    rw [hnb] at hmax hm2
    simp only [List.length_append, List.length_nil] at hmax hm2
    have HNB := hide hnb
    clear hnb HM
    obtain ⟨y0, y1, y2, y3, y4⟩ := (unhide HA1).2.cells
    have HX := hide (lits_any c [⟨#[115, 121, 109, 108, 105, 110, 107]⟩, ⟨#[116, 97, 114, 103, 101, 116]⟩] W0 w1 v v1 _ (unhide HA1).1 (by simp) (by
      show _ + (txs [wSym, wTarg]).length ≤ _
      simp only [List.length_append]
      omega) (by show (txs [wSym, wTarg]).length ≤ _; omega))
    go_wp2_with fail
    refine (unhide HX).mono ?_
    rintro e w2 ⟨rfl, v2, hA, hg⟩
    have HA2 : Hid (At c W0 w2 v v2 (xs ++ txs [wOpen, wType] ++ txs [wSym, wTarg]) ∧ Bx w2 w.heap.size (.int .i64 3) (.bool x) (.slice ad d.size cd) (.slice an ns.length cn) (.slice ak ks.length ck)) := ⟨hA, (unhide HA1).1.box hg (fun g hg => (unhide HO g hg).2) (by omega) (by omega) (unhide HA1).2⟩
    have hs2 := hg.size
    clear HX hA hg HA1 y0 y1 y2 y3 y4
    obtain ⟨y0, y1, y2, y3, y4⟩ := (unhide HA2).2.cells
    have HX := hide (writeData_any c v2 _ (sB d) lo hi ad d.size cd w2 (unhide HA2).1.h ((unhide HA2).1.g.row (unhide HD) (by omega) (.inr hhi) hvo) rfl hhi (by simp only [List.length_append]; omega))
    go_wp2_with fail
    refine (unhide HX).mono ?_
    rintro e w3 ⟨rfl, hk⟩
    obtain ⟨v3, hA, hg⟩ := (unhide HA2).1.step hk
    clear hk
    have HA3 : Hid (At c W0 w3 v v3 (xs ++ txs [wOpen, wType] ++ txs [wSym, wTarg] ++ tx (sB d)) ∧ Bx w3 w.heap.size (.int .i64 3) (.bool x) (.slice ad d.size cd) (.slice an ns.length cn) (.slice ak ks.length ck)) := ⟨hA, (unhide HA2).1.box hg (fun g hg => (unhide HO g hg).2) (by omega) (by omega) (unhide HA2).2⟩
    have hs3 := hg.size
    clear HX hA hg HA2 y0 y1 y2 y3 y4
    obtain ⟨y0, y1, y2, y3, y4⟩ := (unhide HA3).2.cells
    have HX := hide (lits_any c [⟨#[41]⟩] W0 w3 v v3 _ (unhide HA3).1 (by simp) (by
      show _ + (txs [wClose]).length ≤ _
      simp only [List.length_append]
      omega) (by show (txs [wClose]).length ≤ _; omega))
    go_wp2_with fail
    refine (unhide HX).mono ?_
    rintro e w4 ⟨rfl, v4, hA, hg⟩
    have HA4 : Hid (At c W0 w4 v v4 (xs ++ txs [wOpen, wType] ++ txs [wSym, wTarg] ++ tx (sB d) ++ txs [wClose]) ∧ Bx w4 w.heap.size (.int .i64 3) (.bool x) (.slice ad d.size cd) (.slice an ns.length cn) (.slice ak ks.length ck)) := ⟨hA, (unhide HA3).1.box hg (fun g hg => (unhide HO g hg).2) (by omega) (by omega) (unhide HA3).2⟩
    have hs4 := hg.size
    clear HX hA hg HA3 y0 y1 y2 y3 y4
    have HZ : Hid (SkA c w v (xs ++ nodeB (.mk 3 x d ns ks)) w4) := by
      have h := SkA.trans (unhide HG0) ⟨v4, (unhide HA4).1.g, (unhide HA4).1.h⟩
      show SkA _ _ _ _ _
      rw [unhide HNB]
      simpa only [List.append_assoc, List.nil_append, List.append_nil] using h
    clear HA4
    go_wp2_with fail
    exact bodyPost_end (v := .tuple #[]) (by simp [results, Try.results45, go_sem]) rfl ⟨rfl, unhide HZ⟩
  have e3 : (K == 3) = false := by simpa using hk3
  by_cases hk2 : K = 2
  case pos =>
    subst hk2
    have l3 : (txs [wDir]).length = 24 := by decide
    have hnb : nodeB (.mk 2 x d ns ks) = txs [wOpen, wType] ++ (txs [wDir] ++ entsB ns ks) ++ txs [wClose] := by rw [nodeB, if_neg (by decide), if_neg (by decide), if_pos rfl]
    obtain ⟨hmax, hm2⟩ := unhide HM
    rw [hnb] at hmax hm2
    simp only [List.length_append, List.length_nil] at hmax hm2
    have HNB := hide hnb
    clear hnb HM
    obtain ⟨y0, y1, y2, y3, y4⟩ := (unhide HA1).2.cells
    have HX := hide (lits_any c [⟨#[100, 105, 114, 101, 99, 116, 111, 114, 121]⟩] W0 w1 v v1 _ (unhide HA1).1 (by simp) (by
      show _ + (txs [wDir]).length ≤ _
      simp only [List.length_append]
      omega) (by show (txs [wDir]).length ≤ _; omega))
    go_wp2_with fail
    refine (unhide HX).mono ?_
    rintro e w2 ⟨rfl, v2, hA, hg⟩
    have HA2 : Hid (At c W0 w2 v v2 (xs ++ txs [wOpen, wType] ++ txs [wDir]) ∧ Bx w2 w.heap.size (.int .i64 2) (.bool x) (.slice ad d.size cd) (.slice an ns.length cn) (.slice ak ks.length ck)) := ⟨hA, (unhide HA1).1.box hg (fun g hg => (unhide HO g hg).2) (by omega) (by omega) (unhide HA1).2⟩
    have hs2 := hg.size
    clear HX hA hg HA1 y0 y1 y2 y3 y4
    obtain ⟨y0, y1, y2, y3, y4⟩ := (unhide HA2).2.cells
    have HX := hide (unhide HE w2 v2 _ (unhide HA2).1.g (unhide HA2).1.h (by simp only [List.length_append]; omega) (by omega))
    go_wp2_with fail
    refine (unhide HX).mono ?_
    rintro e w3 ⟨rfl, hk⟩
    obtain ⟨v3, hA, hg⟩ := (unhide HA2).1.step hk
    clear hk
    have HA3 : Hid (At c W0 w3 v v3 (xs ++ txs [wOpen, wType] ++ txs [wDir] ++ entsB ns ks) ∧ Bx w3 w.heap.size (.int .i64 2) (.bool x) (.slice ad d.size cd) (.slice an ns.length cn) (.slice ak ks.length ck)) := ⟨hA, (unhide HA2).1.box hg (fun g hg => (unhide HO g hg).2) (by omega) (by omega) (unhide HA2).2⟩
    have hs3 := hg.size
    clear HX hA hg HA2 y0 y1 y2 y3 y4
    obtain ⟨y0, y1, y2, y3, y4⟩ := (unhide HA3).2.cells
    have HX := hide (lits_any c [⟨#[41]⟩] W0 w3 v v3 _ (unhide HA3).1 (by simp) (by
      show _ + (txs [wClose]).length ≤ _
      simp only [List.length_append]
      omega) (by show (txs [wClose]).length ≤ _; omega))
    go_wp2_with fail
    refine (unhide HX).mono ?_
    rintro e w4 ⟨rfl, v4, hA, hg⟩
    have HA4 : Hid (At c W0 w4 v v4 (xs ++ txs [wOpen, wType] ++ txs [wDir] ++ entsB ns ks ++ txs [wClose]) ∧ Bx w4 w.heap.size (.int .i64 2) (.bool x) (.slice ad d.size cd) (.slice an ns.length cn) (.slice ak ks.length ck)) := ⟨hA, (unhide HA3).1.box hg (fun g hg => (unhide HO g hg).2) (by omega) (by omega) (unhide HA3).2⟩
    have hs4 := hg.size
    clear HX hA hg HA3 y0 y1 y2 y3 y4
    have HZ : Hid (SkA c w v (xs ++ nodeB (.mk 2 x d ns ks)) w4) := by
      have h := SkA.trans (unhide HG0) ⟨v4, (unhide HA4).1.g, (unhide HA4).1.h⟩
      show SkA _ _ _ _ _
      rw [unhide HNB]
      simpa only [List.append_assoc, List.nil_append, List.append_nil] using h
    clear HA4
    go_wp2_with fail
    exact bodyPost_end (v := .tuple #[]) (by simp [results, Try.results45, go_sem]) rfl ⟨rfl, unhide HZ⟩
  have e2 : (K == 2) = false := by simpa using hk2
  have hnb : nodeB (.mk K x d ns ks) = txs [wOpen, wType] ++ [] ++ txs [wClose] := by rw [nodeB, if_neg hk1, if_neg hk3, if_neg hk2]
  obtain ⟨hmax, hm2⟩ := unhide HM
  rw [hnb] at hmax hm2
  simp only [List.length_append, List.length_nil] at hmax hm2
  have HNB := hide hnb
  clear hnb HM
  clear hk1 hk2 hk3
  obtain ⟨y0, y1, y2, y3, y4⟩ := (unhide HA1).2.cells
  have HX := hide (lits_any c [⟨#[41]⟩] W0 w1 v v1 _ (unhide HA1).1 (by simp) (by
    show _ + (txs [wClose]).length ≤ _
    simp only [List.length_append]
    omega) (by show (txs [wClose]).length ≤ _; omega))
  go_wp2_with fail
  refine (unhide HX).mono ?_
  rintro e w2 ⟨rfl, v2, hA, hg⟩
  have HA2 : Hid (At c W0 w2 v v2 (xs ++ txs [wOpen, wType] ++ txs [wClose]) ∧ Bx w2 w.heap.size (.int .i64 K) (.bool x) (.slice ad d.size cd) (.slice an ns.length cn) (.slice ak ks.length ck)) := ⟨hA, (unhide HA1).1.box hg (fun g hg => (unhide HO g hg).2) (by omega) (by omega) (unhide HA1).2⟩
  have hs2 := hg.size
  clear HX hA hg HA1 y0 y1 y2 y3 y4
  have HZ : Hid (SkA c w v (xs ++ nodeB (.mk K x d ns ks)) w2) := by
    have h := SkA.trans (unhide HG0) ⟨v2, (unhide HA2).1.g, (unhide HA2).1.h⟩
    show SkA _ _ _ _ _
    rw [unhide HNB]
    simpa only [List.append_assoc, List.nil_append, List.append_nil] using h
  clear HA2
  go_wp2_with fail
  exact bodyPost_end (v := .tuple #[]) (by simp [results, Try.results45, go_sem]) rfl ⟨rfl, unhide HZ⟩
end Go.Proofs.Ytikamklgelcnhaa
/- Encode. -/
namespace Go.Proofs.Ytikamklgelcnhaa
open Go.RowKit
set_option linter.unusedSimpArgs false
theorem ne0 {n : Nat} (h : ¬ n = 0) : (((n : Nat) : Int) == 0) = false := by rw [beq_eq_false_iff_ne]; omega
theorem padN_lt (n : Nat) : padN n ≤ 7 := by unfold padN; omega
theorem sB_len (d : ByteArray) : (sB d).length = d.size := rfl
theorem nodeB_len (T : Tr) : (nodeB T).length ≤ 300 * wt T := by
  induction T using Tr.ind with
  | h k x d ns ks ih =>
  have hs : ∀ (ns : List ByteArray) (ks' : List Tr), (∀ t ∈ ks', t ∈ ks) → (entsB ns ks').length ≤ 300 * (ns.length + tenths ns + wts ks') := by
    intro ns
    induction ns with
    | nil => intro ks' _; rw [entsB_nil]; simp
    | cons n ns ihn =>
      intro ks' hk
      cases ks' with
      | nil => rw [entsB]; · simp
               · intro n ns t ks _ h; cases h
      | cons t ks' =>
        rw [entsB]
        have h1 := ihn ks' (fun t ht => hk t (by simp [ht]))
        have h2 := ih t (hk t (by simp))
        have l1 : (txs [wClose]).length = 16 := by decide
        have l2 : (txs [wEntry, wOpen, wName, sB n, wNode]).length = 72 + n.size + padN n.size := by
          simp only [txs, List.length_append, tx_len, sB_len, List.length_nil]
          have a1 : wEntry.length = 5 := rfl
          have a2 : wOpen.length = 1 := rfl
          have a3 : wName.length = 4 := rfl
          have a4 : wNode.length = 4 := rfl
          rw [a1, a2, a3, a4]
          have b1 : padN 5 = 3 := rfl
          have b2 : padN 1 = 7 := rfl
          have b3 : padN 4 = 4 := rfl
          rw [b1, b2, b3]
          omega
        have hp := padN_lt n.size
        simp only [List.length_append, List.length_cons, tenths, wts, l1, l2]
        omega
  have hp := padN_lt d.size
  have l1 : (txs [wOpen, wType]).length = 32 := by decide
  have l2 : (txs [wClose]).length = 16 := by decide
  have l3 : (txs [wReg]).length = 16 := by decide
  have l4 : (txs [wCont]).length = 16 := by decide
  have l5 : (txs [wExec, []]).length = 32 := by decide
  have l6 : (txs [wSym, wTarg]).length = 32 := by decide
  have l7 : (txs [wDir]).length = 24 := by decide
  have he := hs ns ks (fun t ht => ht)
  rw [nodeB, wt]
  split
  · split <;> simp only [List.length_append, List.length_nil, tx_len, sB_len, l1, l2, l3, l4, l5] <;> omega
  · split
    · simp only [List.length_append, tx_len, sB_len, l1, l2, l6]; omega
    · split
      · simp only [List.length_append, l1, l2, l7]; omega
      · simp only [List.length_append, List.length_nil, l1, l2]; omega
set_option maxRecDepth 20000 in
set_option maxHeartbeats 2000000 in
theorem writeTree_any (c : Nat) (T : Tr) (lo hi : Nat) (cs : List Value) (w : World) (v : Value) (xs : List UInt8) (hL : Lies lo hi w T cs) (hhi : hi ≤ c) (hS : Has c w v xs) (hN : Nice T) (hW : wt T ≤ 3000) (hx : xs.length ≤ 1000000) :
    Calls Try.prog 27 #[.agg cs.toArray, .func (Fn.func 28) #[] #[.pointer (some ⟨c, 0, none⟩)]] w fun e w' => e = .returned (.tuple #[]) ∧ SkA c w v (xs ++ narB T) w' := by
  have hcl := hS.ctr.lt
  have hown : ∀ g, v.ownBlock = some g → c + 1 ≤ g ∧ g < w.heap.size := fun g hg => owns_lt hS.row g hg
  obtain ⟨kt, xt, at0, nt, ct, bt, mt, dt, et, pt, qt, rfl⟩ := hL.form
  obtain ⟨W0, hW0⟩ : ∃ W0, W0 = w.alloc (.cells #[.int .i64 kt, .bool xt, .slice at0 nt ct, .slice bt mt dt, .slice et pt qt] 26) := ⟨_, rfl⟩
  have hb0 : Below w.heap.size w W0 := by rw [hW0]; exact (Below.refl _ _).alloc (Nat.le_refl _) _
  have hs0 : W0.heap.size = w.heap.size + 1 := by rw [hW0]; simp
  have hx0 : Bx W0 w.heap.size (.int .i64 kt) (.bool xt) (.slice at0 nt ct) (.slice bt mt dt) (.slice et pt qt) := by rw [hW0]; exact bx_new _ _ _ _ _ _
  have hA0 : At c W0 W0 v v xs := ⟨Gt.of_below v (Below.refl _ _), hS.kept hb0⟩
  have HL0 := hide (hL.kept hb0 (by omega))
  have HW0 := hide hW0
  have HG0 : Hid (Gt c w W0 v v) := Gt.of_below v hb0
  have HA0 := hide (And.intro hA0 hx0)
  have HO := hide hown
  have hlen := nodeB_len T
  have l1 : (txs [wMagic]).length = 24 := by decide
  have HL1 := hide (lits_any c [⟨#[110, 105, 120, 45, 97, 114, 99, 104, 105, 118, 101, 45, 49]⟩] W0 W0 v v _ hA0 (by simp) (by show _ + (txs [wMagic]).length ≤ _; omega) (by show (txs [wMagic]).length ≤ _; omega))
  have HN := hide (writeNode_any c T hN (by omega))
  clear hL hS hb0 hx0 hA0 hown hW0 hN
  rw [hs0] at HL1
  go_enter Try.func27, Try.ntmps27
  go_wp2_with fail
  rw [← unhide HW0]
  refine (unhide HL1).mono ?_
  rintro e w1 ⟨rfl, v1, hA, hg⟩
  have hB1 := (unhide HA0).1.box hg (fun g hg => (unhide HO g hg).2) (by omega) (by omega) (unhide HA0).2
  have hL1 := Lies.gt hg (unhide HL0) hhi (by omega) (fun g hg => by have := (unhide HO g hg).1; omega)
  have hA' : At c W0 w1 v v1 (xs ++ txs [wMagic]) := hA
  have HX := hide (unhide HN lo hi _ w1 v1 _ hL1 hhi hA'.h (by rw [List.length_append]; omega) (by omega))
  have HA1 := hide hA'
  obtain ⟨y0, y1, y2, y3, y4⟩ := hB1.cells
  clear HL1 hA hg hA' hL1 hB1 HW0
  go_wp2_with fail
  refine (unhide HX).mono ?_
  rintro e w2 ⟨rfl, hk⟩
  obtain ⟨v2, hA2, _⟩ := (unhide HA1).step hk
  have HZ : Hid (SkA c w v (xs ++ narB T) w2) := by
    have h := SkA.trans (unhide HG0) ⟨v2, hA2.g, hA2.h⟩
    show SkA _ _ _ _ _
    unfold narB
    simpa only [List.append_assoc] using h
  clear HX hk hA2 HA1
  go_wp2_with fail
  exact bodyPost_end (v := .tuple #[]) (by simp [results, Try.results27, go_sem]) rfl ⟨rfl, unhide HZ⟩
/-- What Encode answers. -/
noncomputable def encS (T : Tr) : List UInt8 := if (chk T 1 0).1 = 0 then narB T else []
def EncA (B : Nat) (T : Tr) (e : Ending) (w' : World) : Prop := ∃ a c, e = .returned (.tuple #[.slice a (encS T).length c, .int .i64 (((chk T 1 0).1 : Nat) : Int)]) ∧ Row B w'.heap.size w' (.slice a (encS T).length c) (encS T).length (bv (encS T))
set_option maxRecDepth 20000 in
set_option maxHeartbeats 2000000 in
theorem encode_any (T : Tr) (lo hi : Nat) (cs : List Value) (w : World) (hL : Lies lo hi w T cs) (hW : wt T ≤ 3000) (hhi : hi ≤ w.heap.size) :
    Calls Try.prog 11 #[.agg cs.toArray] w fun e w' => Below w.heap.size w w' ∧ EncA w.heap.size T e w' := by
  obtain ⟨kt, xt, at0, nt, ct, bt, mt, dt, et, pt, qt, rfl⟩ := hL.form
  have HC1 := hide (fun W (h : Below w.heap.size w W) => check_any T lo hi _ W (hL.kept h hhi) (by omega) (by have := h.size; omega))
  have HL := hide hL
  obtain ⟨wA, hwA⟩ : ∃ wA, wA = w.alloc (.cells #[.int .i64 kt, .bool xt, .slice at0 nt ct, .slice bt mt dt, .slice et pt qt] 26) := ⟨_, rfl⟩
  have hbA : Below w.heap.size w wA := by rw [hwA]; exact (Below.refl _ _).alloc (Nat.le_refl _) _
  have hsA : wA.heap.size = w.heap.size + 1 := by rw [hwA]; simp
  have hbx : Bx wA w.heap.size (.int .i64 kt) (.bool xt) (.slice at0 nt ct) (.slice bt mt dt) (.slice et pt qt) := by rw [hwA]; exact bx_new _ _ _ _ _ _
  have HA := hide (And.intro hbA (And.intro hsA hbx))
  have HwA := hide hwA
  have HF : Hid (encS T = if (chk T 1 0).1 = 0 then narB T else []) := rfl
  clear hL hwA hbA hsA hbx
  go_enter Try.func11, Try.ntmps11
  go_wp2_with fail
  rw [← unhide HwA]
  refine (unhide HC1 wA (unhide HA).1).mono ?_
  rintro e w1 ⟨rfl, hb1⟩
  have hs1 := hb1.size
  have HA1 := hide (And.intro ((unhide HA).1.trans (hb1.mono (by have := (unhide HA).2.1; omega))) ((unhide HA).2.2.kept hb1 (by have := (unhide HA).2.1; omega)))
  have hs0 := (unhide HA).2.1
  clear HC1 HwA hb1 HA
  by_cases hc1 : (chk T 1 0).1 = 0
  case neg =>
    have hn1 := ne0 hc1
    rw [if_neg hc1] at HF
    have HZ : Hid (EncA w.heap.size T (.returned (.tuple #[.slice none 0 0, .int .i64 (((chk T 1 0).1 : Nat) : Int)])) w1) := by
      refine ⟨none, 0, ?_, ?_⟩
      · rw [unhide HF]; rfl
      · rw [unhide HF]; exact ⟨none, 0, rfl, Nat.le_refl _, fun h => absurd h (Nat.lt_irrefl _)⟩
    clear hc1
    generalize (chk T 1 0).1 = c1 at *
    go_wp2_with fail
    refine bodyPost_ret (v := .tuple #[.slice none 0 0, .int .i64 (c1 : Int)]) (by simp [results, Try.results11, go_sem]) rfl ⟨(unhide HA1).1, unhide HZ⟩
  case pos =>
  have HN := hide (chk_nice T hc1)
  rw [if_pos hc1] at HF
  have Hc := hide hc1
  rw [hc1]
  clear hc1
  obtain ⟨y0, y1, y2, y3, y4⟩ := (unhide HA1).2.cells
  have hlt1 : w.heap.size < w1.heap.size := by omega
  obtain ⟨wB, hwB⟩ : ∃ wB, wB = w1.alloc (.cells #[.slice none 0 0] 22) := ⟨_, rfl⟩
  have hbB : Below w1.heap.size w1 wB := by rw [hwB]; exact (Below.refl _ _).alloc (Nat.le_refl _) _
  have hsB : wB.heap.size = w1.heap.size + 1 := by rw [hwB]; simp
  have hcB : wB.heap[w1.heap.size]? = some (.cells #[.slice none 0 0] 22) := by
    rw [hwB]
    show (w1.heap.push _)[w1.heap.size]? = _
    rw [Array.getElem?_push, if_pos rfl]
  have hHas : Has w1.heap.size wB (.slice none 0 0) [] := ⟨⟨by rw [cell_of_row _ _ _ _ _ _ hcB]; rfl, by unfold World.frozen?; rw [hcB]; simp⟩, by simpa [bv] using World.ownsRow_nil _ _ _ _⟩
  have HG := hide (writeTree_any w1.heap.size T lo hi _ wB (.slice none 0 0) [] ((unhide HL).kept ((unhide HA1).1.trans (hbB.mono (by omega))) hhi) (by omega) hHas (unhide HN) hW (by simp))
  have HwB := hide hwB
  have HbB := hide ((unhide HA1).1.trans (hbB.mono (by omega)))
  clear hwB hcB hHas hbB
  go_wp2_with fail
  rw [← unhide HwB]
  refine (unhide HG).mono ?_
  rintro e w2 ⟨rfl, v2, hg2, hH2⟩
  rw [List.nil_append] at hH2
  obtain ⟨a2, c2, rfl⟩ := hH2.slice
  have hcc := hH2.ctr.cell
  have hs2 := hg2.size
  have HB2 : Hid (Below w.heap.size w w2) := (unhide HbB).trans ⟨hg2.os, hg2.tape, hg2.output, hg2.size, fun k hk => hg2.keep k (by omega) (by omega) (fun e => by simp [Value.ownBlock] at e)⟩
  have HZ : Hid (EncA w.heap.size T (.returned (.tuple #[.slice a2 (narB T).length c2, .int .i64 0])) w2) := by
    refine ⟨a2, c2, ?_, ?_⟩
    · rw [unhide HF, unhide Hc]; rfl
    · rw [unhide HF]
      exact (owns_row hH2.row (owns_lt hH2.row)).mono (by omega) (Nat.le_refl _)
  clear HG hg2 hH2 y0 y1 y2 y3 y4
  generalize (narB T).length = NB at *
  go_wp2_with fail
  refine bodyPost_ret (v := .tuple #[.slice a2 NB c2, .int .i64 0]) (by simp [results, Try.results11, go_sem]) rfl ⟨unhide HB2, unhide HZ⟩
end Go.Proofs.Ytikamklgelcnhaa
/- Reading what was written. Mathematics alone. -/
namespace Go.Proofs.Ytikamklgelcnhaa
open Go.RowKit
set_option linter.unusedSimpArgs false
def Suf (B l : List UInt8) : Prop := ∃ p, B = p ++ l
theorem Suf.tl {B a l : List UInt8} (h : Suf B (a ++ l)) : Suf B l := by obtain ⟨p, rfl⟩ := h; exact ⟨p ++ a, by simp⟩
theorem Suf.len {B l : List UInt8} (h : Suf B l) : l.length ≤ B.length := by obtain ⟨p, rfl⟩ := h; simp
/-- So much is left to read. -/
def okS (B l : List UInt8) (m : Nat) : RS := .ok (B.length - l.length, m)
theorem Suf.drop {B l : List UInt8} (h : Suf B l) : B.drop (B.length - l.length) = l := by
  obtain ⟨p, rfl⟩ := h
  rw [List.length_append, Nat.add_sub_cancel]
  exact List.drop_left' rfl
theorem rdT_tx (s rest : List UInt8) (h : s.length ≤ 2097152) : rdT (tx s ++ rest) = .ok s.length := by
  have h8 : (tx s ++ rest).take 8 = lenB 8 s.length := by
    unfold tx
    rw [List.append_assoc, List.append_assoc]
    exact List.take_left' (lenB_length 8 _)
  have hn : s.length = leN ((tx s ++ rest).take 8) := by
    rw [h8, leN_lenB 8 _ (by have : (256 : Nat) ^ 8 = 18446744073709551616 := by decide
                             omega)]
  refine rdT_ok (by rw [List.length_append, tx_len]; omega) hn h (by rw [List.length_append, tx_len]; omega) ?_
  have e : (tx s ++ rest).drop (8 + s.length) = List.replicate (padN s.length) 0 ++ rest := by
    unfold tx
    rw [List.append_assoc]
    exact List.drop_left' (by rw [List.length_append, lenB_length])
  rw [e, List.take_left' (by simp)]
  simp
theorem lenB_leN (l : List UInt8) : lenB l.length (leN l) = l := by
  induction l with
  | nil => rfl
  | cons x r ih =>
    rw [List.length_cons, lenB, leN]
    have hx := x.toNat_lt
    have e1 : (x.toNat + 256 * leN r) / 256 = leN r := by omega
    rw [e1, ih]
    congr 1
    apply UInt8.toNat_inj.1
    rw [UInt8.toNat_ofNat']
    omega
theorem rdT_inv {l : List UInt8} {n : Nat} (h : rdT l = .ok n) : n ≤ 2097152 ∧ l = tx ((l.drop 8).take n) ++ l.drop (8 + n + padN n) := by
  have hle := rdT_le h
  unfold rdT at h
  split at h
  · cases h
  rename_i h8
  split at h
  · cases h
  rename_i hb
  split at h
  · cases h
  split at h
  · rename_i hz
    injection h with h
    rw [h] at hz hb
    refine ⟨by omega, ?_⟩
    have e1 : ((l.drop 8).take n).length = n := by rw [List.length_take, List.length_drop]; omega
    unfold tx
    rw [e1]
    have e2 : lenB 8 n = l.take 8 := by
      have := lenB_leN (l.take 8)
      rwa [show (l.take 8).length = 8 by rw [List.length_take]; omega, h] at this
    have e3 : (l.drop (8 + n)).take (padN n) = List.replicate (padN n) 0 := by
      rw [List.eq_replicate_iff]
      refine ⟨by rw [List.length_take, List.length_drop]; omega, fun b hb => ?_⟩
      have := List.all_eq_true.1 hz b hb
      simpa using this
    rw [e2, ← e3, List.append_assoc, List.append_assoc]
    conv => lhs; rw [← List.take_append_drop 8 l]
    congr 1
    conv => lhs; rw [← List.take_append_drop n (l.drop 8)]
    congr 1
    rw [List.drop_drop]
    conv => lhs; rw [← List.take_append_drop (padN n) (l.drop (8 + n))]
    rw [List.drop_drop]
  · cases h
theorem bA (s : ByteArray) : (⟨(sB s).toArray⟩ : ByteArray) = s := by unfold sB; simp
theorem txt_w {B s l : List UInt8} {m : Nat} (hs : Suf B (tx s ++ l)) (h : s.length ≤ 2097152) : txtS B (okS B (tx s ++ l) m) = (okS B l m, ⟨s.toArray⟩) := by
  have e : B.length - (tx s ++ l).length + 8 + s.length + padN s.length = B.length - l.length := by
    have := hs.len
    rw [List.length_append, tx_len] at this
    rw [List.length_append, tx_len]; omega
  have e2 : (B.drop (B.length - (tx s ++ l).length + 8)).take s.length = s := by
    rw [← List.drop_drop, hs.drop]
    unfold tx
    rw [List.append_assoc, List.append_assoc, List.drop_left' (lenB_length 8 _), List.take_left' rfl]
  unfold okS
  simp only [txtS]
  rw [hs.drop, rdT_tx s l h]
  simp only
  rw [e, e2]
theorem want_w {B l : List UInt8} {m : Nat} {s : ByteArray} (hs : Suf B (tx (sB s) ++ l)) (h : s.size ≤ 2097152) : wantS B (okS B (tx (sB s) ++ l) m) s = okS B l m := by
  unfold wantS
  rw [txt_w hs h, bA]
  exact if_pos rfl
theorem wants_w {B : List UInt8} (ts : List ByteArray) : ∀ {l : List UInt8} {m : Nat}, Suf B (txs (ts.map sB) ++ l) → (∀ s ∈ ts, s.size ≤ 2097152) → wantsS B (okS B (txs (ts.map sB) ++ l) m) ts = okS B l m := by
  induction ts with
  | nil => intro l m _ _; rfl
  | cons s ts ih =>
    intro l m hs h
    rw [List.map_cons, txs, List.append_assoc] at hs ⊢
    show wantsS B (wantS B _ s) ts = _
    rw [want_w hs (h s (by simp))]
    exact ih hs.tl (fun s hs => h s (by simp [hs]))
theorem either_w1 {B l : List UInt8} {m : Nat} {f s : ByteArray} (hs : Suf B (tx (sB f) ++ l)) (h : f.size ≤ 2097152) : eitherS B (okS B (tx (sB f) ++ l) m) f s = (okS B l m, true) := by
  unfold eitherS
  rw [txt_w hs h, bA]
  exact if_pos rfl
theorem either_w2 {B l : List UInt8} {m : Nat} {f s : ByteArray} (hs : Suf B (tx (sB s) ++ l)) (h : s.size ≤ 2097152) (hne : s ≠ f) : eitherS B (okS B (tx (sB s) ++ l) m) f s = (okS B l m, false) := by
  unfold eitherS
  rw [want_w hs h, txt_w hs h, bA]
  exact if_neg hne
theorem kind_w {B l : List UInt8} {m deep : Nat} {W : ByteArray} (hb : ¬ (65536 < m + 1 ∨ 64 < deep)) (hs : Suf B (txs [wOpen, wType] ++ (tx (sB W) ++ l))) (h : W.size ≤ 2097152) : kindS B deep (okS B (txs [wOpen, wType] ++ (tx (sB W) ++ l)) m) = (okS B l (m + 1), W) := by
  unfold kindS
  have e : beginS deep (okS B (txs [wOpen, wType] ++ (tx (sB W) ++ l)) m) = okS B (txs ([bOpen, bType].map sB) ++ (tx (sB W) ++ l)) (m + 1) := by
    unfold okS
    simp only [beginS]
    rw [if_neg hb]
    rfl
  rw [e, wants_w [bOpen, bType] hs (by decide), txt_w hs.tl h, bA]
theorem bCE : bCont ≠ bExec := by decide
theorem file_w {B l : List UInt8} {m : Nat} (x : Bool) (d : ByteArray) (hd : d.size ≤ 2097152) (hs : Suf B ((if x then txs [wExec, []] else []) ++ (tx wCont ++ (tx (sB d) ++ (txs [wClose] ++ l))))) :
    fileS B (okS B ((if x then txs [wExec, []] else []) ++ (tx wCont ++ (tx (sB d) ++ (txs [wClose] ++ l)))) m) = (okS B l m, x, d) := by
  cases x with
  | false =>
    simp only [Bool.false_eq_true, if_false, List.nil_append] at hs ⊢
    have e1 : eitherS B (okS B (tx wCont ++ (tx (sB d) ++ (txs [wClose] ++ l))) m) bExec bCont = (okS B (tx (sB d) ++ (txs [wClose] ++ l)) m, false) := either_w2 (s := bCont) hs (by decide) bCE
    have e2 : fileS1 B (okS B (tx wCont ++ (tx (sB d) ++ (txs [wClose] ++ l))) m) = okS B (tx (sB d) ++ (txs [wClose] ++ l)) m := by unfold fileS1; rw [e1]; rfl
    unfold fileS
    rw [e2, e1, txt_w hs.tl hd, bA]
    simp only
    rw [show wantsS B (okS B (txs [wClose] ++ l) m) [bClose] = okS B l m from wants_w [bClose] hs.tl.tl (by decide)]
  | true =>
    simp only [if_true, txs, List.append_assoc, List.nil_append] at hs ⊢
    have e1 : eitherS B (okS B (tx wExec ++ (tx [] ++ (tx wCont ++ (tx (sB d) ++ (tx wClose ++ l))))) m) bExec bCont = (okS B (tx [] ++ (tx wCont ++ (tx (sB d) ++ (tx wClose ++ l)))) m, true) := either_w1 (f := bExec) hs (by decide)
    have e2 : fileS1 B (okS B (tx wExec ++ (tx [] ++ (tx wCont ++ (tx (sB d) ++ (tx wClose ++ l))))) m) = okS B (tx (sB d) ++ (tx wClose ++ l)) m := by
      unfold fileS1; rw [e1]
      have := wants_w (B := B) (m := m) [⟨#[]⟩, bCont] (l := tx (sB d) ++ (tx wClose ++ l)) (by
        show Suf B (txs [[], wCont] ++ _)
        simp only [txs, List.append_assoc, List.nil_append]; exact hs.tl) (by decide)
      simp only [List.map_cons, List.map_nil, txs, List.append_assoc, List.nil_append] at this
      exact this
    unfold fileS
    rw [e2, e1, txt_w hs.tl.tl.tl hd, bA]
    simp only
    have := wants_w (B := B) (m := m) [bClose] (l := l) (by
        show Suf B (txs [wClose] ++ _)
        simp only [txs, List.append_assoc, List.nil_append]; exact hs.tl.tl.tl.tl) (by decide)
    simp only [List.map_cons, List.map_nil, txs, List.append_assoc, List.nil_append] at this
    rw [show wantsS B (okS B (tx wClose ++ l) m) [bClose] = okS B l m from this]
theorem link_w {B l : List UInt8} {m : Nat} (d : ByteArray) (hd : d.size ≤ 2097152) (hs : Suf B (txs [wTarg] ++ (tx (sB d) ++ (txs [wClose] ++ l)))) :
    linkS B (okS B (txs [wTarg] ++ (tx (sB d) ++ (txs [wClose] ++ l))) m) = (okS B l m, d) := by
  unfold linkS
  rw [show wantsS B (okS B (txs [wTarg] ++ (tx (sB d) ++ (txs [wClose] ++ l))) m) [bTarg] = okS B (tx (sB d) ++ (txs [wClose] ++ l)) m from wants_w [bTarg] hs (by decide), txt_w hs.tl hd, bA]
  simp only
  rw [show wantsS B (okS B (txs [wClose] ++ l) m) [bClose] = okS B l m from wants_w [bClose] hs.tl.tl (by decide)]
theorem entsB_len (ns : List ByteArray) : ∀ ks : List Tr, ns.length = ks.length → ks.length ≤ (entsB ns ks).length := by
  induction ns with
  | nil => intro ks h; simp at h; simp [← h]
  | cons s ns ih =>
    intro ks h
    cases ks with
    | nil => simp
    | cons t ks =>
      have := ih ks (by simpa using h)
      rw [entsB]
      simp only [txs, List.length_append, List.length_cons, tx_len]
      omega
theorem ent_w {B l : List UInt8} {m : Nat} (s : ByteArray) (h : s.size ≤ 2097152) (hs : Suf B (txs [wOpen, wName] ++ (tx (sB s) ++ (txs [wNode] ++ l)))) : entS B (okS B (txs [wOpen, wName] ++ (tx (sB s) ++ (txs [wNode] ++ l))) m) = (okS B l m, s) := by
  unfold entS
  rw [show wantsS B (okS B (txs [wOpen, wName] ++ (tx (sB s) ++ (txs [wNode] ++ l))) m) [bOpen, bName] = okS B (tx (sB s) ++ (txs [wNode] ++ l)) m from wants_w [bOpen, bName] hs (by decide), txt_w hs.tl h, bA]
  simp only
  rw [show wantsS B (okS B (txs [wNode] ++ l) m) [bNode] = okS B l m from wants_w [bNode] hs.tl.tl (by decide)]
theorem dir_w (B : List UInt8) (N : RS → RS × Tr) (deep : Nat) (ks : List Tr) : ∀ (ns : List ByteArray) (k m : Nat) (ns0 : List ByteArray) (ks0 : List Tr) (l : List UInt8), ns.length = ks.length → (∀ s ∈ ns, s.size ≤ 2097152) → ks.length + 1 ≤ k → (chks ks deep m).1 = 0 →
    (∀ t ∈ ks, ∀ m l, (chk t deep m).1 = 0 → Suf B (nodeB t ++ l) → N (okS B (nodeB t ++ l) m) = (okS B l (chk t deep m).2, t)) → Suf B (entsB ns ks ++ (txs [wClose] ++ l)) →
    dirS B N k (okS B (entsB ns ks ++ (txs [wClose] ++ l)) m) ns0 ks0 = (okS B l (chks ks deep m).2, ns0 ++ ns, ks0 ++ ks) := by
  induction ks with
  | nil =>
    intro ns k m ns0 ks0 l hl _ hk hc _ hs
    obtain rfl : ns = [] := List.eq_nil_of_length_eq_zero (by simpa using hl)
    obtain ⟨k, rfl⟩ : ∃ k', k = k' + 1 := ⟨k - 1, by simp at hk; omega⟩
    rw [entsB, List.nil_append] at hs ⊢
    simp only [txs, List.append_nil] at hs ⊢
    have e : eitherS B (okS B (tx wClose ++ l) m) bEntry bClose = (okS B l m, false) := either_w2 (s := bClose) hs (by decide) (by decide)
    rw [dirS, e]
    simp [chks]
    all_goals intro a b c; simp
  | cons t ks ih =>
    intro ns k m ns0 ks0 l hl hn hk hc hN hs
    obtain ⟨s, ns, rfl⟩ : ∃ s ns', ns = s :: ns' := by
      cases ns with
      | nil => simp at hl
      | cons s ns => exact ⟨s, ns, rfl⟩
    obtain ⟨k, rfl⟩ : ∃ k', k = k' + 1 := ⟨k - 1, by simp at hk; omega⟩
    rw [chks] at hc ⊢
    by_cases h0 : (chk t deep m).1 = 0
    · rw [if_pos h0] at hc ⊢
      have eq : entsB (s :: ns) (t :: ks) ++ (txs [wClose] ++ l) = tx (sB bEntry) ++ (txs [wOpen, wName] ++ (tx (sB s) ++ (txs [wNode] ++ (nodeB t ++ (txs [wClose] ++ (entsB ns ks ++ (txs [wClose] ++ l))))))) := by
        rw [entsB]
        simp only [txs, List.append_assoc, List.nil_append, List.append_nil]
        rfl
      rw [eq] at hs ⊢
      have e1 := either_w1 (m := m) (s := bClose) hs (by decide)
      have e2 := ent_w (m := m) s (hn s (by simp)) hs.tl
      have e3 := hN t (by simp) m _ h0 hs.tl.tl.tl.tl
      have e4 : wantsS B (okS B (txs [wClose] ++ (entsB ns ks ++ (txs [wClose] ++ l))) (chk t deep m).2) [bClose] = okS B (entsB ns ks ++ (txs [wClose] ++ l)) (chk t deep m).2 := wants_w [bClose] hs.tl.tl.tl.tl.tl (by decide)
      rw [dirS, e1]
      simp only [if_true]
      rw [e2]
      simp only
      rw [e3]
      simp only
      rw [e4, ih ns k _ _ _ l (by simpa using hl) (fun s hs => hn s (by simp [hs])) (by simp at hk; omega) hc (fun t ht => hN t (by simp [ht])) hs.tl.tl.tl.tl.tl.tl]
      simp
    · rw [if_neg h0] at hc; exact absurd hc h0
theorem node_w (B : List UInt8) (T : Tr) : ∀ (f deep m : Nat) (l : List UInt8), 65 ≤ f + deep → (chk T deep m).1 = 0 → Suf B (nodeB T ++ l) → nodeS B f deep (okS B (nodeB T ++ l) m) = (okS B l (chk T deep m).2, T) := by
  induction T using Tr.ind with
  | h k x d ns ks ih =>
  intro f deep m l hf hc hs
  rw [chk] at hc ⊢
  by_cases hb : 65536 < m + 1 ∨ 64 < deep
  · rw [if_pos hb] at hc; exact absurd hc (by simp)
  rw [if_neg hb] at hc ⊢
  by_cases hl : locErr k x d.size ns ks.length = 0
  rotate_left
  · rw [if_neg hl] at hc; exact absurd hc hl
  rw [if_pos hl] at hc ⊢
  obtain ⟨f, rfl⟩ : ∃ f', f = f' + 1 := ⟨f - 1, by omega⟩
  have nil0 : ∀ {l : List ByteArray}, ¬ 0 < l.length → l = [] := fun h => List.eq_nil_of_length_eq_zero (by omega)
  have nil1 : ∀ {l : List Tr}, ¬ 0 < l.length → l = [] := fun h => List.eq_nil_of_length_eq_zero (by omega)
  unfold locErr at hl
  by_cases k1 : k = 1
  · subst k1
    rw [if_pos rfl] at hl
    by_cases h1 : 0 < ns.length ∨ 0 < ks.length
    · rw [if_pos h1] at hl; omega
    rw [if_neg h1] at hl
    by_cases h2 : 1048576 < d.size
    · rw [if_pos h2] at hl; omega
    obtain rfl := nil0 (fun h => h1 (.inl h))
    obtain rfl := nil1 (fun h => h1 (.inr h))
    have eq : nodeB (.mk 1 x d [] []) ++ l = txs [wOpen, wType] ++ (tx (sB bReg) ++ ((if x then txs [wExec, []] else []) ++ (tx wCont ++ (tx (sB d) ++ (txs [wClose] ++ l))))) := by
      rw [nodeB, if_pos rfl]
      simp only [txs, List.append_assoc, List.append_nil]
      rfl
    rw [eq] at hs ⊢
    rw [nodeS, kind_w hb hs (by decide)]
    simp only [if_true]
    rw [file_w x d (by omega) hs.tl.tl]
    simp [chks]
  rw [if_neg k1] at hl
  by_cases k3 : k = 3
  · subst k3
    rw [if_pos rfl] at hl
    by_cases h1 : 0 < ns.length ∨ 0 < ks.length ∨ x = true
    · rw [if_pos h1] at hl; omega
    rw [if_neg h1] at hl
    by_cases h2 : 1000 < d.size
    · rw [if_pos h2] at hl; omega
    obtain rfl := nil0 (fun h => h1 (.inl h))
    obtain rfl := nil1 (fun h => h1 (.inr (.inl h)))
    obtain rfl : x = false := by
      cases x
      · rfl
      · exact absurd (.inr (.inr rfl)) h1
    have eq : nodeB (.mk 3 false d [] []) ++ l = txs [wOpen, wType] ++ (tx (sB bSym) ++ (txs [wTarg] ++ (tx (sB d) ++ (txs [wClose] ++ l)))) := by
      rw [nodeB, if_neg (by decide), if_pos rfl]
      simp only [txs, List.append_assoc, List.append_nil]
      rfl
    rw [eq] at hs ⊢
    rw [nodeS, kind_w hb hs (by decide)]
    simp only [if_true]
    rw [if_neg (by decide), link_w d (by omega) hs.tl.tl]
    simp [chks]
  rw [if_neg k3] at hl
  by_cases k2 : k = 2
  · subst k2
    rw [if_pos rfl] at hl
    by_cases h1 : x = true ∨ 0 < d.size ∨ ns.length ≠ ks.length
    · rw [if_pos h1] at hl; omega
    rw [if_neg h1] at hl
    by_cases h2 : okNames ns
    rotate_left
    · rw [if_neg h2] at hl; omega
    obtain rfl : x = false := by
      cases x
      · rfl
      · exact absurd (.inl rfl) h1
    obtain rfl : d = ⟨#[]⟩ := by
      have h3 : ¬ 0 < d.size := fun h => h1 (.inr (.inl h))
      have e1 : d.data.toList = [] := List.eq_nil_of_length_eq_zero (by show d.size = 0; omega)
      exact ByteArray.ext (Array.ext' e1)
    have hlen : ns.length = ks.length := by
      by_cases h : ns.length = ks.length
      · exact h
      · exact absurd (.inr (.inr h)) h1
    have hsz : ∀ s ∈ ns, s.size ≤ 2097152 := by
      intro s hs
      obtain ⟨i, hi, he⟩ := List.getElem_of_mem hs
      have := h2 i hi
      unfold okName at this
      rw [List.getElem?_eq_getElem hi, he] at this
      simp [entB] at this
      omega
    have eq : nodeB (.mk 2 false ⟨#[]⟩ ns ks) ++ l = txs [wOpen, wType] ++ (tx (sB bDir) ++ (entsB ns ks ++ (txs [wClose] ++ l))) := by
      rw [nodeB, if_neg (by decide), if_neg (by decide), if_pos rfl]
      simp only [txs, List.append_assoc, List.append_nil]
      rfl
    rw [eq] at hs ⊢
    have hfu : ks.length + 1 ≤ B.length + 1 := by
      have h5 := hs.tl.tl.len
      have h6 := entsB_len ns ks hlen
      rw [List.length_append] at h5
      omega
    rw [nodeS, kind_w hb hs (by decide)]
    simp only [if_true]
    rw [if_neg (by decide), if_neg (by decide), dir_w B (nodeS B f (deep + 1)) (deep + 1) ks ns (B.length + 1) (m + 1) [] [] l hlen hsz hfu hc (fun t ht m l h1 h2 => ih t ht f (deep + 1) m l (by omega) h1 h2) hs.tl.tl]
    simp
  rw [if_neg k2] at hl
  omega
/-- What was written is read, whatever stands behind. -/
theorem tree_w (T : Tr) (l : List UInt8) (hc : (chk T 1 0).1 = 0) : treeS (narB T ++ l) (.ok (0, 0)) = (.ok ((narB T).length, (chk T 1 0).2), T) := by
  have eq : narB T ++ l = txs [wMagic] ++ (nodeB T ++ l) := by unfold narB; rw [List.append_assoc]
  have hs : Suf (narB T ++ l) (txs [wMagic] ++ (nodeB T ++ l)) := ⟨[], by rw [eq]; rfl⟩
  have e0 : (.ok (0, 0) : RS) = okS (narB T ++ l) (txs [wMagic] ++ (nodeB T ++ l)) 0 := by
    unfold okS; rw [eq, Nat.sub_self]
  unfold treeS
  rw [e0, show wantsS (narB T ++ l) (okS (narB T ++ l) (txs [wMagic] ++ (nodeB T ++ l)) 0) [bMagic] = okS (narB T ++ l) (nodeB T ++ l) 0 from wants_w [bMagic] hs (by decide), node_w (narB T ++ l) T 65 1 0 l (by omega) hc hs.tl]
  unfold okS
  rw [List.length_append, Nat.add_sub_cancel]
end Go.Proofs.Ytikamklgelcnhaa
/- The reader's node, from its dir. -/
namespace Go.Proofs.Ytikamklgelcnhaa
open Go.RowKit
set_option linter.unusedSimpArgs false
/-- What node and dir answer. -/
def NdA (lo hi r : Nat) (b : Value) (B : List UInt8) (w : World) (τ : RS) (T : Tr) (x : Ending) (w' : World) : Prop :=
  ∃ cs : List Value, x = .returned (.agg cs.toArray) ∧ Sole r w w' ∧ Rst lo hi r b B w' τ ∧ Rdn (fun v d => Tv lo hi b v B d) w' w.heap.size w'.heap.size T cs
theorem LfA.node {lo hi r : Nat} {b : Value} {B : List UInt8} {w : World} {τ : RS} {k : Int} {x : Bool} {d : ByteArray} {e : Ending} {w' : World} (h : LfA lo hi r b B w τ k x d e w') : NdA lo hi r b B w τ (.mk k x d [] []) e w' := by
  obtain ⟨a, c, rfl, h1, h2, h3⟩ := h
  exact ⟨_, rfl, h1, h2, (rl_end (rl_nil _ w.heap.size w') h3)⟩
/-- A node that was answered is stored and answered. -/
theorem NdA.store {lo hi r : Nat} {b : Value} {B : List UInt8} {w W w' : World} {τ : RS} {T : Tr} {v0 v1 v2 v3 v4 : Value} (h : NdA lo hi r b B W τ T (.returned (.agg #[v0, v1, v2, v3, v4])) w') (hs : Sole r w W) (hz : w.heap.size + 1 ≤ W.heap.size) (hr : r < w.heap.size) (hhi : hi ≤ w.heap.size) : NdA lo hi r b B w τ T (.returned (.agg #[v0, v1, v2, v3, v4])) (set5 w' w.heap.size v0 v1 v2 v3 v4) := by
  obtain ⟨cs, he, h1, h2, h3⟩ := h
  have hbz : Below w.heap.size w' (set5 w' w.heap.size v0 v1 v2 v3 v4) := below_set5 (Below.refl _ _) (Nat.le_refl _) _ _ _ _ _
  refine ⟨cs, he, sole_set5 (hs.trans h1) (Nat.le_refl _) _ _ _ _ _, h2.kept hbz hr hhi, ?_⟩
  refine Rdn.mono (h3.same (fun k hk _ => set5_other _ _ _ _ _ _ _ _ (by omega))) (by omega) (by simp)
theorem NdA.form {lo hi r : Nat} {b : Value} {B : List UInt8} {w : World} {τ : RS} {T : Tr} {x : Ending} {w' : World} (h : NdA lo hi r b B w τ T x w') : ∃ k y a1 n1 c1 a2 n2 c2 a3 n3 c3, x = .returned (.agg #[.int .i64 k, .bool y, .slice a1 n1 c1, .slice a2 n2 c2, .slice a3 n3 c3]) := by
  obtain ⟨cs, rfl, h1, h2, h3⟩ := h
  obtain ⟨k, x, a1, n1, c1, a2, n2, c2, a3, n3, c3, rfl⟩ := h3.form
  exact ⟨k, x, a1, n1, c1, a2, n2, c2, a3, n3, c3, rfl⟩
theorem tl_reg : bReg.toList = [114, 101, 103, 117, 108, 97, 114] := by rw [ByteArray.toList_eq]; rfl
theorem tl_sym : bSym.toList = [115, 121, 109, 108, 105, 110, 107] := by rw [ByteArray.toList_eq]; rfl
theorem tl_dir : bDir.toList = [100, 105, 114, 101, 99, 116, 111, 114, 121] := by rw [ByteArray.toList_eq]; rfl
set_option maxRecDepth 20000 in
set_option maxHeartbeats 2000000 in
theorem node_step (lo hi r : Nat) (b : Value) (B : List UInt8) (f deep : Nat) (hdeep : deep ≤ 1000000)
    (HD : ∀ (w : World) (σ : RS), Rst lo hi r b B w σ → deep ≤ 64 → Calls Try.prog 83 #[.pointer (some ⟨r, 0, none⟩), .int .i64 (deep : Int)] w (NdA lo hi r b B w (dirS B (nodeS B f (deep + 1)) (B.length + 1) σ [] []).1 (.mk 2 false ⟨#[]⟩ (dirS B (nodeS B f (deep + 1)) (B.length + 1) σ [] []).2.1 (dirS B (nodeS B f (deep + 1)) (B.length + 1) σ [] []).2.2)))
    (w : World) (σ : RS) (h : Rst lo hi r b B w σ) :
    Calls Try.prog 59 #[.pointer (some ⟨r, 0, none⟩), .int .i64 (deep : Int)] w (NdA lo hi r b B w (nodeS B (f + 1) deep σ).1 (nodeS B (f + 1) deep σ).2) := by
  obtain ⟨Q, hQ⟩ : ∃ Q, Q = NdA lo hi r b B w (nodeS B (f + 1) deep σ).1 (nodeS B (f + 1) deep σ).2 := ⟨_, rfl⟩
  rw [← hQ]
  rw [nodeS] at hQ
  have hko : (kindS B deep σ).2 = bDir → deep ≤ 64 := fun hk => (kind_ok hk (by decide)).1
  have HQ := hide hQ
  obtain ⟨W0, hW0⟩ : ∃ W0, W0 = w.alloc (.cells #[.int .i64 0, .bool false, .slice none 0 0, .slice none 0 0, .slice none 0 0] 26) := ⟨_, rfl⟩
  have hb0 : Below w.heap.size w W0 := by rw [hW0]; exact (Below.refl _ _).alloc (Nat.le_refl _) _
  have hs0 : W0.heap.size = w.heap.size + 1 := by rw [hW0]; simp
  have hx0 : Bx W0 w.heap.size (.int .i64 0) (.bool false) (.slice none 0 0) (.slice none 0 0) (.slice none 0 0) := by rw [hW0]; exact bx_new _ _ _ _ _ _
  have hlt := h.lt
  have hhi := h.hi
  have H1 := hide (begin_any lo hi r b B W0 σ deep (h.kept hb0 hlt h.hi) hdeep)
  have HX0 := hide (And.intro (Sole.of_below (g := r) hb0) hx0)
  have HS0 := hide hs0
  have HW0 := hide hW0
  have HDD := hide HD
  have HKO := hide hko
  clear h hb0 hx0 hQ hs0 hW0 HD hko
  go_enter Try.func59, Try.ntmps59
  go_wp2_with fail
  rw [← unhide HW0]
  refine (unhide H1).mono ?_
  rintro x w1 ⟨rfl, hs1, hR1⟩
  have hz1 := hs1.size
  rw [unhide HS0] at hz1
  have HX1 := hide (And.intro ((unhide HX0).1.trans hs1) ((unhide HX0).2.sole hs1 (by omega)))
  have H2 := hide (wants_any lo hi r b B w1 _ [bOpen, bType] hR1 (by decide))
  clear hs1 hR1 H1 HX0
  go_wp2_with fail
  refine (unhide H2).mono ?_
  rintro x w2 ⟨rfl, hs2, hR2⟩
  have hz2 := hs2.size
  have HX2 := hide (And.intro ((unhide HX1).1.trans hs2) ((unhide HX1).2.sole hs2 (by omega)))
  have H3 := hide (text_rst lo hi r b B w2 _ hR2)
  clear hs2 hR2 H2 HX1
  go_wp2_with fail
  refine (unhide H3).mono ?_
  rintro x w3 ⟨a, c, rfl, hs3, hR3, hv⟩
  have hcv := tv_conv hR3 hv
  have hz3 := hs3.size
  have HX3 := hide (And.intro ((unhide HX2).1.trans hs3) ((unhide HX2).2.sole hs3 (by omega)))
  have HK : Hid (kindS B deep σ = txtS B (wantsS B (beginS deep σ) [bOpen, bType])) := rfl
  generalize txtS B (wantsS B (beginS deep σ) [bOpen, bType]) = K at *
  obtain ⟨τ, d⟩ := K
  have HR3 := hide hR3
  obtain ⟨x0, x1, x2, x3, x4⟩ := (unhide HX3).2.cells
  have hqe := unhide HQ
  rw [unhide HK] at hqe
  have hko := unhide HKO
  rw [unhide HK] at hko
  simp only at hqe hko hcv
  clear hs3 hR3 hv H3 HX2 HQ HKO HK
  by_cases h1 : d = bReg
  · rw [if_pos h1] at hqe
    have hb1 : (d.toList == [114, 101, 103, 117, 108, 97, 114]) = true := by rw [h1, tl_reg]; rfl
    have HC := hide (file_any lo hi r b B w3 τ (unhide HR3))
    have HQE := hqe
    clear hqe
    clear h1 hko
    go_wp2_with fail
    refine (unhide HC).mono ?_
    intro x w4 hL
    have hN := hL.node
    clear hL
    revert hN
    revert w4 x
    rintro x w4 hN
    obtain ⟨k', y', b1, n1, d1, b2, n2, d2, b3, n3, d3, rfl⟩ := hN.form
    have hs4 : Sole r w3 w4 := by obtain ⟨_, _, h, _⟩ := hN; exact h
    have hx4 := (unhide HX3).2.sole hs4 (by omega)
    have HE := hide (hN.store (unhide HX3).1 (by omega) hlt hhi)
    clear x0 x1 x2 x3 x4
    obtain ⟨x0, x1, x2, x3, x4⟩ := hx4.cells
    have g0 := hx4.fr 0
    have g1 := hx4.fr 1
    have g2 := hx4.fr 2
    have g3 := hx4.fr 3
    have g4 := hx4.fr 4
    clear hN hs4 hx4
    go_wp2_with fail
    refine bodyPost_ret (v := .agg #[.int .i64 k', .bool y', .slice b1 n1 d1, .slice b2 n2 d2, .slice b3 n3 d3]) (by simp [results, Try.results59, go_sem, x0, x1, x2, x3, x4]) rfl ?_
    rw [HQE]
    exact unhide HE
  · rw [if_neg h1] at hqe
    have hb1 := toList_ne h1
    rw [tl_reg] at hb1
    by_cases h2 : d = bSym
    · rw [if_pos h2] at hqe
      have hb2 : (d.toList == [115, 121, 109, 108, 105, 110, 107]) = true := by rw [h2, tl_sym]; rfl
      have HC := hide (link_any lo hi r b B w3 τ (unhide HR3))
      have HQE := hqe
      clear hqe h1 h2 hko
      go_wp2_with fail
      refine (unhide HC).mono ?_
      intro x w4 hL
      have hN := hL.node
      clear hL
      revert hN
      revert w4 x
      rintro x w4 hN
      obtain ⟨k', y', b1, n1, d1, b2, n2, d2, b3, n3, d3, rfl⟩ := hN.form
      have hs4 : Sole r w3 w4 := by obtain ⟨_, _, h, _⟩ := hN; exact h
      have hx4 := (unhide HX3).2.sole hs4 (by omega)
      have HE := hide (hN.store (unhide HX3).1 (by omega) hlt hhi)
      clear x0 x1 x2 x3 x4
      obtain ⟨x0, x1, x2, x3, x4⟩ := hx4.cells
      have g0 := hx4.fr 0
      have g1 := hx4.fr 1
      have g2 := hx4.fr 2
      have g3 := hx4.fr 3
      have g4 := hx4.fr 4
      clear hN hs4 hx4
      go_wp2_with fail
      refine bodyPost_ret (v := .agg #[.int .i64 k', .bool y', .slice b1 n1 d1, .slice b2 n2 d2, .slice b3 n3 d3]) (by simp [results, Try.results59, go_sem, x0, x1, x2, x3, x4]) rfl ?_
      rw [HQE]
      exact unhide HE
    · rw [if_neg h2] at hqe
      have hb2 := toList_ne h2
      rw [tl_sym] at hb2
      by_cases h3 : d = bDir
      · rw [if_pos h3] at hqe
        have HC := hide (unhide HDD w3 τ (unhide HR3) (hko h3))
        have hb3 : (d.toList == [100, 105, 114, 101, 99, 116, 111, 114, 121]) = true := by rw [h3, tl_dir]; rfl
        have HQE := hqe
        clear hqe hko h1 h2 h3
        go_wp2_with fail
        refine (unhide HC).mono ?_
        rintro x w4 hN
        obtain ⟨k', y', b1, n1, d1, b2, n2, d2, b3, n3, d3, rfl⟩ := hN.form
        have hs4 : Sole r w3 w4 := by obtain ⟨_, _, h, _⟩ := hN; exact h
        have hx4 := (unhide HX3).2.sole hs4 (by omega)
        have HE := hide (hN.store (unhide HX3).1 (by omega) hlt hhi)
        clear x0 x1 x2 x3 x4
        obtain ⟨x0, x1, x2, x3, x4⟩ := hx4.cells
        have g0 := hx4.fr 0
        have g1 := hx4.fr 1
        have g2 := hx4.fr 2
        have g3 := hx4.fr 3
        have g4 := hx4.fr 4
        clear hN hs4 hx4
        go_wp2_with fail
        refine bodyPost_ret (v := .agg #[.int .i64 k', .bool y', .slice b1 n1 d1, .slice b2 n2 d2, .slice b3 n3 d3]) (by simp [results, Try.results59, go_sem, x0, x1, x2, x3, x4]) rfl ?_
        rw [HQE]
        exact unhide HE
      · rw [if_neg h3] at hqe
        have hb3 := toList_ne h3
        rw [tl_dir] at hb3
        have HC := hide (fail_rst lo hi r b B w3 τ 3 (by omega) (unhide HR3))
        have HQE := hqe
        clear hqe hko h1 h2 h3
        go_wp2_with fail
        refine (unhide HC).mono ?_
        rintro x w4 ⟨rfl, hs4, hR4⟩
        have hx4 := (unhide HX3).2.sole hs4 (by omega)
        have hN : NdA lo hi r b B w3 (failS 3 τ) (.mk 0 false ⟨#[]⟩ [] []) (.returned (.agg #[.int .i64 0, .bool false, .slice none 0 0, .slice none 0 0, .slice none 0 0])) w4 := ⟨_, rfl, hs4, hR4, rl_end (d := ⟨#[]⟩) (rl_nil _ w3.heap.size w4) (tv_nil _ _ _ _)⟩
        have HE := hide (hN.store (unhide HX3).1 (by omega) hlt hhi)
        clear x0 x1 x2 x3 x4
        obtain ⟨x0, x1, x2, x3, x4⟩ := hx4.cells
        have g0 := hx4.fr 0
        have g1 := hx4.fr 1
        have g2 := hx4.fr 2
        have g3 := hx4.fr 3
        have g4 := hx4.fr 4
        clear hN hs4 hx4 hR4
        go_wp2_with fail
        refine bodyPost_ret (v := .agg #[.int .i64 0, .bool false, .slice none 0 0, .slice none 0 0, .slice none 0 0]) (by simp [results, Try.results59, go_sem, x0, x1, x2, x3, x4]) rfl ?_
        rw [HQE]
        exact unhide HE
end Go.Proofs.Ytikamklgelcnhaa
/- The reader's dir under way. -/
namespace Go.Proofs.Ytikamklgelcnhaa
open Go.RowKit
set_option linter.unusedSimpArgs false
/-- How far the reader is from the end, or from its error. -/
def rmeas (B : List UInt8) (r : Nat) (w : World) : Nat :=
  match w.cell? ⟨r, 3, none⟩ with
  | some (.int _ e) => if e = 0 then (match w.cell? ⟨r, 1, none⟩ with | some (.int _ p) => B.length + 1 - p.toNat | _ => 0) else 0
  | _ => 0
theorem rmeas_ok {lo hi r : Nat} {b : Value} {B : List UInt8} {w : World} {p m : Nat} (h : Rst lo hi r b B w (.ok (p, m))) : rmeas B r w = B.length + 1 - p := by
  obtain ⟨h0, h1, h2, h3⟩ := h.1.rx.cells
  unfold rmeas
  rw [h3, h1]
  simp
theorem rmeas_err {lo hi r : Nat} {b : Value} {B : List UInt8} {w : World} {E : Int} (h : Rst lo hi r b B w (.error E)) : rmeas B r w = 0 := by
  obtain ⟨he, p, m, k⟩ := h
  obtain ⟨h0, h1, h2, h3⟩ := k.rx.cells
  unfold rmeas
  rw [h3]
  simp [he]
/-- A dir under way. -/
structure DirW (D : Value → ByteArray → Prop) (lo hi r : Nat) (b : Value) (B : List UInt8) (w wr : World) (τ : RS) (ns : List ByteArray) (ks : List Tr) (vn vk : Value) (p q : Nat) : Prop where
  sole : Sole r w wr
  rst : Rst lo hi r b B wr τ
  br : Bx wr w.heap.size (.int .i64 0) (.bool false) (.slice none 0 0) (.slice none 0 0) (.slice none 0 0)
  bt : Bx wr (w.heap.size + 1) (.int .i64 2) (.bool false) (.slice none 0 0) vn vk
  rl : Rl D (w.heap.size + 2) wr vn vk ns ks p q
  sz : w.heap.size + 2 ≤ wr.heap.size
  lt : r < w.heap.size
  hh : hi ≤ w.heap.size
theorem DirW.call {D : Value → ByteArray → Prop} {lo hi r : Nat} {b : Value} {B : List UInt8} {w wr w1 : World} {τ τ' : RS} {ns : List ByteArray} {ks : List Tr} {vn vk : Value} {p q : Nat} (h : DirW D lo hi r b B w wr τ ns ks vn vk p q) (hs : Sole r wr w1) (hR : Rst lo hi r b B w1 τ') : DirW D lo hi r b B w w1 τ' ns ks vn vk p q := by
  obtain ⟨h1, h2, h3, h4, h5, h6, h7, h8⟩ := h
  have hz := hs.size
  exact ⟨h1.trans hs, hR, h3.sole hs (by omega), h4.sole hs (by omega), h5.same (fun k hk hk2 => hs.block k hk2 (by omega)) hz, by omega, h7, h8⟩
theorem DirW.drew {D : Value → ByteArray → Prop} {lo hi r : Nat} {b : Value} {B : List UInt8} {w wr : World} {τ : RS} {ns : List ByteArray} {ks : List Tr} {vn vk : Value} {p q : Nat} (h : DirW D lo hi r b B w wr τ ns ks vn vk p q) : DirW D lo hi r b B w wr.drew τ ns ks vn vk p q := by
  have hs : Sole r wr wr.drew := (Sole.refl r wr).drew
  have hb : Below wr.heap.size wr wr.drew := ⟨hs.os, hs.tape, hs.output, hs.size, fun _ _ => rfl⟩
  exact h.call hs (h.rst.kept hb (by have := h.sz; have := h.lt; omega) h.rst.hi)
theorem DirW.name {D : Value → ByteArray → Prop} {lo hi r : Nat} {b : Value} {B : List UInt8} {w wr w8 : World} {τ : RS} {ns ns' : List ByteArray} {ks : List Tr} {vn vk vn' : Value} {p p' q : Nat} (h : DirW D lo hi r b B w wr τ ns ks vn vk p q) (hb : Below (w.heap.size + 2) wr w8) (hz : wr.heap.size ≤ w8.heap.size) (hc : Rl D (w.heap.size + 2) w8 vn' vk ns' ks p' q) :
    DirW D lo hi r b B w (w8.setCell ⟨w.heap.size + 1, 3, none⟩ vn') τ ns' ks vn' vk p' q := by
  obtain ⟨h1, h2, h3, h4, h5, h6, h7, h8⟩ := h
  have k1 : Below w.heap.size wr (w8.setCell ⟨w.heap.size + 1, 3, none⟩ vn') := (hb.mono (by omega)).setCell (by simp) _
  refine ⟨⟨k1.os.trans h1.os, k1.tape.trans h1.tape, k1.output.trans h1.output, by simp; omega, fun i hi hg => (k1.block i hi).trans (h1.block i hi hg)⟩, h2.kept k1 h7 h8, (h3.kept hb (by omega)).of (set_other _ _ _ _ _ (by omega)), (h4.kept hb (by omega)).set3 _, hc.same (fun k hk _ => set_other _ _ _ _ _ (by omega)) (by simp), by simp; omega, h7, h8⟩
theorem DirW.kid {D : Value → ByteArray → Prop} {lo hi r : Nat} {b : Value} {B : List UInt8} {w wr w8 : World} {τ : RS} {ns : List ByteArray} {ks ks' : List Tr} {vn vk vk' : Value} {p q q' : Nat} (h : DirW D lo hi r b B w wr τ ns ks vn vk p q) (hb : Below (w.heap.size + 2) wr w8) (hz : wr.heap.size ≤ w8.heap.size) (hc : Rl D (w.heap.size + 2) w8 vn vk' ns ks' p q') :
    DirW D lo hi r b B w (w8.setCell ⟨w.heap.size + 1, 4, none⟩ vk') τ ns ks' vn vk' p q' := by
  obtain ⟨h1, h2, h3, h4, h5, h6, h7, h8⟩ := h
  have k1 : Below w.heap.size wr (w8.setCell ⟨w.heap.size + 1, 4, none⟩ vk') := (hb.mono (by omega)).setCell (by simp) _
  refine ⟨⟨k1.os.trans h1.os, k1.tape.trans h1.tape, k1.output.trans h1.output, by simp; omega, fun i hi hg => (k1.block i hi).trans (h1.block i hi hg)⟩, h2.kept k1 h7 h8, (h3.kept hb (by omega)).of (set_other _ _ _ _ _ (by omega)), (h4.kept hb (by omega)).set4 _, hc.same (fun k hk _ => set_other _ _ _ _ _ (by omega)) (by simp), by simp; omega, h7, h8⟩
end Go.Proofs.Ytikamklgelcnhaa
/- The reader's dir, from its node one deeper. -/
namespace Go.Proofs.Ytikamklgelcnhaa
open Go.RowKit
set_option linter.unusedSimpArgs false
/-- What stands at the head of dir's loop, as mathematics. -/
structure DirM (B : List UInt8) (N : RS → RS × Tr) (σ τ : RS) (ns : List ByteArray) (ks : List Tr) (k : Nat) : Prop where
  len : ns.length = ks.length
  few : ∀ p m, τ = .ok (p, m) → ns.length * 8 ≤ p
  fuel : ∀ p m, τ = .ok (p, m) → B.length + 1 ≤ k + p
  one : 1 ≤ k
  spec : dirS B N k τ ns ks = dirS B N (B.length + 1) σ [] []
  small : ns.length ≤ 600000
/-- The state behind an entry. -/
def nextS (B : List UInt8) (N : RS → RS × Tr) (τ : RS) : RS := wantsS B (N (entS B (eitherS B τ bEntry bClose).1).1).1 [bClose]
theorem next_ok {B : List UInt8} {N : RS → RS × Tr} {τ : RS} (hN : ∀ σ, Le σ (N σ).1) (hE : (eitherS B τ bEntry bClose).2 = true) : ∃ p m, τ = .ok (p, m) ∧ p + 8 ≤ B.length ∧ ∀ p' m', nextS B N τ = .ok (p', m') → p + 8 ≤ p' := by
  obtain ⟨p, m, p', h1, h2, h3, h4⟩ := either_ok hE (by decide)
  refine ⟨p, m, h1, by omega, fun p'' m'' he => ?_⟩
  have hl := ((entS_le B (eitherS B τ bEntry bClose).1).trans (hN _)).trans (wantsS_le B [bClose] _)
  unfold nextS at he
  rw [he, h4] at hl
  have := hl.1
  omega
theorem DirM.step {B : List UInt8} {N : RS → RS × Tr} {σ τ : RS} {ns : List ByteArray} {ks : List Tr} {k : Nat} (h : DirM B N σ τ ns ks (k + 1)) (hN : ∀ σ, Le σ (N σ).1) (hB : B.length ≤ 4000000) (hE : (eitherS B τ bEntry bClose).2 = true) : DirM B N σ (nextS B N τ) (ns ++ [(entS B (eitherS B τ bEntry bClose).1).2]) (ks ++ [(N (entS B (eitherS B τ bEntry bClose).1).1).2]) k := by
  obtain ⟨p, m, h1, h2, h3⟩ := next_ok hN hE
  have h4 := h.few p m h1
  have h5 := h.fuel p m h1
  refine ⟨by simp [h.len], fun p' m' he => ?_, fun p' m' he => ?_, by omega, ?_, by simp; omega⟩
  · have := h3 p' m' he; simp; omega
  · have := h3 p' m' he; omega
  · rw [← h.spec, dirS, hE, if_pos rfl]; rfl
theorem meas_step {lo hi r : Nat} {b : Value} {B : List UInt8} {N : RS → RS × Tr} {w w' : World} {τ : RS} (hN : ∀ σ, Le σ (N σ).1) (hE : (eitherS B τ bEntry bClose).2 = true) (h : Rst lo hi r b B w τ) (h' : Rst lo hi r b B w' (nextS B N τ)) : rmeas B r w' < rmeas B r w := by
  obtain ⟨p, m, rfl, h2, h3⟩ := next_ok hN hE
  rw [rmeas_ok h]
  cases hn : nextS B N (.ok (p, m)) with
  | error E => rw [hn] at h'; rw [rmeas_err h']; omega
  | ok q =>
    obtain ⟨p', m'⟩ := q
    rw [hn] at h'
    have := h3 p' m' hn
    rw [rmeas_ok h']; omega
theorem sole_drew' {g : Nat} {w w1 : World} (h : Sole g w.drew w1) : Sole g w w1 := ⟨h.os, h.tape, h.output, h.size, h.block⟩
set_option maxRecDepth 20000 in
set_option maxHeartbeats 4000000 in
theorem dir_step (lo hi r : Nat) (b : Value) (B : List UInt8) (deep : Nat) (hdeep : deep ≤ 1000) (hB : B.length ≤ 4000000) (N : RS → RS × Tr) (hNle : ∀ σ, Le σ (N σ).1)
    (HN : ∀ (w : World) (σ : RS), Rst lo hi r b B w σ → Calls Try.prog 59 #[.pointer (some ⟨r, 0, none⟩), .int .i64 ((deep : Int) + 1)] w (NdA lo hi r b B w (N σ).1 (N σ).2))
    (w : World) (σ : RS) (h : Rst lo hi r b B w σ) :
    Calls Try.prog 83 #[.pointer (some ⟨r, 0, none⟩), .int .i64 (deep : Int)] w (NdA lo hi r b B w (dirS B N (B.length + 1) σ [] []).1 (.mk 2 false ⟨#[]⟩ (dirS B N (B.length + 1) σ [] []).2.1 (dirS B N (B.length + 1) σ [] []).2.2)) := by
  obtain ⟨Q, hQ⟩ : ∃ Q, Q = NdA lo hi r b B w (dirS B N (B.length + 1) σ [] []).1 (.mk 2 false ⟨#[]⟩ (dirS B N (B.length + 1) σ [] []).2.1 (dirS B N (B.length + 1) σ [] []).2.2) := ⟨_, rfl⟩
  rw [← hQ]
  have HQ := hide hQ
  obtain ⟨W0, hW0⟩ : ∃ W0, W0 = (w.alloc (.cells #[.int .i64 0, .bool false, .slice none 0 0, .slice none 0 0, .slice none 0 0] 26)).alloc (.cells #[.int .i64 2, .bool false, .slice none 0 0, .slice none 0 0, .slice none 0 0] 26) := ⟨_, rfl⟩
  have hb0 : Below w.heap.size w W0 := by rw [hW0]; exact ((Below.refl _ _).alloc (Nat.le_refl _) _).alloc (by simp) _
  have hs0 : W0.heap.size = w.heap.size + 2 := by rw [hW0]; simp
  have hx0 : Bx W0 w.heap.size (.int .i64 0) (.bool false) (.slice none 0 0) (.slice none 0 0) (.slice none 0 0) := by
    rw [hW0]; exact (bx_new _ _ _ _ _ _).kept ((Below.refl (w.heap.size + 1) _).alloc (by simp) _) (by omega)
  have hx1 : Bx W0 (w.heap.size + 1) (.int .i64 2) (.bool false) (.slice none 0 0) (.slice none 0 0) (.slice none 0 0) := by
    rw [hW0]
    have := bx_new (w.alloc (.cells #[.int .i64 0, .bool false, .slice none 0 0, .slice none 0 0, .slice none 0 0] 26)) (.int .i64 2) (.bool false) (.slice none 0 0) (.slice none 0 0) (.slice none 0 0)
    simpa using this
  have hlt := h.lt
  have hhi := h.hi
  have HW : Hid (DirW (fun v d => Tv lo hi b v B d) lo hi r b B w W0 σ [] [] (.slice none 0 0) (.slice none 0 0) 0 0) := ⟨Sole.of_below hb0, h.kept hb0 hlt hhi, hx0, hx1, rl_nil _ _ _, by omega, hlt, hhi⟩
  have HM : Hid (DirM B N σ σ [] [] (B.length + 1)) := ⟨rfl, fun _ _ _ => by simp, fun p m _ => by omega, by omega, rfl, by simp⟩
  have HNN := hide HN
  have HNle := hide hNle
  have HW0 := hide hW0
  clear h hb0 hs0 hx0 hx1 hQ HN hNle hW0
  go_enter Try.func83, Try.ntmps83
  go_wp2_with fail
  rw [← unhide HW0]
  go_loopw [7] (fun _ wr => ∃ (τ : RS) (ns : List ByteArray) (ks : List Tr) (a1 a2 : Option Addr) (c1 c2 k : Nat), Hid (DirW (fun v d => Tv lo hi b v B d) lo hi r b B w wr τ ns ks (.slice a1 ns.length c1) (.slice a2 ks.length c2) ns.length ks.length) ∧ Hid (DirM B N σ τ ns ks k)) (fun _ wr => rmeas B r wr)
  case atStart => exact ⟨σ, [], [], none, none, 0, 0, B.length + 1, unhide HW, unhide HM⟩
  case round =>
    clear HW HM
    obtain ⟨τ, ns, ks, a1, a2, c1, c2, k, hW, hM⟩ := hrel
    have H1 := hide (either_any lo hi r b B wr τ bEntry bClose (unhide hW).rst)
    go_wp2_with fail
    refine (unhide H1).mono ?_
    rintro x w1 ⟨rfl, hs1, hR1⟩
    have hW1 := hide ((unhide hW).call hs1 hR1)
    clear hs1 hR1 H1
    obtain ⟨k', rfl⟩ : ∃ k', k = k' + 1 := ⟨k - 1, by have := (unhide hM).one; omega⟩
    cases hE : (eitherS B τ bEntry bClose).2 with
    | false =>
      obtain ⟨y0, y1, y2, y3, y4⟩ := (unhide hW1).bt.cells
      obtain ⟨x0, x1, x2, x3, x4⟩ := (unhide hW1).br.cells
      have g0 := (unhide hW1).br.fr 0
      have g1 := (unhide hW1).br.fr 1
      have g2 := (unhide hW1).br.fr 2
      have g3 := (unhide hW1).br.fr 3
      have g4 := (unhide hW1).br.fr 4
      have HE : Hid (Q (.returned (.agg #[.int .i64 2, .bool false, .slice none 0 0, .slice a1 ns.length c1, .slice a2 ks.length c2])) (set5 w1 w.heap.size (.int .i64 2) (.bool false) (.slice none 0 0) (.slice a1 ns.length c1) (.slice a2 ks.length c2))) := by
        have hsp := (unhide hM).spec
        rw [dirS, hE, if_neg (by decide)] at hsp
        show Q _ _
        rw [unhide HQ, ← hsp]
        obtain ⟨h1, h2, h3, h4, h5, h6, h7, h8⟩ := unhide hW1
        have hbz : Below w.heap.size w1 (set5 w1 w.heap.size (.int .i64 2) (.bool false) (.slice none 0 0) (.slice a1 ns.length c1) (.slice a2 ks.length c2)) := below_set5 (Below.refl _ _) (Nat.le_refl _) _ _ _ _ _
        refine ⟨_, rfl, sole_set5 h1 (Nat.le_refl _) _ _ _ _ _, h2.kept hbz h7 h8, ?_⟩
        have h9 := rl_end (k := 2) (x := false) (d := ⟨#[]⟩) (a := none) (c := 0) h5 (tv_nil lo hi b B)
        exact Rdn.mono (h9.same (fun k hk _ => set5_other _ _ _ _ _ _ _ _ (by omega))) (by omega) (by simp)
      clear hW hM hW1
      go_wp2_with fail
      exact bodyPost_ret (v := .agg #[.int .i64 2, .bool false, .slice none 0 0, .slice a1 ns.length c1, .slice a2 ks.length c2]) (by simp [results, Try.results83, go_sem, x0, x1, x2, x3, x4]) rfl (unhide HE)
    | true =>
      have hsm := (unhide hM).small
      have hsk : ks.length ≤ 600000 := by rw [← (unhide hM).len]; exact hsm
      have HM' := hide ((unhide hM).step (unhide HNle) hB hE)
      have HMS := hide (fun (w' : World) (h' : Rst lo hi r b B w' (nextS B N τ)) => meas_step (unhide HNle) hE (unhide hW).rst h')
      have HNX : Hid (nextS B N τ = wantsS B (N (entS B (eitherS B τ bEntry bClose).1).1).1 [bClose] ∧ entS B (eitherS B τ bEntry bClose).1 = (wantsS B (txtS B (wantsS B (eitherS B τ bEntry bClose).1 [bOpen, bName])).1 [bNode], (txtS B (wantsS B (eitherS B τ bEntry bClose).1 [bOpen, bName])).2)) := ⟨rfl, rfl⟩
      have H2 := hide (wants_any lo hi r b B w1 _ [bOpen, bName] (unhide hW1).rst (by decide))
      clear hW hM
      generalize entS B (eitherS B τ bEntry bClose).1 = En at *
      generalize nextS B N τ = nx at *
      generalize (eitherS B τ bEntry bClose).1 = τ1 at *
      generalize hS1 : wantsS B τ1 [bOpen, bName] = τ2 at *
      clear hS1
      go_wp2_with fail
      refine (unhide H2).mono ?_
      rintro x w2 ⟨rfl, hs2, hR2⟩
      have hW2 := hide ((unhide hW1).call hs2 hR2)
      clear hs2 hR2 H2 hW1
      have HT := hide (text_rst lo hi r b B w2.drew τ2 (unhide hW2).drew.rst)
      obtain ⟨x0, x1, x2, x3, x4⟩ := (unhide hW2).bt.cells
      have hz2 := (unhide hW2).sz
      have hl2 : w.heap.size + 1 < w2.heap.size := by omega
      obtain ⟨T, hT⟩ : ∃ T, T = txtS B τ2 := ⟨_, rfl⟩
      unfold TxR at HT
      rw [← hT] at HT
      have HNX' := unhide HNX
      rw [← hT] at HNX'
      have HNY := hide HNX'
      clear HNX HNX' hT
      obtain ⟨τ3, s⟩ := T
      go_wp2_with fail
      go_region_law (go_simp; refine (unhide HT).mono ?_; rintro e w7 ⟨a7, c7, rfl, hs7, hR7, hv7⟩; have hcv := tv_conv hR7 hv7; have hW7 := hide ((unhide hW2).drew.call hs7 hR7); have hext := (unhide hW7).rl.ext [s] []; rw [List.append_nil] at hext; obtain ⟨a8, c8, w8, happ8, hRl8, hb8, hz8⟩ := rl_name s hext (Sole.refl r w7) (by omega) (by simp) (by omega) (unhide hW7).sz; obtain ⟨x0', x1', x2', x3', x4'⟩ := (unhide hW7).bt.cells; obtain ⟨q0, q1, q2, q3, q4⟩ := ((unhide hW7).bt.kept hb8 (by omega)).cells; have f8 := ((unhide hW7).bt.kept hb8 (by omega)).fr 3; have hl7 : w.heap.size + 1 < w7.heap.size := Nat.lt_of_lt_of_le (by omega) (unhide hW7).sz)
      all_goals
        have hW9 := hide ((unhide hW7).name hb8 hz8 hRl8)
        clear happ8 hRl8 hb8 hz8 x0' x1' x2' x3' x4' q0 q1 q2 q3 q4 f8 hl7 hext hcv hv7 hs7 hR7 hW7 x0 x1 x2 x3 x4 hz2 hl2 HT hW2
        generalize w8.setCell ⟨w.heap.size + 1, 3, none⟩ (.slice a8 (ns.length + 1) c8) = w9 at *
        have H5 := hide (wants_any lo hi r b B w9 τ3 [bNode] (unhide hW9).rst (by decide))
        generalize hS5 : wantsS B τ3 [bNode] = τ5 at *
        clear hS5
        go_wp2_with fail
        refine (unhide H5).mono ?_
        rintro x w10 ⟨rfl, hs10, hR10⟩
        have hW10 := hide ((unhide hW9).call hs10 hR10)
        clear hs10 hR10 H5 hW9
        have HC := hide (unhide HNN w10.drew τ5 (unhide hW10).drew.rst)
        have hwr : IntKind.i64.wrap ((deep : Int) + 1) = (deep : Int) + 1 := IntWalk.i64_in _ (by omega)
        obtain ⟨x0, x1, x2, x3, x4⟩ := (unhide hW10).bt.cells
        have hz10 := (unhide hW10).sz
        have hl10 : w.heap.size + 1 < w10.heap.size := by omega
        have HN5 : Hid (∃ R, R = N τ5) := ⟨_, rfl⟩
        obtain ⟨R, hR⟩ := unhide HN5
        rw [← hR] at HC
        have HRR := hide hR
        clear hR HN5
        obtain ⟨τ6, t⟩ := R
        go_wp2_with fail
        go_region_law (go_simp; refine (unhide HC).mono ?_; rintro e w11 ⟨cs, rfl, hs11, hR11, hRd⟩; obtain ⟨k11, x11, r1, r2, r3, r4, r5, r6, r7, r8, r9, rfl⟩ := hRd.form; have hW11 := hide ((unhide hW10).drew.call hs11 hR11); have hext := Rl.ext (ns := ns ++ [s]) (ks := ks) (by simpa using (unhide hW10).drew.rl) [] [t]; rw [List.append_nil] at hext; obtain ⟨a12, c12, w12, happ12, hRl12, hb12, hz12⟩ := rl_kid hext hs11 (by omega) hRd (by simp) (by omega) (unhide hW10).drew.sz; obtain ⟨x0', x1', x2', x3', x4'⟩ := (unhide hW11).bt.cells; obtain ⟨q0, q1, q2, q3, q4⟩ := ((unhide hW11).bt.kept hb12 (by omega)).cells; have f12 := ((unhide hW11).bt.kept hb12 (by omega)).fr 4; have hl11 : w.heap.size + 1 < w11.heap.size := Nat.lt_of_lt_of_le (by omega) (unhide hW11).sz)
        all_goals
          rw [show (ns ++ [s]).length = ns.length + 1 by simp] at hRl12
          have hW13 := hide ((unhide hW11).kid hb12 hz12 hRl12)
          clear happ12 hRl12 hb12 hz12 x0' x1' x2' x3' x4' q0 q1 q2 q3 q4 f12 hl11 hext hs11 hR11 hRd hW11 x0 x1 x2 x3 x4 hz10 hl10 HC hW10
          generalize w12.setCell ⟨w.heap.size + 1, 4, none⟩ (.slice a12 (ks.length + 1) c12) = w13 at *
          have H8 := hide (wants_any lo hi r b B w13 τ6 [bClose] (unhide hW13).rst (by decide))
          go_wp2_with fail
          refine (unhide H8).mono ?_
          rintro x w14 ⟨rfl, hs14, hR14⟩
          have hW14 := hide ((unhide hW13).call hs14 hR14)
          clear hs14 hR14 H8 hW13
          obtain ⟨e1, e2⟩ := unhide HNY
          have e3 := unhide HRR
          have hl1 : (ns ++ [s]).length = ns.length + 1 := by simp
          have hl2 : (ks ++ [t]).length = ks.length + 1 := by simp
          rw [e2] at e1
          simp only [← e3] at e1
          have HM2 : Hid (DirM B N σ nx (ns ++ [s]) (ks ++ [t]) k') := by
            have := unhide HM'
            rw [e2] at this
            simp only [← e3] at this
            exact this
          have HF : Hid (DirW (fun v d => Tv lo hi b v B d) lo hi r b B w w14 nx (ns ++ [s]) (ks ++ [t]) (.slice a8 (ns ++ [s]).length c8) (.slice a12 (ks ++ [t]).length c12) (ns ++ [s]).length (ks ++ [t]).length) := by
            show DirW _ _ _ _ _ _ _ _ _ _ _ _ _ _ _
            rw [hl1, hl2, e1]
            exact unhide hW14
          have HG := hide (unhide HMS w14 (unhide HF).rst)
          clear e1 e2 e3 hl1 hl2 hW14 HM' HNY HRR HMS
          go_wp2_with fail
          go_roundw
          case rel => exact ⟨nx, ns ++ [s], ks ++ [t], a8, a12, c8, c12, k', unhide HF, unhide HM2⟩
          case measure => exact unhide HG
end Go.Proofs.Ytikamklgelcnhaa
