import Derived.Test.YtikamklgelcnhaaK6
import Derived.Test.YtikamklgelcnhaaK4
import Derived.Test.YtikamklgelcnhaaK5
/- Encode. -/
namespace Go.Proofs.Ytikamklgelcnhaa
open Go.RowKit
set_option linter.unusedSimpArgs false
theorem ne0 {n : Nat} (h : ¬ n = 0) : (((n : Nat) : Int) == 0) = false := by rw [beq_eq_false_iff_ne]; omega
theorem padN_lt (n : Nat) : padN n ≤ 7 := by unfold padN; omega
theorem sB_len (d : ByteArray) : (sB d).length = d.size := rfl
theorem nodeB_len (T : Tr) : (nodeB T).length ≤ 300 * wt T := by
  induction T using Tr.ind with
  | h k x d ns ks ih =>
  have hs : ∀ (ns : List ByteArray) (ks' : List Tr), (∀ t ∈ ks', t ∈ ks) → (entsB ns ks').length ≤ 300 * (ns.length + tenths ns + wts ks') := by
    intro ns
    induction ns with
    | nil => intro ks' _; rw [entsB_nil]; simp
    | cons n ns ihn =>
      intro ks' hk
      cases ks' with
      | nil => rw [entsB]; · simp
               · intro n ns t ks _ h; cases h
      | cons t ks' =>
        rw [entsB]
        have h1 := ihn ks' (fun t ht => hk t (by simp [ht]))
        have h2 := ih t (hk t (by simp))
        have l1 : (txs [wClose]).length = 16 := by decide
        have l2 : (txs [wEntry, wOpen, wName, sB n, wNode]).length = 72 + n.size + padN n.size := by
          simp only [txs, List.length_append, tx_len, sB_len, List.length_nil]
          have a1 : wEntry.length = 5 := rfl
          have a2 : wOpen.length = 1 := rfl
          have a3 : wName.length = 4 := rfl
          have a4 : wNode.length = 4 := rfl
          rw [a1, a2, a3, a4]
          have b1 : padN 5 = 3 := rfl
          have b2 : padN 1 = 7 := rfl
          have b3 : padN 4 = 4 := rfl
          rw [b1, b2, b3]
          omega
        have hp := padN_lt n.size
        simp only [List.length_append, List.length_cons, tenths, wts, l1, l2]
        omega
  have hp := padN_lt d.size
  have l1 : (txs [wOpen, wType]).length = 32 := by decide
  have l2 : (txs [wClose]).length = 16 := by decide
  have l3 : (txs [wReg]).length = 16 := by decide
  have l4 : (txs [wCont]).length = 16 := by decide
  have l5 : (txs [wExec, []]).length = 32 := by decide
  have l6 : (txs [wSym, wTarg]).length = 32 := by decide
  have l7 : (txs [wDir]).length = 24 := by decide
  have he := hs ns ks (fun t ht => ht)
  rw [nodeB, wt]
  split
  · split <;> simp only [List.length_append, List.length_nil, tx_len, sB_len, l1, l2, l3, l4, l5] <;> omega
  · split
    · simp only [List.length_append, tx_len, sB_len, l1, l2, l6]; omega
    · split
      · simp only [List.length_append, l1, l2, l7]; omega
      · simp only [List.length_append, List.length_nil, l1, l2]; omega
set_option maxRecDepth 20000 in
set_option maxHeartbeats 2000000 in
theorem writeTree_any (c : Nat) (T : Tr) (lo hi : Nat) (cs : List Value) (w : World) (v : Value) (xs : List UInt8) (hL : Lies lo hi w T cs) (hhi : hi ≤ c) (hS : Has c w v xs) (hN : Nice T) (hW : wt T ≤ 3000) (hx : xs.length ≤ 1000000) :
    Calls Try.prog 27 #[.agg cs.toArray, .func (Fn.func 28) #[] #[.pointer (some ⟨c, 0, none⟩)]] w fun e w' => e = .returned (.tuple #[]) ∧ SkA c w v (xs ++ narB T) w' := by
  have hcl := hS.ctr.lt
  have hown : ∀ g, v.ownBlock = some g → c + 1 ≤ g ∧ g < w.heap.size := fun g hg => owns_lt hS.row g hg
  obtain ⟨kt, xt, at0, nt, ct, bt, mt, dt, et, pt, qt, rfl⟩ := hL.form
  obtain ⟨W0, hW0⟩ : ∃ W0, W0 = w.alloc (.cells #[.int .i64 kt, .bool xt, .slice at0 nt ct, .slice bt mt dt, .slice et pt qt] 26) := ⟨_, rfl⟩
  have hb0 : Below w.heap.size w W0 := by rw [hW0]; exact (Below.refl _ _).alloc (Nat.le_refl _) _
  have hs0 : W0.heap.size = w.heap.size + 1 := by rw [hW0]; simp
  have hx0 : Bx W0 w.heap.size (.int .i64 kt) (.bool xt) (.slice at0 nt ct) (.slice bt mt dt) (.slice et pt qt) := by rw [hW0]; exact bx_new _ _ _ _ _ _
  have hA0 : At c W0 W0 v v xs := ⟨Gt.of_below v (Below.refl _ _), hS.kept hb0⟩
  have HL0 := hide (hL.kept hb0 (by omega))
  have HW0 := hide hW0
  have HG0 : Hid (Gt c w W0 v v) := Gt.of_below v hb0
  have HA0 := hide (And.intro hA0 hx0)
  have HO := hide hown
  have hlen := nodeB_len T
  have l1 : (txs [wMagic]).length = 24 := by decide
  have HL1 := hide (lits_any c [⟨#[110, 105, 120, 45, 97, 114, 99, 104, 105, 118, 101, 45, 49]⟩] W0 W0 v v _ hA0 (by simp) (by show _ + (txs [wMagic]).length ≤ _; omega) (by show (txs [wMagic]).length ≤ _; omega))
  have HN := hide (writeNode_any c T hN (by omega))
  clear hL hS hb0 hx0 hA0 hown hW0 hN
  rw [hs0] at HL1
  go_enter Try.func27, Try.ntmps27
  go_wp2_with fail
  rw [← unhide HW0]
  refine (unhide HL1).mono ?_
  rintro e w1 ⟨rfl, v1, hA, hg⟩
  have hB1 := (unhide HA0).1.box hg (fun g hg => (unhide HO g hg).2) (by omega) (by omega) (unhide HA0).2
  have hL1 := Lies.gt hg (unhide HL0) hhi (by omega) (fun g hg => by have := (unhide HO g hg).1; omega)
  have hA' : At c W0 w1 v v1 (xs ++ txs [wMagic]) := hA
  have HX := hide (unhide HN lo hi _ w1 v1 _ hL1 hhi hA'.h (by rw [List.length_append]; omega) (by omega))
  have HA1 := hide hA'
  obtain ⟨y0, y1, y2, y3, y4⟩ := hB1.cells
  clear HL1 hA hg hA' hL1 hB1 HW0
  go_wp2_with fail
  refine (unhide HX).mono ?_
  rintro e w2 ⟨rfl, hk⟩
  obtain ⟨v2, hA2, _⟩ := (unhide HA1).step hk
  have HZ : Hid (SkA c w v (xs ++ narB T) w2) := by
    have h := SkA.trans (unhide HG0) ⟨v2, hA2.g, hA2.h⟩
    show SkA _ _ _ _ _
    unfold narB
    simpa only [List.append_assoc] using h
  clear HX hk hA2 HA1
  go_wp2_with fail
  exact bodyPost_end (v := .tuple #[]) (by simp [results, Try.results27, go_sem]) rfl ⟨rfl, unhide HZ⟩
/-- What Encode answers. -/
noncomputable def encS (T : Tr) : List UInt8 := if (chk T 1 0).1 = 0 then narB T else []
def EncA (B : Nat) (T : Tr) (e : Ending) (w' : World) : Prop := ∃ a c, e = .returned (.tuple #[.slice a (encS T).length c, .int .i64 (((chk T 1 0).1 : Nat) : Int)]) ∧ Row B w'.heap.size w' (.slice a (encS T).length c) (encS T).length (bv (encS T))
set_option maxRecDepth 20000 in
set_option maxHeartbeats 2000000 in
theorem encode_any (T : Tr) (lo hi : Nat) (cs : List Value) (w : World) (hL : Lies lo hi w T cs) (hW : wt T ≤ 3000) (hhi : hi ≤ w.heap.size) :
    Calls Try.prog 11 #[.agg cs.toArray] w fun e w' => Below w.heap.size w w' ∧ EncA w.heap.size T e w' := by
  obtain ⟨kt, xt, at0, nt, ct, bt, mt, dt, et, pt, qt, rfl⟩ := hL.form
  have HC1 := hide (fun W (h : Below w.heap.size w W) => check_any T lo hi _ W (hL.kept h hhi) (by omega) (by have := h.size; omega))
  have HL := hide hL
  obtain ⟨wA, hwA⟩ : ∃ wA, wA = w.alloc (.cells #[.int .i64 kt, .bool xt, .slice at0 nt ct, .slice bt mt dt, .slice et pt qt] 26) := ⟨_, rfl⟩
  have hbA : Below w.heap.size w wA := by rw [hwA]; exact (Below.refl _ _).alloc (Nat.le_refl _) _
  have hsA : wA.heap.size = w.heap.size + 1 := by rw [hwA]; simp
  have hbx : Bx wA w.heap.size (.int .i64 kt) (.bool xt) (.slice at0 nt ct) (.slice bt mt dt) (.slice et pt qt) := by rw [hwA]; exact bx_new _ _ _ _ _ _
  have HA := hide (And.intro hbA (And.intro hsA hbx))
  have HwA := hide hwA
  have HF : Hid (encS T = if (chk T 1 0).1 = 0 then narB T else []) := rfl
  clear hL hwA hbA hsA hbx
  go_enter Try.func11, Try.ntmps11
  go_wp2_with fail
  rw [← unhide HwA]
  refine (unhide HC1 wA (unhide HA).1).mono ?_
  rintro e w1 ⟨rfl, hb1⟩
  have hs1 := hb1.size
  have HA1 := hide (And.intro ((unhide HA).1.trans (hb1.mono (by have := (unhide HA).2.1; omega))) ((unhide HA).2.2.kept hb1 (by have := (unhide HA).2.1; omega)))
  have hs0 := (unhide HA).2.1
  clear HC1 HwA hb1 HA
  by_cases hc1 : (chk T 1 0).1 = 0
  case neg =>
    have hn1 := ne0 hc1
    rw [if_neg hc1] at HF
    have HZ : Hid (EncA w.heap.size T (.returned (.tuple #[.slice none 0 0, .int .i64 (((chk T 1 0).1 : Nat) : Int)])) w1) := by
      refine ⟨none, 0, ?_, ?_⟩
      · rw [unhide HF]; rfl
      · rw [unhide HF]; exact ⟨none, 0, rfl, Nat.le_refl _, fun h => absurd h (Nat.lt_irrefl _)⟩
    clear hc1
    generalize (chk T 1 0).1 = c1 at *
    go_wp2_with fail
    refine bodyPost_ret (v := .tuple #[.slice none 0 0, .int .i64 (c1 : Int)]) (by simp [results, Try.results11, go_sem]) rfl ⟨(unhide HA1).1, unhide HZ⟩
  case pos =>
  have HN := hide (chk_nice T hc1)
  rw [if_pos hc1] at HF
  have Hc := hide hc1
  rw [hc1]
  clear hc1
  obtain ⟨y0, y1, y2, y3, y4⟩ := (unhide HA1).2.cells
  have hlt1 : w.heap.size < w1.heap.size := by omega
  obtain ⟨wB, hwB⟩ : ∃ wB, wB = w1.alloc (.cells #[.slice none 0 0] 22) := ⟨_, rfl⟩
  have hbB : Below w1.heap.size w1 wB := by rw [hwB]; exact (Below.refl _ _).alloc (Nat.le_refl _) _
  have hsB : wB.heap.size = w1.heap.size + 1 := by rw [hwB]; simp
  have hcB : wB.heap[w1.heap.size]? = some (.cells #[.slice none 0 0] 22) := by
    rw [hwB]
    show (w1.heap.push _)[w1.heap.size]? = _
    rw [Array.getElem?_push, if_pos rfl]
  have hHas : Has w1.heap.size wB (.slice none 0 0) [] := ⟨⟨by rw [cell_of_row _ _ _ _ _ _ hcB]; rfl, by unfold World.frozen?; rw [hcB]; simp⟩, by simpa [bv] using World.ownsRow_nil _ _ _ _⟩
  have HG := hide (writeTree_any w1.heap.size T lo hi _ wB (.slice none 0 0) [] ((unhide HL).kept ((unhide HA1).1.trans (hbB.mono (by omega))) hhi) (by omega) hHas (unhide HN) hW (by simp))
  have HwB := hide hwB
  have HbB := hide ((unhide HA1).1.trans (hbB.mono (by omega)))
  clear hwB hcB hHas hbB
  go_wp2_with fail
  rw [← unhide HwB]
  refine (unhide HG).mono ?_
  rintro e w2 ⟨rfl, v2, hg2, hH2⟩
  rw [List.nil_append] at hH2
  obtain ⟨a2, c2, rfl⟩ := hH2.slice
  have hcc := hH2.ctr.cell
  have hs2 := hg2.size
  have HB2 : Hid (Below w.heap.size w w2) := (unhide HbB).trans ⟨hg2.os, hg2.tape, hg2.output, hg2.size, fun k hk => hg2.keep k (by omega) (by omega) (fun e => by simp [Value.ownBlock] at e)⟩
  have HZ : Hid (EncA w.heap.size T (.returned (.tuple #[.slice a2 (narB T).length c2, .int .i64 0])) w2) := by
    refine ⟨a2, c2, ?_, ?_⟩
    · rw [unhide HF, unhide Hc]; rfl
    · rw [unhide HF]
      exact (owns_row hH2.row (owns_lt hH2.row)).mono (by omega) (Nat.le_refl _)
  clear HG hg2 hH2 y0 y1 y2 y3 y4
  generalize (narB T).length = NB at *
  go_wp2_with fail
  refine bodyPost_ret (v := .tuple #[.slice a2 NB c2, .int .i64 0]) (by simp [results, Try.results11, go_sem]) rfl ⟨unhide HB2, unhide HZ⟩
end Go.Proofs.Ytikamklgelcnhaa
/- Reading what was written. Mathematics alone. -/
namespace Go.Proofs.Ytikamklgelcnhaa
open Go.RowKit
set_option linter.unusedSimpArgs false
def Suf (B l : List UInt8) : Prop := ∃ p, B = p ++ l
theorem Suf.tl {B a l : List UInt8} (h : Suf B (a ++ l)) : Suf B l := by obtain ⟨p, rfl⟩ := h; exact ⟨p ++ a, by simp⟩
theorem Suf.len {B l : List UInt8} (h : Suf B l) : l.length ≤ B.length := by obtain ⟨p, rfl⟩ := h; simp
/-- So much is left to read. -/
def okS (B l : List UInt8) (m : Nat) : RS := .ok (B.length - l.length, m)
theorem Suf.drop {B l : List UInt8} (h : Suf B l) : B.drop (B.length - l.length) = l := by
  obtain ⟨p, rfl⟩ := h
  rw [List.length_append, Nat.add_sub_cancel]
  exact List.drop_left' rfl
theorem rdT_tx (s rest : List UInt8) (h : s.length ≤ 2097152) : rdT (tx s ++ rest) = .ok s.length := by
  have h8 : (tx s ++ rest).take 8 = lenB 8 s.length := by
    unfold tx
    rw [List.append_assoc, List.append_assoc]
    exact List.take_left' (lenB_length 8 _)
  have hn : s.length = leN ((tx s ++ rest).take 8) := by
    rw [h8, leN_lenB 8 _ (by have : (256 : Nat) ^ 8 = 18446744073709551616 := by decide
                             omega)]
  refine rdT_ok (by rw [List.length_append, tx_len]; omega) hn h (by rw [List.length_append, tx_len]; omega) ?_
  have e : (tx s ++ rest).drop (8 + s.length) = List.replicate (padN s.length) 0 ++ rest := by
    unfold tx
    rw [List.append_assoc]
    exact List.drop_left' (by rw [List.length_append, lenB_length])
  rw [e, List.take_left' (by simp)]
  simp
theorem lenB_leN (l : List UInt8) : lenB l.length (leN l) = l := by
  induction l with
  | nil => rfl
  | cons x r ih =>
    rw [List.length_cons, lenB, leN]
    have hx := x.toNat_lt
    have e1 : (x.toNat + 256 * leN r) / 256 = leN r := by omega
    rw [e1, ih]
    congr 1
    apply UInt8.toNat_inj.1
    rw [UInt8.toNat_ofNat']
    omega
theorem rdT_inv {l : List UInt8} {n : Nat} (h : rdT l = .ok n) : n ≤ 2097152 ∧ l = tx ((l.drop 8).take n) ++ l.drop (8 + n + padN n) := by
  have hle := rdT_le h
  unfold rdT at h
  split at h
  · cases h
  rename_i h8
  split at h
  · cases h
  rename_i hb
  split at h
  · cases h
  split at h
  · rename_i hz
    injection h with h
    rw [h] at hz hb
    refine ⟨by omega, ?_⟩
    have e1 : ((l.drop 8).take n).length = n := by rw [List.length_take, List.length_drop]; omega
    unfold tx
    rw [e1]
    have e2 : lenB 8 n = l.take 8 := by
      have := lenB_leN (l.take 8)
      rwa [show (l.take 8).length = 8 by rw [List.length_take]; omega, h] at this
    have e3 : (l.drop (8 + n)).take (padN n) = List.replicate (padN n) 0 := by
      rw [List.eq_replicate_iff]
      refine ⟨by rw [List.length_take, List.length_drop]; omega, fun b hb => ?_⟩
      have := List.all_eq_true.1 hz b hb
      simpa using this
    rw [e2, ← e3, List.append_assoc, List.append_assoc]
    conv => lhs; rw [← List.take_append_drop 8 l]
    congr 1
    conv => lhs; rw [← List.take_append_drop n (l.drop 8)]
    congr 1
    rw [List.drop_drop]
    conv => lhs; rw [← List.take_append_drop (padN n) (l.drop (8 + n))]
    rw [List.drop_drop]
  · cases h
theorem bA (s : ByteArray) : (⟨(sB s).toArray⟩ : ByteArray) = s := by unfold sB; simp
theorem txt_w {B s l : List UInt8} {m : Nat} (hs : Suf B (tx s ++ l)) (h : s.length ≤ 2097152) : txtS B (okS B (tx s ++ l) m) = (okS B l m, ⟨s.toArray⟩) := by
  have e : B.length - (tx s ++ l).length + 8 + s.length + padN s.length = B.length - l.length := by
    have := hs.len
    rw [List.length_append, tx_len] at this
    rw [List.length_append, tx_len]; omega
  have e2 : (B.drop (B.length - (tx s ++ l).length + 8)).take s.length = s := by
    rw [← List.drop_drop, hs.drop]
    unfold tx
    rw [List.append_assoc, List.append_assoc, List.drop_left' (lenB_length 8 _), List.take_left' rfl]
  unfold okS
  simp only [txtS]
  rw [hs.drop, rdT_tx s l h]
  simp only
  rw [e, e2]
theorem want_w {B l : List UInt8} {m : Nat} {s : ByteArray} (hs : Suf B (tx (sB s) ++ l)) (h : s.size ≤ 2097152) : wantS B (okS B (tx (sB s) ++ l) m) s = okS B l m := by
  unfold wantS
  rw [txt_w hs h, bA]
  exact if_pos rfl
theorem wants_w {B : List UInt8} (ts : List ByteArray) : ∀ {l : List UInt8} {m : Nat}, Suf B (txs (ts.map sB) ++ l) → (∀ s ∈ ts, s.size ≤ 2097152) → wantsS B (okS B (txs (ts.map sB) ++ l) m) ts = okS B l m := by
  induction ts with
  | nil => intro l m _ _; rfl
  | cons s ts ih =>
    intro l m hs h
    rw [List.map_cons, txs, List.append_assoc] at hs ⊢
    show wantsS B (wantS B _ s) ts = _
    rw [want_w hs (h s (by simp))]
    exact ih hs.tl (fun s hs => h s (by simp [hs]))
theorem either_w1 {B l : List UInt8} {m : Nat} {f s : ByteArray} (hs : Suf B (tx (sB f) ++ l)) (h : f.size ≤ 2097152) : eitherS B (okS B (tx (sB f) ++ l) m) f s = (okS B l m, true) := by
  unfold eitherS
  rw [txt_w hs h, bA]
  exact if_pos rfl
theorem either_w2 {B l : List UInt8} {m : Nat} {f s : ByteArray} (hs : Suf B (tx (sB s) ++ l)) (h : s.size ≤ 2097152) (hne : s ≠ f) : eitherS B (okS B (tx (sB s) ++ l) m) f s = (okS B l m, false) := by
  unfold eitherS
  rw [want_w hs h, txt_w hs h, bA]
  exact if_neg hne
theorem kind_w {B l : List UInt8} {m deep : Nat} {W : ByteArray} (hb : ¬ (65536 < m + 1 ∨ 64 < deep)) (hs : Suf B (txs [wOpen, wType] ++ (tx (sB W) ++ l))) (h : W.size ≤ 2097152) : kindS B deep (okS B (txs [wOpen, wType] ++ (tx (sB W) ++ l)) m) = (okS B l (m + 1), W) := by
  unfold kindS
  have e : beginS deep (okS B (txs [wOpen, wType] ++ (tx (sB W) ++ l)) m) = okS B (txs ([bOpen, bType].map sB) ++ (tx (sB W) ++ l)) (m + 1) := by
    unfold okS
    simp only [beginS]
    rw [if_neg hb]
    rfl
  rw [e, wants_w [bOpen, bType] hs (by decide), txt_w hs.tl h, bA]
theorem bCE : bCont ≠ bExec := by decide
theorem file_w {B l : List UInt8} {m : Nat} (x : Bool) (d : ByteArray) (hd : d.size ≤ 2097152) (hs : Suf B ((if x then txs [wExec, []] else []) ++ (tx wCont ++ (tx (sB d) ++ (txs [wClose] ++ l))))) :
    fileS B (okS B ((if x then txs [wExec, []] else []) ++ (tx wCont ++ (tx (sB d) ++ (txs [wClose] ++ l)))) m) = (okS B l m, x, d) := by
  cases x with
  | false =>
    simp only [Bool.false_eq_true, if_false, List.nil_append] at hs ⊢
    have e1 : eitherS B (okS B (tx wCont ++ (tx (sB d) ++ (txs [wClose] ++ l))) m) bExec bCont = (okS B (tx (sB d) ++ (txs [wClose] ++ l)) m, false) := either_w2 (s := bCont) hs (by decide) bCE
    have e2 : fileS1 B (okS B (tx wCont ++ (tx (sB d) ++ (txs [wClose] ++ l))) m) = okS B (tx (sB d) ++ (txs [wClose] ++ l)) m := by unfold fileS1; rw [e1]; rfl
    unfold fileS
    rw [e2, e1, txt_w hs.tl hd, bA]
    simp only
    rw [show wantsS B (okS B (txs [wClose] ++ l) m) [bClose] = okS B l m from wants_w [bClose] hs.tl.tl (by decide)]
  | true =>
    simp only [if_true, txs, List.append_assoc, List.nil_append] at hs ⊢
    have e1 : eitherS B (okS B (tx wExec ++ (tx [] ++ (tx wCont ++ (tx (sB d) ++ (tx wClose ++ l))))) m) bExec bCont = (okS B (tx [] ++ (tx wCont ++ (tx (sB d) ++ (tx wClose ++ l)))) m, true) := either_w1 (f := bExec) hs (by decide)
    have e2 : fileS1 B (okS B (tx wExec ++ (tx [] ++ (tx wCont ++ (tx (sB d) ++ (tx wClose ++ l))))) m) = okS B (tx (sB d) ++ (tx wClose ++ l)) m := by
      unfold fileS1; rw [e1]
      have := wants_w (B := B) (m := m) [⟨#[]⟩, bCont] (l := tx (sB d) ++ (tx wClose ++ l)) (by
        show Suf B (txs [[], wCont] ++ _)
        simp only [txs, List.append_assoc, List.nil_append]; exact hs.tl) (by decide)
      simp only [List.map_cons, List.map_nil, txs, List.append_assoc, List.nil_append] at this
      exact this
    unfold fileS
    rw [e2, e1, txt_w hs.tl.tl.tl hd, bA]
    simp only
    have := wants_w (B := B) (m := m) [bClose] (l := l) (by
        show Suf B (txs [wClose] ++ _)
        simp only [txs, List.append_assoc, List.nil_append]; exact hs.tl.tl.tl.tl) (by decide)
    simp only [List.map_cons, List.map_nil, txs, List.append_assoc, List.nil_append] at this
    rw [show wantsS B (okS B (tx wClose ++ l) m) [bClose] = okS B l m from this]
theorem link_w {B l : List UInt8} {m : Nat} (d : ByteArray) (hd : d.size ≤ 2097152) (hs : Suf B (txs [wTarg] ++ (tx (sB d) ++ (txs [wClose] ++ l)))) :
    linkS B (okS B (txs [wTarg] ++ (tx (sB d) ++ (txs [wClose] ++ l))) m) = (okS B l m, d) := by
  unfold linkS
  rw [show wantsS B (okS B (txs [wTarg] ++ (tx (sB d) ++ (txs [wClose] ++ l))) m) [bTarg] = okS B (tx (sB d) ++ (txs [wClose] ++ l)) m from wants_w [bTarg] hs (by decide), txt_w hs.tl hd, bA]
  simp only
  rw [show wantsS B (okS B (txs [wClose] ++ l) m) [bClose] = okS B l m from wants_w [bClose] hs.tl.tl (by decide)]
theorem entsB_len (ns : List ByteArray) : ∀ ks : List Tr, ns.length = ks.length → ks.length ≤ (entsB ns ks).length := by
  induction ns with
  | nil => intro ks h; simp at h; simp [← h]
  | cons s ns ih =>
    intro ks h
    cases ks with
    | nil => simp
    | cons t ks =>
      have := ih ks (by simpa using h)
      rw [entsB]
      simp only [txs, List.length_append, List.length_cons, tx_len]
      omega
theorem ent_w {B l : List UInt8} {m : Nat} (s : ByteArray) (h : s.size ≤ 2097152) (hs : Suf B (txs [wOpen, wName] ++ (tx (sB s) ++ (txs [wNode] ++ l)))) : entS B (okS B (txs [wOpen, wName] ++ (tx (sB s) ++ (txs [wNode] ++ l))) m) = (okS B l m, s) := by
  unfold entS
  rw [show wantsS B (okS B (txs [wOpen, wName] ++ (tx (sB s) ++ (txs [wNode] ++ l))) m) [bOpen, bName] = okS B (tx (sB s) ++ (txs [wNode] ++ l)) m from wants_w [bOpen, bName] hs (by decide), txt_w hs.tl h, bA]
  simp only
  rw [show wantsS B (okS B (txs [wNode] ++ l) m) [bNode] = okS B l m from wants_w [bNode] hs.tl.tl (by decide)]
theorem dir_w (B : List UInt8) (N : RS → RS × Tr) (deep : Nat) (ks : List Tr) : ∀ (ns : List ByteArray) (k m : Nat) (ns0 : List ByteArray) (ks0 : List Tr) (l : List UInt8), ns.length = ks.length → (∀ s ∈ ns, s.size ≤ 2097152) → ks.length + 1 ≤ k → (chks ks deep m).1 = 0 →
    (∀ t ∈ ks, ∀ m l, (chk t deep m).1 = 0 → Suf B (nodeB t ++ l) → N (okS B (nodeB t ++ l) m) = (okS B l (chk t deep m).2, t)) → Suf B (entsB ns ks ++ (txs [wClose] ++ l)) →
    dirS B N k (okS B (entsB ns ks ++ (txs [wClose] ++ l)) m) ns0 ks0 = (okS B l (chks ks deep m).2, ns0 ++ ns, ks0 ++ ks) := by
  induction ks with
  | nil =>
    intro ns k m ns0 ks0 l hl _ hk hc _ hs
    obtain rfl : ns = [] := List.eq_nil_of_length_eq_zero (by simpa using hl)
    obtain ⟨k, rfl⟩ : ∃ k', k = k' + 1 := ⟨k - 1, by simp at hk; omega⟩
    rw [entsB, List.nil_append] at hs ⊢
    simp only [txs, List.append_nil] at hs ⊢
    have e : eitherS B (okS B (tx wClose ++ l) m) bEntry bClose = (okS B l m, false) := either_w2 (s := bClose) hs (by decide) (by decide)
    rw [dirS, e]
    simp [chks]
    all_goals intro a b c; simp
  | cons t ks ih =>
    intro ns k m ns0 ks0 l hl hn hk hc hN hs
    obtain ⟨s, ns, rfl⟩ : ∃ s ns', ns = s :: ns' := by
      cases ns with
      | nil => simp at hl
      | cons s ns => exact ⟨s, ns, rfl⟩
    obtain ⟨k, rfl⟩ : ∃ k', k = k' + 1 := ⟨k - 1, by simp at hk; omega⟩
    rw [chks] at hc ⊢
    by_cases h0 : (chk t deep m).1 = 0
    · rw [if_pos h0] at hc ⊢
      have eq : entsB (s :: ns) (t :: ks) ++ (txs [wClose] ++ l) = tx (sB bEntry) ++ (txs [wOpen, wName] ++ (tx (sB s) ++ (txs [wNode] ++ (nodeB t ++ (txs [wClose] ++ (entsB ns ks ++ (txs [wClose] ++ l))))))) := by
        rw [entsB]
        simp only [txs, List.append_assoc, List.nil_append, List.append_nil]
        rfl
      rw [eq] at hs ⊢
      have e1 := either_w1 (m := m) (s := bClose) hs (by decide)
      have e2 := ent_w (m := m) s (hn s (by simp)) hs.tl
      have e3 := hN t (by simp) m _ h0 hs.tl.tl.tl.tl
      have e4 : wantsS B (okS B (txs [wClose] ++ (entsB ns ks ++ (txs [wClose] ++ l))) (chk t deep m).2) [bClose] = okS B (entsB ns ks ++ (txs [wClose] ++ l)) (chk t deep m).2 := wants_w [bClose] hs.tl.tl.tl.tl.tl (by decide)
      rw [dirS, e1]
      simp only [if_true]
      rw [e2]
      simp only
      rw [e3]
      simp only
      rw [e4, ih ns k _ _ _ l (by simpa using hl) (fun s hs => hn s (by simp [hs])) (by simp at hk; omega) hc (fun t ht => hN t (by simp [ht])) hs.tl.tl.tl.tl.tl.tl]
      simp
    · rw [if_neg h0] at hc; exact absurd hc h0
theorem node_w (B : List UInt8) (T : Tr) : ∀ (f deep m : Nat) (l : List UInt8), 65 ≤ f + deep → (chk T deep m).1 = 0 → Suf B (nodeB T ++ l) → nodeS B f deep (okS B (nodeB T ++ l) m) = (okS B l (chk T deep m).2, T) := by
  induction T using Tr.ind with
  | h k x d ns ks ih =>
  intro f deep m l hf hc hs
  rw [chk] at hc ⊢
  by_cases hb : 65536 < m + 1 ∨ 64 < deep
  · rw [if_pos hb] at hc; exact absurd hc (by simp)
  rw [if_neg hb] at hc ⊢
  by_cases hl : locErr k x d.size ns ks.length = 0
  rotate_left
  · rw [if_neg hl] at hc; exact absurd hc hl
  rw [if_pos hl] at hc ⊢
  obtain ⟨f, rfl⟩ : ∃ f', f = f' + 1 := ⟨f - 1, by omega⟩
  have nil0 : ∀ {l : List ByteArray}, ¬ 0 < l.length → l = [] := fun h => List.eq_nil_of_length_eq_zero (by omega)
  have nil1 : ∀ {l : List Tr}, ¬ 0 < l.length → l = [] := fun h => List.eq_nil_of_length_eq_zero (by omega)
  unfold locErr at hl
  by_cases k1 : k = 1
  · subst k1
    rw [if_pos rfl] at hl
    by_cases h1 : 0 < ns.length ∨ 0 < ks.length
    · rw [if_pos h1] at hl; omega
    rw [if_neg h1] at hl
    by_cases h2 : 1048576 < d.size
    · rw [if_pos h2] at hl; omega
    obtain rfl := nil0 (fun h => h1 (.inl h))
    obtain rfl := nil1 (fun h => h1 (.inr h))
    have eq : nodeB (.mk 1 x d [] []) ++ l = txs [wOpen, wType] ++ (tx (sB bReg) ++ ((if x then txs [wExec, []] else []) ++ (tx wCont ++ (tx (sB d) ++ (txs [wClose] ++ l))))) := by
      rw [nodeB, if_pos rfl]
      simp only [txs, List.append_assoc, List.append_nil]
      rfl
    rw [eq] at hs ⊢
    rw [nodeS, kind_w hb hs (by decide)]
    simp only [if_true]
    rw [file_w x d (by omega) hs.tl.tl]
    simp [chks]
  rw [if_neg k1] at hl
  by_cases k3 : k = 3
  · subst k3
    rw [if_pos rfl] at hl
    by_cases h1 : 0 < ns.length ∨ 0 < ks.length ∨ x = true
    · rw [if_pos h1] at hl; omega
    rw [if_neg h1] at hl
    by_cases h2 : 1000 < d.size
    · rw [if_pos h2] at hl; omega
    obtain rfl := nil0 (fun h => h1 (.inl h))
    obtain rfl := nil1 (fun h => h1 (.inr (.inl h)))
    obtain rfl : x = false := by
      cases x
      · rfl
      · exact absurd (.inr (.inr rfl)) h1
    have eq : nodeB (.mk 3 false d [] []) ++ l = txs [wOpen, wType] ++ (tx (sB bSym) ++ (txs [wTarg] ++ (tx (sB d) ++ (txs [wClose] ++ l)))) := by
      rw [nodeB, if_neg (by decide), if_pos rfl]
      simp only [txs, List.append_assoc, List.append_nil]
      rfl
    rw [eq] at hs ⊢
    rw [nodeS, kind_w hb hs (by decide)]
    simp only [if_true]
    rw [if_neg (by decide), link_w d (by omega) hs.tl.tl]
    simp [chks]
  rw [if_neg k3] at hl
  by_cases k2 : k = 2
  · subst k2
    rw [if_pos rfl] at hl
    by_cases h1 : x = true ∨ 0 < d.size ∨ ns.length ≠ ks.length
    · rw [if_pos h1] at hl; omega
    rw [if_neg h1] at hl
    by_cases h2 : okNames ns
    rotate_left
    · rw [if_neg h2] at hl; omega
    obtain rfl : x = false := by
      cases x
      · rfl
      · exact absurd (.inl rfl) h1
    obtain rfl : d = ⟨#[]⟩ := by
      have h3 : ¬ 0 < d.size := fun h => h1 (.inr (.inl h))
      have e1 : d.data.toList = [] := List.eq_nil_of_length_eq_zero (by show d.size = 0; omega)
      exact ByteArray.ext (Array.ext' e1)
    have hlen : ns.length = ks.length := by
      by_cases h : ns.length = ks.length
      · exact h
      · exact absurd (.inr (.inr h)) h1
    have hsz : ∀ s ∈ ns, s.size ≤ 2097152 := by
      intro s hs
      obtain ⟨i, hi, he⟩ := List.getElem_of_mem hs
      have := h2 i hi
      unfold okName at this
      rw [List.getElem?_eq_getElem hi, he] at this
      simp [entB] at this
      omega
    have eq : nodeB (.mk 2 false ⟨#[]⟩ ns ks) ++ l = txs [wOpen, wType] ++ (tx (sB bDir) ++ (entsB ns ks ++ (txs [wClose] ++ l))) := by
      rw [nodeB, if_neg (by decide), if_neg (by decide), if_pos rfl]
      simp only [txs, List.append_assoc, List.append_nil]
      rfl
    rw [eq] at hs ⊢
    have hfu : ks.length + 1 ≤ B.length + 1 := by
      have h5 := hs.tl.tl.len
      have h6 := entsB_len ns ks hlen
      rw [List.length_append] at h5
      omega
    rw [nodeS, kind_w hb hs (by decide)]
    simp only [if_true]
    rw [if_neg (by decide), if_neg (by decide), dir_w B (nodeS B f (deep + 1)) (deep + 1) ks ns (B.length + 1) (m + 1) [] [] l hlen hsz hfu hc (fun t ht m l h1 h2 => ih t ht f (deep + 1) m l (by omega) h1 h2) hs.tl.tl]
    simp
  rw [if_neg k2] at hl
  omega
/-- What was written is read, whatever stands behind. -/
theorem tree_w (T : Tr) (l : List UInt8) (hc : (chk T 1 0).1 = 0) : treeS (narB T ++ l) (.ok (0, 0)) = (.ok ((narB T).length, (chk T 1 0).2), T) := by
  have eq : narB T ++ l = txs [wMagic] ++ (nodeB T ++ l) := by unfold narB; rw [List.append_assoc]
  have hs : Suf (narB T ++ l) (txs [wMagic] ++ (nodeB T ++ l)) := ⟨[], by rw [eq]; rfl⟩
  have e0 : (.ok (0, 0) : RS) = okS (narB T ++ l) (txs [wMagic] ++ (nodeB T ++ l)) 0 := by
    unfold okS; rw [eq, Nat.sub_self]
  unfold treeS
  rw [e0, show wantsS (narB T ++ l) (okS (narB T ++ l) (txs [wMagic] ++ (nodeB T ++ l)) 0) [bMagic] = okS (narB T ++ l) (nodeB T ++ l) 0 from wants_w [bMagic] hs (by decide), node_w (narB T ++ l) T 65 1 0 l (by omega) hc hs.tl]
  unfold okS
  rw [List.length_append, Nat.add_sub_cancel]
end Go.Proofs.Ytikamklgelcnhaa
/- What was read is what is written so. Mathematics alone. -/
namespace Go.Proofs.Ytikamklgelcnhaa
open Go.RowKit
set_option linter.unusedSimpArgs false
theorem Le.ok {σ : RS} {p m : Nat} (h : Le σ (.ok (p, m))) : ∃ p' m', σ = .ok (p', m') := by
  match σ, h with
  | .error E, h => cases h
  | .ok (p', m'), _ => exact ⟨p', m', rfl⟩
theorem txt_inv {B : List UInt8} {σ : RS} {p' m' : Nat} (h : (txtS B σ).1 = .ok (p', m')) : ∃ p, σ = .ok (p, m') ∧ p + 8 ≤ p' ∧ p' ≤ B.length ∧ (txtS B σ).2.size ≤ 2097152 ∧ B.drop p = tx (sB (txtS B σ).2) ++ B.drop p' := by
  match σ, h with
  | .error E, h => cases h
  | .ok (p, m), h =>
    cases hr : rdT (B.drop p) with
    | error E => simp only [txtS, hr] at h; cases h
    | ok n =>
      simp only [txtS, hr] at h ⊢
      injection h with h
      injection h with h1 h2
      obtain ⟨h3, h4⟩ := rdT_inv hr
      have h5 := rdT_le hr
      rw [List.length_drop] at h5
      refine ⟨p, by rw [h2], by omega, by omega, ?_, ?_⟩
      · show ((B.drop (p + 8)).take n).toArray.size ≤ _
        simp; omega
      · rw [List.drop_drop, List.drop_drop] at h4
        rw [show p' = p + (8 + n + padN n) by omega]
        exact h4
theorem failS_ok {k : Int} {σ : RS} {p m : Nat} (h : failS k σ = .ok (p, m)) : False := by
  match σ, h with
  | .error E, h => cases h
  | .ok _, h => cases h
theorem want_inv {B : List UInt8} {σ : RS} {s : ByteArray} {p' m' : Nat} (h : wantS B σ s = .ok (p', m')) : ∃ p, σ = .ok (p, m') ∧ p + 8 ≤ p' ∧ p' ≤ B.length ∧ B.drop p = tx (sB s) ++ B.drop p' := by
  unfold wantS at h
  by_cases hc : (txtS B σ).2 = s
  · rw [if_pos hc] at h
    obtain ⟨p, h1, h2, h3, h4, h5⟩ := txt_inv h
    rw [hc] at h5
    exact ⟨p, h1, h2, h3, h5⟩
  · rw [if_neg hc] at h; exact absurd h (fun h => failS_ok h)
theorem wants_inv {B : List UInt8} (ts : List ByteArray) : ∀ {σ : RS} {p' m' : Nat}, wantsS B σ ts = .ok (p', m') → p' ≤ B.length → ∃ p, σ = .ok (p, m') ∧ p ≤ p' ∧ p ≤ B.length ∧ B.drop p = txs (ts.map sB) ++ B.drop p' := by
  induction ts with
  | nil => intro σ p' m' h hp; exact ⟨p', h, Nat.le_refl _, hp, rfl⟩
  | cons s ts ih =>
    intro σ p' m' h hp
    obtain ⟨p, h1, h2, h3, h4⟩ := ih (σ := wantS B σ s) h hp
    obtain ⟨q, g1, g2, g3, g4⟩ := want_inv h1
    refine ⟨q, g1, by omega, by omega, ?_⟩
    rw [g4, h4, List.map_cons, txs, List.append_assoc]
theorem either_inv {B : List UInt8} {σ : RS} {f s : ByteArray} {p' m' : Nat} (h : (eitherS B σ f s).1 = .ok (p', m')) : ∃ p, σ = .ok (p, m') ∧ p + 8 ≤ p' ∧ p' ≤ B.length ∧ B.drop p = tx (sB (if (eitherS B σ f s).2 then f else s)) ++ B.drop p' := by
  unfold eitherS at h ⊢
  by_cases hc : (txtS B σ).2 = f
  · rw [if_pos hc] at h ⊢
    obtain ⟨p, h1, h2, h3, h4, h5⟩ := txt_inv h
    rw [hc] at h5
    exact ⟨p, h1, h2, h3, h5⟩
  · rw [if_neg hc] at h ⊢
    obtain ⟨p, h1, h2, h3, h4⟩ := want_inv h
    exact ⟨p, h1, h2, h3, h4⟩
theorem file_inv {B : List UInt8} {σ : RS} {p' m' : Nat} (h : (fileS B σ).1 = .ok (p', m')) (hp : p' ≤ B.length) : ∃ p, σ = .ok (p, m') ∧ p + 8 ≤ p' ∧ B.drop p = (if (fileS B σ).2.1 then txs [wExec, []] else []) ++ (tx wCont ++ (tx (sB (fileS B σ).2.2) ++ (txs [wClose] ++ B.drop p'))) := by
  unfold fileS at h ⊢
  simp only at h ⊢
  obtain ⟨p1, h1, h2, h3, h4⟩ := wants_inv [bClose] h hp
  obtain ⟨p2, g1, g2, g3, g4, g5⟩ := txt_inv h1
  rw [h4] at g5
  unfold fileS1 at g1
  by_cases hx : (eitherS B σ bExec bCont).2 = true
  · rw [if_pos hx] at g1
    obtain ⟨p3, k1, k2, k3, k4⟩ := wants_inv [⟨#[]⟩, bCont] g1 (by omega)
    obtain ⟨p, q1, q2, q3, q4⟩ := either_inv k1
    refine ⟨p, q1, by omega, ?_⟩
    rw [q4, hx, k4, g5]
    simp only [if_true, List.map_cons, List.map_nil, txs, List.append_assoc, List.append_nil]
    rfl
  · rw [if_neg hx] at g1
    obtain ⟨p, q1, q2, q3, q4⟩ := either_inv g1
    refine ⟨p, q1, by omega, ?_⟩
    rw [q4, if_neg hx, if_neg hx, g5]
    rfl
theorem link_inv {B : List UInt8} {σ : RS} {p' m' : Nat} (h : (linkS B σ).1 = .ok (p', m')) (hp : p' ≤ B.length) : ∃ p, σ = .ok (p, m') ∧ p + 8 ≤ p' ∧ B.drop p = txs [wTarg] ++ (tx (sB (linkS B σ).2) ++ (txs [wClose] ++ B.drop p')) := by
  unfold linkS at h ⊢
  simp only at h ⊢
  obtain ⟨p1, h1, h2, h3, h4⟩ := wants_inv [bClose] h hp
  obtain ⟨p2, g1, g2, g3, g4, g5⟩ := txt_inv h1
  obtain ⟨p, k1, k2, k3, k4⟩ := wants_inv [bTarg] g1 (by omega)
  refine ⟨p, k1, by omega, ?_⟩
  rw [k4, g5, h4]
  rfl
theorem ent_inv {B : List UInt8} {σ : RS} {p' m' : Nat} (h : (entS B σ).1 = .ok (p', m')) (hp : p' ≤ B.length) : ∃ p, σ = .ok (p, m') ∧ p + 8 ≤ p' ∧ B.drop p = txs [wOpen, wName] ++ (tx (sB (entS B σ).2) ++ (txs [wNode] ++ B.drop p')) := by
  unfold entS at h ⊢
  simp only at h ⊢
  obtain ⟨p1, h1, h2, h3, h4⟩ := wants_inv [bNode] h hp
  obtain ⟨p2, g1, g2, g3, g4, g5⟩ := txt_inv h1
  obtain ⟨p, k1, k2, k3, k4⟩ := wants_inv [bOpen, bName] g1 (by omega)
  refine ⟨p, k1, by omega, ?_⟩
  rw [k4, g5, h4]
  rfl
theorem kind_inv {B : List UInt8} {deep : Nat} {σ : RS} {p' m' : Nat} (h : (kindS B deep σ).1 = .ok (p', m')) : ∃ p m, σ = .ok (p, m) ∧ p + 8 ≤ p' ∧ p' ≤ B.length ∧ B.drop p = txs [wOpen, wType] ++ (tx (sB (kindS B deep σ).2) ++ B.drop p') := by
  unfold kindS at h ⊢
  obtain ⟨p1, h1, h2, h3, h4, h5⟩ := txt_inv h
  obtain ⟨p, k1, k2, k3, k4⟩ := wants_inv [bOpen, bType] h1 (by omega)
  match σ, k1 with
  | .error E, k1 => cases k1
  | .ok (p0, m0), k1 =>
    simp only [beginS] at k1
    split at k1
    · cases k1
    · injection k1 with k1
      injection k1 with k1 _
      subst k1
      refine ⟨p0, m0, rfl, by omega, h3, ?_⟩
      rw [k4, h5]
      rfl
/-- What a reader of nodes must give: where it ended, and what stood there. -/
def NInv (B : List UInt8) (N : RS → RS × Tr) : Prop := ∀ σ p' m', (N σ).1 = .ok (p', m') → p' ≤ B.length → ∃ p m, σ = .ok (p, m) ∧ p ≤ p' ∧ B.drop p = nodeB (N σ).2 ++ B.drop p' ∧ 8 * wt (N σ).2 ≤ (nodeB (N σ).2).length
theorem wts_snoc (ks : List Tr) (t : Tr) : wts (ks ++ [t]) = wts ks + wt t := by
  induction ks with
  | nil => simp [wts]
  | cons a r ih => rw [List.cons_append, wts, wts, ih]; omega
theorem drop_inj {B X : List UInt8} {a b : Nat} (_ : a ≤ B.length) (hb : b ≤ B.length) (h : B.drop a = X ++ B.drop b) : X.length = b - a ∧ (a ≤ b ∨ X = []) := by
  have := congrArg List.length h
  rw [List.length_drop, List.length_append, List.length_drop] at this
  refine ⟨by omega, ?_⟩
  by_cases h : a ≤ b
  · exact .inl h
  · exact .inr (List.eq_nil_of_length_eq_zero (by omega))
theorem dir_inv (B : List UInt8) (N : RS → RS × Tr) (hN : NInv B N) (hle : ∀ σ, Le σ (N σ).1) (k : Nat) : ∀ (σ : RS) (ns0 : List ByteArray) (ks0 : List Tr) (p' m' : Nat), (∀ p m, σ = .ok (p, m) → B.length + 1 ≤ k + p ∧ p ≤ B.length) → ns0.length = ks0.length → (dirS B N k σ ns0 ks0).1 = .ok (p', m') → p' ≤ B.length →
    ∃ p m ns ks, σ = .ok (p, m) ∧ p ≤ p' ∧ (dirS B N k σ ns0 ks0).2 = (ns0 ++ ns, ks0 ++ ks) ∧ ns.length = ks.length ∧ B.drop p = entsB ns ks ++ (txs [wClose] ++ B.drop p') ∧ 8 * (ns.length + tenths ns + wts ks) ≤ (entsB ns ks).length := by
  induction k with
  | zero =>
    intro σ ns0 ks0 p' m' hf hl h hp
    rw [dirS] at h
    obtain ⟨h1, h2⟩ := hf p' m' h
    omega
  | succ k ih =>
    intro σ ns0 ks0 p' m' hf hl h hp
    rw [dirS] at h ⊢
    by_cases hE : (eitherS B σ bEntry bClose).2 = true
    · rw [if_pos hE] at h ⊢
      obtain ⟨p0, m0, rfl, hq, hq'⟩ := next_ok (N := N) hle hE
      unfold nextS at hq'
      obtain ⟨p1, m1, ns, ks, h1, h2, h3, h4, h5, h6⟩ := ih _ (ns0 ++ [_]) (ks0 ++ [_]) p' m' (fun p m he => by
        obtain ⟨a1, a2, a3, a4⟩ := wants_inv [bClose] he (by
          have g := (wantsS_le B [bClose] (N (entS B (eitherS B (.ok (p0, m0)) bEntry bClose).1).1).1)
          unfold wantsS at he
          simp only [List.foldl] at he
          obtain ⟨q, _, _, g, _⟩ := want_inv he
          exact g)
        unfold wantsS at he
        simp only [List.foldl] at he
        obtain ⟨q, _, _, g, _⟩ := want_inv he
        have := hq' p m he
        have := (hf p0 m0 rfl).1
        exact ⟨by omega, g⟩) (by simp [hl]) h hp
      obtain ⟨q1, g1, g2, g3, g4⟩ := wants_inv [bClose] h1 (by omega)
      obtain ⟨q2, m2, k1, k2, k3, k4⟩ := hN _ _ _ g1 (by omega)
      obtain ⟨q3, e1, e2, e3⟩ := ent_inv k1 (by omega)
      obtain ⟨q4, f1, f2, f3, f4⟩ := either_inv e1
      rw [hE] at f4
      simp only [if_true] at f4
      refine ⟨q4, _, (entS B (eitherS B (.ok (p0, m0)) bEntry bClose).1).2 :: ns, (N (entS B (eitherS B (.ok (p0, m0)) bEntry bClose).1).1).2 :: ks, f1, by omega, ?_, by simp [h4], ?_, ?_⟩
      · rw [h3]
        simp
      · rw [f4, e3, k3, g4, h5, entsB]
        simp only [List.map_cons, List.map_nil, txs, List.append_assoc, List.append_nil, List.nil_append]
        rfl
      · rw [entsB, tenths, wts]
        simp only [List.length_append, List.length_cons, txs, List.length_nil, tx_len]
        have := k4
        have hsB : (sB (entS B (eitherS B (.ok (p0, m0)) bEntry bClose).1).2).length = (entS B (eitherS B (.ok (p0, m0)) bEntry bClose).1).2.size := rfl
        omega
    · rw [if_neg hE] at h ⊢
      obtain ⟨p, h1, h2, h3, h4⟩ := either_inv h
      rw [if_neg hE] at h4
      refine ⟨p, m', [], [], h1, by omega, by simp, rfl, ?_, by simp [tenths, wts]⟩
      rw [h4, entsB]
      · simp only [txs, List.append_assoc, List.append_nil, List.nil_append]
        rfl
      · intro a b c; simp
theorem node_inv (B : List UInt8) (f : Nat) : ∀ deep, 66 ≤ f + deep → deep ≤ 65 → NInv B (nodeS B f deep) := by
  induction f with
  | zero => intro deep h1 h2; omega
  | succ f ih =>
    intro deep hd1 hd2
    intro σ p' m' h hp
    rw [nodeS] at h ⊢
    by_cases h1 : (kindS B deep σ).2 = bReg
    · rw [if_pos h1] at h ⊢
      simp only at h ⊢
      obtain ⟨p1, g1, g2, g3⟩ := file_inv h hp
      obtain ⟨p, m, e1, e2, e3, e4⟩ := kind_inv g1
      refine ⟨p, m, e1, by omega, ?_, ?_⟩
      · rw [e4, g3, nodeB, if_pos rfl, h1]
        simp only [txs, List.append_assoc, List.append_nil, List.nil_append]
        rfl
      · rw [nodeB, if_pos rfl, wt]
        simp only [List.length_append, txs, List.length_nil, tx_len, tenths, wts]
        have hsB : (sB (fileS B (kindS B deep σ).1).2.2).length = (fileS B (kindS B deep σ).1).2.2.size := rfl
        omega
    rw [if_neg h1] at h ⊢
    by_cases h2 : (kindS B deep σ).2 = bSym
    · rw [if_pos h2] at h ⊢
      simp only at h ⊢
      obtain ⟨p1, g1, g2, g3⟩ := link_inv h hp
      obtain ⟨p, m, e1, e2, e3, e4⟩ := kind_inv g1
      refine ⟨p, m, e1, by omega, ?_, ?_⟩
      · rw [e4, g3, nodeB, if_neg (by decide), if_pos rfl, h2]
        simp only [txs, List.append_assoc, List.append_nil, List.nil_append]
        rfl
      · rw [nodeB, if_neg (by decide), if_pos rfl, wt]
        simp only [List.length_append, txs, List.length_nil, tx_len, tenths, wts]
        have hsB : (sB (linkS B (kindS B deep σ).1).2).length = (linkS B (kindS B deep σ).1).2.size := rfl
        omega
    rw [if_neg h2] at h ⊢
    by_cases h3 : (kindS B deep σ).2 = bDir
    · rw [if_pos h3] at h ⊢
      simp only at h ⊢
      obtain ⟨hdeep, _⟩ := kind_ok h3 (by decide)
      have hN0 : NInv B (nodeS B f (deep + 1)) := ih (deep + 1) (by omega) (by omega)
      obtain ⟨p1, m1, ns, ks, g1, g2, g3, g4, g5, g6⟩ := dir_inv B _ hN0 (nodeS_le B f (deep + 1)) (B.length + 1) _ [] [] p' m' (fun p m he => by
        obtain ⟨_, _, _, _, q, _⟩ := kind_inv he
        exact ⟨by omega, q⟩) rfl h hp
      obtain ⟨p, m, e1, e2, e3, e4⟩ := kind_inv g1
      refine ⟨p, m, e1, by omega, ?_, ?_⟩
      · rw [g3, e4, g5, nodeB, if_neg (by decide), if_neg (by decide), if_pos rfl, h3]
        simp only [txs, List.append_assoc, List.append_nil, List.nil_append]
        rfl
      · rw [g3, nodeB, if_neg (by decide), if_neg (by decide), if_pos rfl, wt]
        simp only [List.length_append, txs, List.length_nil, tx_len, List.nil_append]
        have hz : (⟨#[]⟩ : ByteArray).size = 0 := rfl
        omega
    · rw [if_neg h3] at h
      exact absurd h (fun h => failS_ok h)
/-- What is read lies within. -/
def In (B : List UInt8) (σ : RS) : Prop := ∀ p m, σ = .ok (p, m) → p ≤ B.length
theorem txt_in (B : List UInt8) (σ : RS) : In B (txtS B σ).1 := fun p m h => by obtain ⟨_, _, _, h, _⟩ := txt_inv h; exact h
theorem want_in (B : List UInt8) (σ : RS) (s : ByteArray) : In B (wantS B σ s) := fun p m h => by obtain ⟨_, _, _, h, _⟩ := want_inv h; exact h
theorem wants1_in (B : List UInt8) (σ : RS) (s : ByteArray) : In B (wantsS B σ [s]) := want_in B σ s
theorem either_in (B : List UInt8) (σ : RS) (f s : ByteArray) : In B (eitherS B σ f s).1 := fun p m h => by obtain ⟨_, _, _, h, _⟩ := either_inv h; exact h
theorem dir_in (B : List UInt8) (N : RS → RS × Tr) (k : Nat) : ∀ σ ns ks, In B σ → In B (dirS B N k σ ns ks).1 := by
  induction k with
  | zero => intro σ ns ks h; rw [dirS]; exact h
  | succ k ih =>
    intro σ ns ks h
    rw [dirS]
    split
    · exact ih _ _ _ (wants1_in B _ _)
    · exact either_in B σ _ _
theorem node_in (B : List UInt8) (f deep : Nat) (σ : RS) (h : In B σ) : In B (nodeS B f deep σ).1 := by
  cases f with
  | zero => rw [nodeS]; exact h
  | succ f =>
    rw [nodeS]
    split
    · exact wants1_in B _ _
    · split
      · exact wants1_in B _ _
      · split
        · exact dir_in B _ _ _ _ _ (txt_in B _)
        · exact fun p m h => absurd h (fun h => failS_ok h)
theorem treeS_bound {B : List UInt8} {p' m' : Nat} (h : (treeS B (.ok (0, 0))).1 = .ok (p', m')) : p' ≤ B.length := node_in B 65 1 _ (wants1_in B _ _) p' m' h
theorem tree_inv {B : List UInt8} {p' m' : Nat} (h : (treeS B (.ok (0, 0))).1 = .ok (p', m')) : p' ≤ B.length ∧ B = narB (treeS B (.ok (0, 0))).2 ++ B.drop p' ∧ p' = (narB (treeS B (.ok (0, 0))).2).length ∧ 8 * wt (treeS B (.ok (0, 0))).2 ≤ B.length := by
  have hp : p' ≤ B.length := treeS_bound h
  unfold treeS at h ⊢
  obtain ⟨p, m, h1, h2, h3, h4⟩ := node_inv B 65 1 (by omega) (by omega) _ p' m' h hp
  obtain ⟨q, g1, g2, g3, g4⟩ := wants_inv [bMagic] h1 (by omega)
  injection g1 with g1
  injection g1 with g1 _
  subst g1
  rw [List.drop_zero] at g4
  have e : B = narB (nodeS B 65 1 (wantsS B (.ok (0, 0)) [bMagic])).2 ++ B.drop p' := by
    unfold narB
    rw [List.append_assoc, ← h3]
    exact g4
  have hl := congrArg List.length e
  rw [List.length_append, List.length_drop] at hl
  refine ⟨hp, e, by omega, ?_⟩
  unfold narB at hl
  rw [List.length_append] at hl
  omega
end Go.Proofs.Ytikamklgelcnhaa
/- Bytes that end too early. Mathematics alone. -/
namespace Go.Proofs.Ytikamklgelcnhaa
open Go.RowKit
set_option linter.unusedSimpArgs false
/-- Where all is read of the whole, of what is cut off the same is read, or it is too short. -/
def Cutp {α : Type} (_B C : List UInt8) (F : RS → RS × α) (G : RS → RS × α) : Prop := ∀ σ p' m', In C σ → (F σ).1 = .ok (p', m') → (G σ = F σ ∧ p' ≤ C.length) ∨ (G σ).1 = .error 2
theorem rdT_cutp {l : List UInt8} {n k : Nat} (h : rdT l = .ok n) : (rdT (l.take k) = .ok n ∧ 8 + n + padN n ≤ k) ∨ rdT (l.take k) = .error 2 := by
  have hle := rdT_le h
  obtain ⟨hb, he⟩ := rdT_inv h
  by_cases hk : 8 + n + padN n ≤ k
  · left
    refine ⟨?_, hk⟩
    have hl : ((l.drop 8).take n).length = n := by rw [List.length_take, List.length_drop]; omega
    have h1 : l.take k = tx ((l.drop 8).take n) ++ (l.drop (8 + n + padN n)).take (k - (8 + n + padN n)) := by
      conv => lhs; rw [he]
      rw [List.take_append, tx_len, hl, List.take_of_length_le (by rw [tx_len, hl]; exact hk)]
    rw [h1, rdT_tx _ _ (by rw [hl]; exact hb), hl]
  · right
    by_cases h8 : k < 8
    · exact rdT_short (by rw [List.length_take]; omega)
    · have hn : n = leN ((l.take k).take 8) := by
        rw [List.take_take, Nat.min_eq_left (by omega)]
        unfold rdT at h
        split at h
        · cases h
        · split at h
          · cases h
          · split at h
            · cases h
            · split at h
              · injection h with h; exact h.symm
              · cases h
      exact rdT_cut (by rw [List.length_take]; omega) hn hb (by rw [List.length_take]; omega)
theorem txt_cut (B : List UInt8) (k : Nat) : Cutp B (B.take k) (txtS B) (txtS (B.take k)) := by
  intro σ p' m' hin h
  obtain ⟨p, rfl, h1, h2, _, _⟩ := txt_inv h
  have hp := hin p m' rfl
  cases hr : rdT (B.drop p) with
  | error E => simp only [txtS, hr] at h; cases h
  | ok n =>
    simp only [txtS, hr] at h ⊢
    injection h with h
    injection h with e1 _
    have hle := rdT_le hr
    rw [List.length_drop] at hle
    have hd : (B.take k).drop p = (B.drop p).take (k - p) := List.drop_take
    rw [List.length_take] at hp
    rcases rdT_cutp (k := k - p) hr with ⟨g, gk⟩ | g
    · left
      rw [hd, g]
      simp only
      have hd8 : (B.take k).drop (p + 8) = (B.drop (p + 8)).take (k - (p + 8)) := List.drop_take
      rw [hd8, List.take_take, Nat.min_eq_left (by omega)]
      exact ⟨rfl, by rw [List.length_take]; omega⟩
    · right
      rw [hd, g]
theorem want_cut (B : List UInt8) (k : Nat) (s : ByteArray) : ∀ σ p' m', In (B.take k) σ → wantS B σ s = .ok (p', m') → (wantS (B.take k) σ s = wantS B σ s ∧ p' ≤ (B.take k).length) ∨ wantS (B.take k) σ s = .error 2 := by
  intro σ p' m' hin h
  unfold wantS at h ⊢
  by_cases hc : (txtS B σ).2 = s
  · rw [if_pos hc] at h ⊢
    rcases txt_cut B k σ p' m' hin h with ⟨g, gk⟩ | g
    · rw [g, if_pos hc]; exact .inl ⟨rfl, gk⟩
    · right
      rw [g]
      split
      · rfl
      · rfl
  · rw [if_neg hc] at h; exact absurd h (fun h => failS_ok h)
theorem Le.err {E : Int} {τ : RS} (h : Le (.error E) τ) : τ = .error E := h
theorem wants_cut (B : List UInt8) (k : Nat) (ts : List ByteArray) : ∀ σ p' m', In (B.take k) σ → wantsS B σ ts = .ok (p', m') → (wantsS (B.take k) σ ts = wantsS B σ ts ∧ p' ≤ (B.take k).length) ∨ wantsS (B.take k) σ ts = .error 2 := by
  induction ts with
  | nil =>
    intro σ p' m' hin h
    exact .inl ⟨rfl, hin p' m' h⟩
  | cons s ts ih =>
    intro σ p' m' hin h
    have hl := wantsS_le B ts (wantS B σ s)
    have h' : wantsS B (wantS B σ s) ts = .ok (p', m') := h
    rw [h'] at hl
    obtain ⟨p1, m1, h1⟩ := hl.ok
    rcases want_cut B k s σ p1 m1 hin h1 with ⟨g, gk⟩ | g
    · have : wantsS (B.take k) σ (s :: ts) = wantsS (B.take k) (wantS B σ s) ts := by show wantsS (B.take k) (wantS (B.take k) σ s) ts = _; rw [g]
      rw [this]
      exact ih _ p' m' (fun p m he => by rw [h1] at he; injection he with he; injection he with he _; omega) h'
    · right
      show wantsS (B.take k) (wantS (B.take k) σ s) ts = _
      rw [g]
      exact (wantsS_le (B.take k) ts (.error 2)).err
theorem either_cut (B : List UInt8) (k : Nat) (f s : ByteArray) (hf : f ≠ ⟨#[]⟩) : ∀ σ p' m', In (B.take k) σ → (eitherS B σ f s).1 = .ok (p', m') → (eitherS (B.take k) σ f s = eitherS B σ f s ∧ p' ≤ (B.take k).length) ∨ ((eitherS (B.take k) σ f s).1 = .error 2 ∧ (eitherS (B.take k) σ f s).2 = false) := by
  intro σ p' m' hin h
  have hno : ∀ E : Int, (txtS (B.take k) σ).1 = .error E → (txtS (B.take k) σ).2 ≠ f := by
    intro E he hc
    obtain ⟨_, _, _, _, _, h3⟩ := txtS_err hc hf
    rw [he] at h3; cases h3
  unfold eitherS at h ⊢
  by_cases hc : (txtS B σ).2 = f
  · rw [if_pos hc] at h ⊢
    rcases txt_cut B k σ p' m' hin h with ⟨g, gk⟩ | g
    · rw [g, if_pos hc]; exact .inl ⟨rfl, gk⟩
    · right
      rw [if_neg (hno _ g)]
      refine ⟨?_, rfl⟩
      simp only
      unfold wantS
      rw [g]
      split <;> rfl
  · rw [if_neg hc] at h ⊢
    simp only at h ⊢
    rcases want_cut B k s σ p' m' hin h with ⟨g, gk⟩ | g
    · have hl := txtS_le B σ
      have hok : ∃ p1 m1, (txtS B σ).1 = .ok (p1, m1) := by
        unfold wantS at h
        split at h
        · exact ⟨p', m', h⟩
        · exact absurd h (fun h => failS_ok h)
      obtain ⟨p1, m1, h1⟩ := hok
      rcases txt_cut B k σ p1 m1 hin h1 with ⟨q, qk⟩ | q
      · left
        rw [q, if_neg hc, g]
        exact ⟨rfl, gk⟩
      · right
        rw [if_neg (hno _ q)]
        refine ⟨?_, rfl⟩
        simp only
        unfold wantS
        rw [q]
        split <;> rfl
    · right
      have : (txtS (B.take k) σ).2 ≠ f := by
        intro hc2
        obtain ⟨q1, q2, q3, q4, q5, q6⟩ := txtS_err hc2 hf
        have hok : ∃ p1 m1, (txtS B σ).1 = .ok (p1, m1) := by
          unfold wantS at h
          split at h
          · exact ⟨p', m', h⟩
          · exact absurd h (fun h => failS_ok h)
        obtain ⟨p1, m1, h1⟩ := hok
        rcases txt_cut B k σ p1 m1 hin h1 with ⟨q, qk⟩ | q
        · rw [q] at hc2; exact hc hc2
        · rw [q] at q6; cases q6
      rw [if_neg this]
      exact ⟨g, rfl⟩
theorem in_ok {C : List UInt8} {p m : Nat} (h : p ≤ C.length) : In C (.ok (p, m)) := fun p' m' he => by injection he with he; injection he with he _; omega
theorem file_cut (B : List UInt8) (k : Nat) : Cutp B (B.take k) (fileS B) (fileS (B.take k)) := by
  intro σ p' m' hin h
  unfold fileS at h
  simp only at h
  obtain ⟨p1, h1, h2, h3, h4⟩ := wants_inv [bClose] h (by exact (wants1_in B _ _) p' m' h)
  obtain ⟨p2, g1, g2, g3, g4, g5⟩ := txt_inv h1
  have hE : ∃ p3 m3, (eitherS B σ bExec bCont).1 = .ok (p3, m3) := by
    unfold fileS1 at g1
    split at g1
    · have := wantsS_le B [⟨#[]⟩, bCont] (eitherS B σ bExec bCont).1
      rw [g1] at this
      exact this.ok
    · exact ⟨_, _, g1⟩
  obtain ⟨p3, m3, hE⟩ := hE
  have stay : ∀ τ, (fileS1 (B.take k) σ) = .error 2 → (fileS (B.take k) σ).1 = .error 2 ∨ τ = (0 : Nat) := by
    intro τ he
    left
    have h1 := (txtS_le (B.take k) (fileS1 (B.take k) σ)).trans (wantsS_le (B.take k) [bClose] _)
    rw [he] at h1
    unfold fileS
    simp only
    rw [he]
    exact h1.err
  rcases either_cut B k bExec bCont (by decide) σ p3 m3 hin hE with ⟨a, ak⟩ | ⟨a, a2⟩
  · have hF : (fileS1 (B.take k) σ = fileS1 B σ ∧ p2 ≤ (B.take k).length) ∨ fileS1 (B.take k) σ = .error 2 := by
      unfold fileS1 at g1 ⊢
      rw [a]
      by_cases hx : (eitherS B σ bExec bCont).2 = true
      · rw [if_pos hx] at g1 ⊢
        rw [if_pos hx]
        exact wants_cut B k _ _ p2 m' (by rw [hE]; exact in_ok ak) g1
      · rw [if_neg hx] at g1 ⊢
        rw [if_neg hx]
        rw [hE] at g1
        injection g1 with g1
        injection g1 with g1 _
        exact .inl ⟨rfl, by omega⟩
    rcases hF with ⟨b, bk⟩ | b
    · rcases txt_cut B k (fileS1 B σ) p1 m' (by rw [g1]; exact in_ok bk) h1 with ⟨c, ck⟩ | c
      · rcases wants_cut B k [bClose] _ p' m' (by rw [h1]; exact in_ok ck) h with ⟨d, dk⟩ | d
        · left
          refine ⟨?_, dk⟩
          unfold fileS
          rw [b, c, d, a]
        · right
          unfold fileS
          simp only
          rw [b, c, d]
      · right
        unfold fileS
        simp only
        rw [b, c]
        exact (wantsS_le (B.take k) [bClose] (.error 2)).err
    · right
      rcases stay 1 b with h | h
      · exact h
      · cases h
  · right
    have b : fileS1 (B.take k) σ = .error 2 := by unfold fileS1; rw [a2, if_neg (by decide), a]
    rcases stay 1 b with h | h
    · exact h
    · cases h
theorem link_cut (B : List UInt8) (k : Nat) : Cutp B (B.take k) (linkS B) (linkS (B.take k)) := by
  intro σ p' m' hin h
  unfold linkS at h ⊢
  simp only at h ⊢
  obtain ⟨p1, h1, h2, h3, h4⟩ := wants_inv [bClose] h ((wants1_in B _ _) p' m' h)
  obtain ⟨p2, g1, g2, g3, g4, g5⟩ := txt_inv h1
  rcases wants_cut B k [bTarg] σ p2 m' hin g1 with ⟨b, bk⟩ | b
  · rcases txt_cut B k _ p1 m' (by rw [g1]; exact in_ok bk) h1 with ⟨c, ck⟩ | c
    · rcases wants_cut B k [bClose] _ p' m' (by rw [h1]; exact in_ok ck) h with ⟨d, dk⟩ | d
      · left; rw [b, c, d]; exact ⟨rfl, dk⟩
      · right; rw [b, c, d]
    · right; rw [b, c]; exact (wantsS_le (B.take k) [bClose] (.error 2)).err
  · right
    rw [b]
    exact ((txtS_le (B.take k) (.error 2)).trans (wantsS_le (B.take k) [bClose] _)).err
theorem ent_cut (B : List UInt8) (k : Nat) : Cutp B (B.take k) (entS B) (entS (B.take k)) := by
  intro σ p' m' hin h
  unfold entS at h ⊢
  simp only at h ⊢
  obtain ⟨p1, h1, h2, h3, h4⟩ := wants_inv [bNode] h ((wants1_in B _ _) p' m' h)
  obtain ⟨p2, g1, g2, g3, g4, g5⟩ := txt_inv h1
  rcases wants_cut B k [bOpen, bName] σ p2 m' hin g1 with ⟨b, bk⟩ | b
  · rcases txt_cut B k _ p1 m' (by rw [g1]; exact in_ok bk) h1 with ⟨c, ck⟩ | c
    · rcases wants_cut B k [bNode] _ p' m' (by rw [h1]; exact in_ok ck) h with ⟨d, dk⟩ | d
      · left; rw [b, c, d]; exact ⟨rfl, dk⟩
      · right; rw [b, c, d]
    · right; rw [b, c]; exact (wantsS_le (B.take k) [bNode] (.error 2)).err
  · right
    rw [b]
    exact ((txtS_le (B.take k) (.error 2)).trans (wantsS_le (B.take k) [bNode] _)).err
theorem kind_cut (B : List UInt8) (k deep : Nat) : Cutp B (B.take k) (kindS B deep) (kindS (B.take k) deep) := by
  intro σ p' m' hin h
  unfold kindS at h ⊢
  obtain ⟨p2, g1, g2, g3, g4, g5⟩ := txt_inv h
  have hin' : In (B.take k) (beginS deep σ) := by
    intro p m he
    match σ, he with
    | .error E, he => cases he
    | .ok (p0, m0), he =>
      simp only [beginS] at he
      split at he
      · cases he
      · injection he with he
        injection he with he _
        have := hin p0 m0 rfl
        omega
  rcases wants_cut B k [bOpen, bType] _ p2 m' hin' g1 with ⟨b, bk⟩ | b
  · rw [b]
    exact txt_cut B k _ p' m' (by rw [g1]; exact in_ok bk) h
  · right
    rw [b]
    exact (txtS_le (B.take k) (.error 2)).err
theorem dirS_err (B : List UInt8) (N : RS → RS × Tr) (hle : ∀ σ, Le σ (N σ).1) (k : Nat) (E : Int) (ns : List ByteArray) (ks : List Tr) : (dirS B N k (.error E) ns ks).1 = .error E := (dirS_le B N hle k (.error E) ns ks).err
theorem dir_cut (B : List UInt8) (c : Nat) (N M : RS → RS × Tr) (hN : Cutp B (B.take c) N M) (hle : ∀ σ, Le σ (N σ).1) (hle' : ∀ σ, Le σ (M σ).1) (k' : Nat) : ∀ (k : Nat) (σ : RS) (ns : List ByteArray) (ks : List Tr) (p' m' : Nat), In (B.take c) σ → (∀ p m, σ = .ok (p, m) → B.length + 1 ≤ k + p ∧ p ≤ B.length ∧ (B.take c).length + 1 ≤ k' + p) → (dirS B N k σ ns ks).1 = .ok (p', m') →
    (dirS (B.take c) M k' σ ns ks = dirS B N k σ ns ks ∧ p' ≤ (B.take c).length) ∨ (dirS (B.take c) M k' σ ns ks).1 = .error 2 := by
  induction k' with
  | zero =>
    intro k σ ns ks p' m' hin hf h
    have hl := dirS_le B N hle k σ ns ks
    rw [h] at hl
    obtain ⟨p, m, rfl⟩ := hl.ok
    have h1 := (hf p m rfl).2.2
    have h2 := hin p m rfl
    omega
  | succ k' ih =>
    intro k σ ns ks p' m' hin hf h
    have hl := dirS_le B N hle k σ ns ks
    rw [h] at hl
    obtain ⟨p, m, rfl⟩ := hl.ok
    obtain ⟨f1, f2, f3⟩ := hf p m rfl
    obtain ⟨k, rfl⟩ : ∃ j, k = j + 1 := ⟨k - 1, by omega⟩
    rw [dirS] at h
    rw [dirS, dirS]
    have hE : ∃ p3 m3, (eitherS B (.ok (p, m)) bEntry bClose).1 = .ok (p3, m3) := by
      split at h
      · have h1 := (((entS_le B (eitherS B (.ok (p, m)) bEntry bClose).1).trans (hle _)).trans (wantsS_le B [bClose] _)).trans (dirS_le B N hle k _ (ns ++ [(entS B (eitherS B (.ok (p, m)) bEntry bClose).1).2]) (ks ++ [(N (entS B (eitherS B (.ok (p, m)) bEntry bClose).1).1).2]))
        rw [h] at h1
        exact h1.ok
      · exact ⟨_, _, h⟩
    obtain ⟨p3, m3, hE⟩ := hE
    rcases either_cut B c bEntry bClose (by decide) _ p3 m3 hin hE with ⟨a, ak⟩ | ⟨a, a2⟩
    · rw [a]
      by_cases hx : (eitherS B (.ok (p, m)) bEntry bClose).2 = true
      · rw [if_pos hx] at h
        rw [if_pos hx, if_pos hx]
        obtain ⟨_, _, e0, hq, hq'⟩ := next_ok (N := N) hle hx
        injection e0 with e0
        injection e0 with e0 e0'
        subst e0
        subst e0'
        unfold nextS at hq'
        have l4 := dirS_le B N hle k (wantsS B (N (entS B (eitherS B (.ok (p, m)) bEntry bClose).1).1).1 [bClose]) (ns ++ [(entS B (eitherS B (.ok (p, m)) bEntry bClose).1).2]) (ks ++ [(N (entS B (eitherS B (.ok (p, m)) bEntry bClose).1).1).2])
        rw [h] at l4
        obtain ⟨p4, m4, e4⟩ := l4.ok
        have l5 := wantsS_le B [bClose] (N (entS B (eitherS B (.ok (p, m)) bEntry bClose).1).1).1
        rw [e4] at l5
        obtain ⟨p5, m5, e5⟩ := l5.ok
        have l6 := hle (entS B (eitherS B (.ok (p, m)) bEntry bClose).1).1
        rw [e5] at l6
        obtain ⟨p6, m6, e6⟩ := l6.ok
        rcases ent_cut B c _ p6 m6 (by rw [hE]; exact in_ok ak) e6 with ⟨b, bk⟩ | b
        · rw [b]
          rcases hN _ p5 m5 (by rw [e6]; exact in_ok bk) e5 with ⟨d, dk⟩ | d
          · rw [d]
            rcases wants_cut B c [bClose] _ p4 m4 (by rw [e5]; exact in_ok dk) e4 with ⟨f, fk⟩ | f
            · rw [f]
              refine ih k _ _ _ p' m' (by rw [e4]; exact in_ok fk) (fun p0 m0 he => ?_) h
              have g1 := hq' p0 m0 he
              have g2 := wants1_in B _ _ p0 m0 he
              exact ⟨by omega, g2, by omega⟩
            · right
              rw [f]
              exact dirS_err _ _ hle' _ _ _ _
          · right
            have := (wantsS_le (B.take c) [bClose] (M (entS B (eitherS B (.ok (p, m)) bEntry bClose).1).1).1)
            rw [d] at this ⊢
            rw [this.err]
            exact dirS_err _ _ hle' _ _ _ _
        · right
          have := (hle' (entS (B.take c) (eitherS B (.ok (p, m)) bEntry bClose).1).1).trans (wantsS_le (B.take c) [bClose] _)
          rw [b] at this ⊢
          rw [this.err]
          exact dirS_err _ _ hle' _ _ _ _
      · rw [if_neg hx] at h
        rw [if_neg hx, if_neg hx]
        rw [hE] at h
        injection h with h
        injection h with h _
        exact .inl ⟨rfl, by omega⟩
    · right
      rw [a2, if_neg (by decide)]
      exact a
theorem node_cut (B : List UInt8) (c f : Nat) : ∀ deep, Cutp B (B.take c) (nodeS B f deep) (nodeS (B.take c) f deep) := by
  induction f with
  | zero =>
    intro deep σ p' m' hin h
    rw [nodeS] at h
    exact .inl ⟨rfl, hin p' m' h⟩
  | succ f ih =>
    intro deep σ p' m' hin h
    have hK : ∃ p3 m3, (kindS B deep σ).1 = .ok (p3, m3) := by
      rw [nodeS] at h
      split at h
      · have := fileS_le B (kindS B deep σ).1
        rw [h] at this; exact this.ok
      · split at h
        · have := linkS_le B (kindS B deep σ).1
          rw [h] at this; exact this.ok
        · split at h
          · have := dirS_le B (nodeS B f (deep + 1)) (nodeS_le B f (deep + 1)) (B.length + 1) (kindS B deep σ).1 [] []
            rw [h] at this; exact this.ok
          · exact absurd h (fun h => failS_ok h)
    obtain ⟨p3, m3, hK⟩ := hK
    obtain ⟨_, _, _, _, hp3, _⟩ := kind_inv hK
    rcases kind_cut B c deep σ p3 m3 hin hK with ⟨a, ak⟩ | a
    · rw [nodeS] at h ⊢
      rw [nodeS, a]
      by_cases h1 : (kindS B deep σ).2 = bReg
      · rw [if_pos h1] at h ⊢
        rw [if_pos h1]
        rcases file_cut B c _ p' m' (by rw [hK]; exact in_ok ak) h with ⟨b, bk⟩ | b
        · left; rw [b]; exact ⟨rfl, bk⟩
        · exact .inr b
      rw [if_neg h1] at h ⊢
      rw [if_neg h1]
      by_cases h2 : (kindS B deep σ).2 = bSym
      · rw [if_pos h2] at h ⊢
        rw [if_pos h2]
        rcases link_cut B c _ p' m' (by rw [hK]; exact in_ok ak) h with ⟨b, bk⟩ | b
        · left; rw [b]; exact ⟨rfl, bk⟩
        · exact .inr b
      rw [if_neg h2] at h ⊢
      rw [if_neg h2]
      by_cases h3 : (kindS B deep σ).2 = bDir
      · rw [if_pos h3] at h ⊢
        rw [if_pos h3]
        rcases dir_cut B c _ _ (ih (deep + 1)) (nodeS_le B f (deep + 1)) (nodeS_le (B.take c) f (deep + 1)) ((B.take c).length + 1) (B.length + 1) _ [] [] p' m' (by rw [hK]; exact in_ok ak) (fun p m he => by rw [hK] at he; injection he with he; injection he with he _; exact ⟨by omega, by omega, by omega⟩) h with ⟨b, bk⟩ | b
        · left; rw [b]; exact ⟨rfl, bk⟩
        · exact .inr b
      · rw [if_neg h3] at h
        exact absurd h (fun h => failS_ok h)
    · right
      have hno : ∀ s : ByteArray, s ≠ ⟨#[]⟩ → (kindS (B.take c) deep σ).2 ≠ s := by
        intro s hs he
        obtain ⟨_, _, _, _, _, _, _, e⟩ := kind_ok he hs
        rw [a] at e; cases e
      rw [nodeS, if_neg (hno _ (by decide)), if_neg (hno _ (by decide)), if_neg (hno _ (by decide)), a]
      rfl
theorem tree_cut_at (B : List UInt8) (T : Tr) (k f : Nat) (m : Nat) (σ : RS) (hin : In (B.take k) σ) (hk : k < B.length) (h : nodeS B f 1 (wantsS B σ [bMagic]) = (.ok (B.length, m), T)) : (nodeS (B.take k) f 1 (wantsS (B.take k) σ [bMagic])).1 = .error 2 := by
  have hl := nodeS_le B f 1 (wantsS B σ [bMagic])
  rw [h] at hl
  obtain ⟨p1, m1, h1⟩ := hl.ok
  rcases wants_cut B k [bMagic] _ p1 m1 hin h1 with ⟨a, ak⟩ | a
  · rw [a]
    rcases node_cut B k f 1 (wantsS B σ [bMagic]) B.length m (by rw [h1]; exact in_ok ak) (by rw [h]) with ⟨b, bk⟩ | b
    · rw [List.length_take] at bk; omega
    · exact b
  · rw [a]
    exact (nodeS_le _ f 1 (.error 2)).err
/-- An archive that ends too early. -/
theorem tree_cut (T : Tr) (hc : (chk T 1 0).1 = 0) (k : Nat) (hk : k < (narB T).length) : (treeS ((narB T).take k) (.ok (0, 0))).1 = .error 2 := by
  have h := tree_w T [] hc
  rw [List.append_nil] at h
  unfold treeS at h ⊢
  exact tree_cut_at (narB T) T k 65 _ _ (in_ok (Nat.zero_le _)) hk h
end Go.Proofs.Ytikamklgelcnhaa
/- The document's node, whole. -/
namespace Go.Proofs.Ytikamklgelcnhaa
open Go.RowKit
set_option linter.unusedSimpArgs false
theorem kindS_err {B : List UInt8} {deep : Nat} {σ : RS} {E : Int} (h : beginS deep σ = .error E) : kindS B deep σ = (.error E, ⟨#[]⟩) := by
  unfold kindS
  rw [h, (wantsS_le B [bOpen, bType] (.error E)).err]
  rfl
theorem qz_end {lo hi r : Nat} {B : List UInt8} {w W : World} {σ : RS} (hs : Sole r w W) (_hz : W.heap.size = w.heap.size) (hq : Qst lo hi r B W σ) : QnA lo hi r B w σ (.mk 0 false ⟨#[]⟩ [] []) (.returned (.agg #[.int .i64 0, .bool false, .slice none 0 0, .slice none 0 0, .slice none 0 0])) (W.alloc (.cells #[.int .i64 0, .bool false, .slice none 0 0, .slice none 0 0, .slice none 0 0] 26)) := by
  have hb : Below W.heap.size W (W.alloc (.cells #[.int .i64 0, .bool false, .slice none 0 0, .slice none 0 0, .slice none 0 0] 26)) := (Below.refl _ _).alloc (Nat.le_refl _) _
  exact ⟨_, rfl, hs.trans (Sole.of_below hb), hq.kept hb hq.lt hq.hi, (leaf_lies (row_none _ _ _))⟩
set_option maxRecDepth 20000 in
set_option maxHeartbeats 1000000 in
theorem qnode_err (lo hi r : Nat) (B : List UInt8) (f deep : Nat) (w : World) (E : Int) (h : Qst lo hi r B w (.error E)) :
    Calls Try.prog 62 #[.pointer (some ⟨r, 0, none⟩), .int .i64 (deep : Int)] w (QnA lo hi r B w (nodeS B (f + 1) deep (.error E)).1 (nodeS B (f + 1) deep (.error E)).2) := by
  rw [node_err (kindS_err (B := B) (deep := deep) (E := E) (σ := .error E) rfl)]
  have HE := hide (qz_end (Sole.refl r w) rfl h)
  obtain ⟨he, ⟨a, k, c, n, g⟩, _⟩ := h
  obtain ⟨h0, h1, h2⟩ := g.cells
  have hbe : (E == 0) = false := by rw [beq_eq_false_iff_ne]; exact he
  have hlt := g.lt
  clear g
  go_enter Try.func62, Try.ntmps62
  go_wp2_with fail
  refine bodyPost_ret (v := .agg #[.int .i64 0, .bool false, .slice none 0 0, .slice none 0 0, .slice none 0 0]) (by simp [results, Try.results62, go_sem]) rfl ?_
  exact unhide HE
set_option maxRecDepth 20000 in
set_option maxHeartbeats 1000000 in
theorem qnode_few (lo hi r : Nat) (B : List UInt8) (f deep : Nat) (w : World) (p m : Nat) (h : Qst lo hi r B w (.ok (p, m))) (hdeep : deep ≤ 1000) (hb : 65536 < m + 1 ∨ 64 < deep) :
    Calls Try.prog 62 #[.pointer (some ⟨r, 0, none⟩), .int .i64 (deep : Int)] w (QnA lo hi r B w (nodeS B (f + 1) deep (.ok (p, m))).1 (nodeS B (f + 1) deep (.ok (p, m))).2) := by
  rw [node_err (kindS_err (B := B) (deep := deep) (E := 5) (σ := .ok (p, m)) (by simp only [beginS]; rw [if_pos hb]))]
  obtain ⟨⟨a, c, g1, g2⟩, g3, g4, g5, g6, g7⟩ := h
  obtain ⟨M, hM⟩ : ∃ M : Int, M = (m : Int) + 1 := ⟨_, rfl⟩
  have HE : Hid (QnA lo hi r B w (.error 5) (.mk 0 false ⟨#[]⟩ [] []) (.returned (.agg #[.int .i64 0, .bool false, .slice none 0 0, .slice none 0 0, .slice none 0 0])) (((w.setCell ⟨r, 2, none⟩ (.int .i64 M)).setCell ⟨r, 1, none⟩ (.int .i64 5)).alloc (.cells #[.int .i64 0, .bool false, .slice none 0 0, .slice none 0 0, .slice none 0 0] 26))) :=
    qz_end (((Sole.refl r w).setCell 2 _).setCell 1 _) (by simp) ⟨by decide, ⟨a, _, c, _, (g1.set2 M).set1 5⟩, by simpa using g7⟩
  obtain ⟨mi, hmi⟩ : ∃ mi : Int, mi = (m : Int) := ⟨_, rfl⟩
  rw [← hmi] at g1
  obtain ⟨h0, h1, h2⟩ := g1.cells
  have f1 := g1.fr 1
  have f2 := g1.fr 2
  have hlt := g1.lt
  have hM' : wrap64 (mi + 1) = M := by rw [hmi, hM, wrap64]; omega
  by_cases hA : 65536 < M
  · clear g1 g2 g3 g4 g5 g6 g7 hb hmi hM hdeep
    go_enter Try.func62, Try.ntmps62
    go_wp2_with fail
    exact bodyPost_ret (v := .agg #[.int .i64 0, .bool false, .slice none 0 0, .slice none 0 0, .slice none 0 0]) (by simp [results, Try.results62, go_sem]) rfl (unhide HE)
  · have hD : 64 < deep := by omega
    clear g1 g2 g3 g4 g5 g6 g7 hb hmi hM hdeep
    go_enter Try.func62, Try.ntmps62
    go_wp2_with fail
    exact bodyPost_ret (v := .agg #[.int .i64 0, .bool false, .slice none 0 0, .slice none 0 0, .slice none 0 0]) (by simp [results, Try.results62, go_sem]) rfl (unhide HE)
theorem qnode_any (lo hi r : Nat) (B : List UInt8) (hB : B.length ≤ 4000000) (f : Nat) : ∀ deep, 66 ≤ f + deep → 1 ≤ f → deep ≤ 65 → ∀ (w : World) (σ : RS), Qst lo hi r B w σ →
    Calls Try.prog 62 #[.pointer (some ⟨r, 0, none⟩), .int .i64 (deep : Int)] w (QnA lo hi r B w (nodeS B f deep σ).1 (nodeS B f deep σ).2) := by
  induction f with
  | zero => intro deep _ h; omega
  | succ f ih =>
    intro deep h1 _ h3 w σ h
    match σ, h with
    | .error E, h => exact qnode_err lo hi r B f deep w E h
    | .ok (p, m), h =>
      by_cases hb : 65536 < m + 1 ∨ 64 < deep
      · exact qnode_few lo hi r B f deep w p m h (by omega) hb
      · exact qnode_step lo hi r B hB f deep (by omega) (fun w σ h hd => by have := ih (deep + 1) (by omega) (by omega) (by omega) w σ h; exact this) w p m h hb
end Go.Proofs.Ytikamklgelcnhaa
/- A tree that lies in blocks of a kind, and its data in memory of its own, one node behind the other. -/
namespace Go.Proofs.Ytikamklgelcnhaa
open Go.RowKit
set_option linter.unusedSimpArgs false
/-- A row whose block is of a kind. -/
def RowP (S : Nat → Prop) (w : World) (v : Value) (n : Nat) (xs : List Value) : Prop := ∃ b, (0 < n → S b) ∧ Row b (b + 1) w v n xs
theorem RowP.mono {S S' : Nat → Prop} {w : World} {v : Value} {n : Nat} {xs : List Value} (h : RowP S w v n xs) (hS : ∀ k, S k → S' k) : RowP S' w v n xs := by
  obtain ⟨b, h1, h2⟩ := h
  exact ⟨b, fun h => hS b (h1 h), h2⟩
theorem RowP.same {S : Nat → Prop} {w w' : World} {v : Value} {n : Nat} {xs : List Value} (h : RowP S w v n xs) (hs : ∀ k, S k → w'.heap[k]? = w.heap[k]?) : RowP S w' v n xs := by
  obtain ⟨b, h1, a, c, e, hc, hx⟩ := h
  refine ⟨b, h1, a, c, e, hc, fun h0 => ?_⟩
  obtain ⟨g, o, ea, hg1, hg2, hcell⟩ := hx h0
  obtain rfl : g = b := by omega
  exact ⟨g, o, ea, hg1, hg2, fun j u hj => by rw [World.cell?_of_block (w := w) (a := ⟨g, o + j, none⟩) (hs g (h1 h0))]; exact hcell j u hj⟩
theorem RowP.row {S : Nat → Prop} {w : World} {v : Value} {n : Nat} {xs : List Value} {lo hi : Nat} (h : RowP S w v n xs) (hS : ∀ k, S k → lo ≤ k ∧ k < hi) : Row lo hi w v n xs := by
  obtain ⟨b, h1, a, c, e, hc, hx⟩ := h
  refine ⟨a, c, e, hc, fun h0 => ?_⟩
  obtain ⟨g, o, ea, hg1, hg2, hcell⟩ := hx h0
  obtain rfl : g = b := by omega
  exact ⟨g, o, ea, (hS g (h1 h0)).1, (hS g (h1 h0)).2, hcell⟩
theorem owns_rowp {w : World} {base : Nat} {e : TypeId} {size : Nat} {v : Value} {n : Nat} {xs : List Value} {S : Nat → Prop} (h : w.ownsRow base e size v n xs) (hS : ∀ g, v.ownBlock = some g → S g) : RowP S w v n xs := by
  rcases h.2 with ⟨rfl, rfl⟩ | ⟨g, cap, cur, rfl, hg, hh, hcap, hm, hsz, ht⟩
  · exact ⟨0, fun h => absurd h (by decide), none, 0, rfl, Nat.le_refl _, fun h => absurd h (by decide)⟩
  · exact ⟨g, fun _ => hS g rfl, owns_row h (fun k hk => by simp [Value.ownBlock] at hk; omega)⟩
inductive Lyp (S : Nat → Prop) (w : World) : Tr → List Value → Prop
  | mk (k : Int) (x : Bool) (d : ByteArray) (ns : List ByteArray) (ks : List Tr) (vd vn vk : Value) (Ks : List (List Value))
      (hl : Ks.length = ks.length) (hd : RowP S w vd d.size (byteVals d)) (hn : RowP S w vn ns.length (ns.map .string)) (hk : RowP S w vk ks.length Ks.flatten)
      (hK : ∀ (i : Nat) (t : Tr) (c : List Value), ks[i]? = some t → Ks[i]? = some c → Lyp S w t c) : Lyp S w (.mk k x d ns ks) [.int .i64 k, .bool x, vd, vn, vk]
theorem Lyp.mono {S S' : Nat → Prop} {w : World} {T : Tr} {cs : List Value} (h : Lyp S w T cs) (hS : ∀ k, S k → S' k) : Lyp S' w T cs := by
  induction h with
  | mk k x d ns ks vd vn vk Ks hl hd hn hk hK ih => exact .mk k x d ns ks vd vn vk Ks hl (hd.mono hS) (hn.mono hS) (hk.mono hS) ih
theorem Lyp.same {S : Nat → Prop} {w w' : World} {T : Tr} {cs : List Value} (h : Lyp S w T cs) (hs : ∀ k, S k → w'.heap[k]? = w.heap[k]?) : Lyp S w' T cs := by
  induction h with
  | mk k x d ns ks vd vn vk Ks hl hd hn hk hK ih => exact .mk k x d ns ks vd vn vk Ks hl (hd.same hs) (hn.same hs) (hk.same hs) ih
theorem Lyp.lies {S : Nat → Prop} {w : World} {T : Tr} {cs : List Value} {lo hi : Nat} (h : Lyp S w T cs) (hS : ∀ k, S k → lo ≤ k ∧ k < hi) : Lies lo hi w T cs := by
  induction h with
  | mk k x d ns ks vd vn vk Ks hl hd hn hk hK ih => exact .mk k x d ns ks vd vn vk Ks hl (hd.row hS) (hn.row hS) (hk.row hS) ih
/-- Five cells of a block. -/
def At5 (w : World) (g o : Nat) (cs : List Value) : Prop := ∃ arr ty, w.heap[g]? = some (.cells arr ty) ∧ ∀ j u, cs[j]? = some u → arr[o + j]? = some u
theorem At5.cell {w : World} {g o : Nat} {cs : List Value} (h : At5 w g o cs) (j : Nat) (u : Value) (hj : cs[j]? = some u) : w.cell? ⟨g, o + j, none⟩ = some u := by
  obtain ⟨arr, ty, h1, h2⟩ := h
  rw [cell_of_row w g (o + j) arr ty _ h1]; exact h2 j u hj
theorem At5.fr {w : World} {g o : Nat} {cs : List Value} (h : At5 w g o cs) (j : Nat) : w.frozen? ⟨g, j, none⟩ = false := by
  obtain ⟨arr, ty, h1, h2⟩ := h
  unfold World.frozen?; rw [h1]; simp
theorem At5.lt {w : World} {g o : Nat} {cs : List Value} (h : At5 w g o cs) : g < w.heap.size := by
  obtain ⟨arr, ty, h1, h2⟩ := h
  exact (Array.getElem?_eq_some_iff.1 h1).1
theorem At5.of {w w' : World} {g o : Nat} {cs : List Value} (h : At5 w g o cs) (hs : w'.heap[g]? = w.heap[g]?) : At5 w' g o cs := by
  obtain ⟨arr, ty, h1, h2⟩ := h
  exact ⟨arr, ty, by rw [hs]; exact h1, h2⟩
theorem At5.set {w : World} {g o : Nat} {cs : List Value} (h : At5 w g o cs) (v : Value) : At5 (w.setCell ⟨g, o + 2, none⟩ v) g o (cs.set 2 v) := by
  obtain ⟨arr, ty, h1, h2⟩ := h
  refine ⟨arr.setIfInBounds (o + 2) v, ty, by simp [World.setCell, Array.getElem?_modify, h1], fun j u hj => ?_⟩
  rw [List.getElem?_set] at hj
  rw [Array.getElem?_setIfInBounds]
  by_cases e : 2 = j
  · subst e
    rw [if_pos rfl] at hj
    split at hj
    · rename_i h3
      have := h2 2 (cs[2]) (List.getElem?_eq_getElem h3)
      have h4 := (Array.getElem?_eq_some_iff.1 this).1
      rw [if_pos rfl, if_pos h4]
      exact hj
    · cases hj
  · rw [if_neg e] at hj
    rw [if_neg (by omega)]
    exact h2 j u hj
/-- The other cells of that block. -/
theorem At5.set_else {w : World} {g o o' : Nat} {cs : List Value} (h : At5 w g o cs) (v : Value) (hc : cs.length = 5) (ho : o' + 2 < o ∨ o + 5 ≤ o' + 2) : At5 (w.setCell ⟨g, o' + 2, none⟩ v) g o cs := by
  obtain ⟨arr, ty, h1, h2⟩ := h
  refine ⟨arr.setIfInBounds (o' + 2) v, ty, by simp [World.setCell, Array.getElem?_modify, h1], fun j u hj => ?_⟩
  have := (List.getElem?_eq_some_iff.1 hj).1
  rw [Array.getElem?_setIfInBounds, if_neg (by omega)]
  exact h2 j u hj
def Tr.dat : Tr → ByteArray | .mk _ _ d _ _ => d
/-- What turned. -/
structure OwF (g lo hi : Nat) (w w' : World) : Prop where
  os : w'.os = w.os
  tape : w'.tape = w.tape
  output : w'.output = w.output
  size : w.heap.size ≤ w'.heap.size
  block : ∀ k, k < w.heap.size → k ≠ g → (k < lo ∨ hi ≤ k) → w'.heap[k]? = w.heap[k]?
/-- What own leaves. -/
def OwA (g o lo hi : Nat) (T : Tr) (cs : List Value) (w : World) (e : Ending) (w' : World) : Prop :=
  e = .returned (.tuple #[]) ∧ OwF g lo hi w w' ∧ ∃ a c, w'.ownsRow w.heap.size 5 1 (.slice a T.dat.size c) T.dat.size (byteVals T.dat) ∧ w'.heap[g]? = (w.setCell ⟨g, o + 2, none⟩ (.slice a T.dat.size c)).heap[g]? ∧
    Lyp (fun k => (lo ≤ k ∧ k < hi) ∨ (w.heap.size ≤ k ∧ k < w'.heap.size)) w' T (cs.set 2 (.slice a T.dat.size c))
theorem flat_at (Ks : List (List Value)) (h5 : ∀ c ∈ Ks, c.length = 5) : ∀ (i : Nat) (c : List Value), Ks[i]? = some c → ∀ j u, c[j]? = some u → Ks.flatten[5 * i + j]? = some u := by
  induction Ks with
  | nil => intro i c h; simp at h
  | cons a r ih =>
    intro i c h j u hj
    have ha := h5 a (by simp)
    rw [List.flatten_cons]
    cases i with
    | zero =>
      simp at h
      subst h
      have := (List.getElem?_eq_some_iff.1 hj).1
      rw [List.getElem?_append_left (by omega)]
      simpa using hj
    | succ i =>
      rw [List.getElem?_append_right (by omega)]
      have := ih (fun c hc => h5 c (by simp [hc])) i c (by simpa using h) j u hj
      rw [show 5 * (i + 1) + j - a.length = 5 * i + j by omega]
      exact this
theorem flat_of (Ks : List (List Value)) (h5 : ∀ c ∈ Ks, c.length = 5) : ∀ (m : Nat) (u : Value), Ks.flatten[m]? = some u → ∃ i c j, Ks[i]? = some c ∧ c[j]? = some u ∧ m = 5 * i + j := by
  induction Ks with
  | nil => intro m u h; simp at h
  | cons a r ih =>
    intro m u h
    have ha := h5 a (by simp)
    rw [List.flatten_cons] at h
    by_cases hm : m < a.length
    · rw [List.getElem?_append_left hm] at h
      exact ⟨0, a, m, rfl, h, by omega⟩
    · rw [List.getElem?_append_right (by omega)] at h
      obtain ⟨i, c, j, h1, h2, h3⟩ := ih (fun c hc => h5 c (by simp [hc])) _ u h
      exact ⟨i + 1, c, j, by simpa using h1, h2, by omega⟩
/-- Kids, the first of which are done. -/
structure OwK (D : Value → ByteArray → Prop) (gk : Nat) (L H : Nat → Nat) (ks : List Tr) (w wr : World) (Kr : List (List Value)) (i : Nat) : Prop where
  len : Kr.length = ks.length
  five : ∀ c ∈ Kr, c.length = 5
  at5 : ∀ (j : Nat) (c : List Value), Kr[j]? = some c → At5 wr gk (5 * j) c
  done : ∀ (j : Nat) (t : Tr) (c : List Value), j < i → ks[j]? = some t → Kr[j]? = some c → Lyp (fun k => (L j ≤ k ∧ k < H j) ∨ (w.heap.size ≤ k ∧ k < wr.heap.size)) wr t c
  rest : ∀ (j : Nat) (t : Tr) (c : List Value), i ≤ j → ks[j]? = some t → Kr[j]? = some c → Rdn D wr (L j) (H j) t c
/-- One kid more. -/
theorem OwK.step {D : Value → ByteArray → Prop} {gk : Nat} {L H : Nat → Nat} {ks : List Tr} {w wr w1 : World} {Kr : List (List Value)} {i : Nat} {t : Tr} {c : List Value} {e : Ending} (h : OwK D gk L H ks w wr Kr i) (ht : ks[i]? = some t) (hc : Kr[i]? = some c) (hA : OwA gk (5 * i) (L i) (H i) t c wr e w1)
    (hz : w.heap.size ≤ wr.heap.size) (hg : gk < w.heap.size) (hH : ∀ j, j < ks.length → H j ≤ w.heap.size ∧ (gk < L j ∨ H j ≤ gk)) (hdis : ∀ i j, i < j → j < ks.length → H i ≤ L j) : ∃ Kr', OwK D gk L H ks w w1 Kr' (i + 1) := by
  obtain ⟨_, hF, a, cc, hrow, hblk, hL⟩ := hA
  have hi := (List.getElem?_eq_some_iff.1 ht).1
  have hz1 := hF.size
  have hmem := List.mem_of_getElem? hc
  have h5 := h.five c hmem
  refine ⟨Kr.set i (c.set 2 (.slice a t.dat.size cc)), by simp [h.len], ?_, ?_, ?_, ?_⟩
  · intro c' hc'
    rcases List.mem_or_eq_of_mem_set hc' with h' | rfl
    · exact h.five c' h'
    · simp [h5]
  · intro j c' hj
    rw [List.getElem?_set] at hj
    by_cases e : i = j
    · subst e
      rw [if_pos rfl] at hj
      split at hj
      · injection hj with hj
        subst hj
        exact ((h.at5 i c hc).set (.slice a t.dat.size cc)).of hblk
      · cases hj
    · rw [if_neg e] at hj
      exact ((h.at5 j c' hj).set_else (o' := 5 * i) (.slice a t.dat.size cc) (h.five c' (List.mem_of_getElem? hj)) (by omega)).of hblk
  · intro j t' c' hj ht' hc'
    have hj' := (List.getElem?_eq_some_iff.1 ht').1
    rw [List.getElem?_set] at hc'
    by_cases e : i = j
    · subst e
      rw [ht] at ht'
      injection ht' with ht'
      subst ht'
      rw [if_pos rfl] at hc'
      split at hc'
      · injection hc' with hc'
        subst hc'
        refine hL.mono (fun k hk => ?_)
        rcases hk with hk | hk
        · exact .inl hk
        · exact .inr ⟨by omega, hk.2⟩
      · cases hc'
    · rw [if_neg e] at hc'
      have hd := hdis j i (by omega) hi
      have hHj := hH j hj'
      refine ((h.done j t' c' (by omega) ht' hc').same (fun k hk => ?_)).mono (fun k hk => ?_)
      · have hHi := hH i hi
        rcases hk with hk | hk
        · refine hF.block k (by omega) (by omega) (by omega)
        · refine hF.block k hk.2 (by omega) (by omega)
      · rcases hk with hk | hk
        · exact .inl hk
        · exact .inr ⟨hk.1, by omega⟩
  · intro j t' c' hj ht' hc'
    have hj' := (List.getElem?_eq_some_iff.1 ht').1
    rw [List.getElem?_set, if_neg (by omega)] at hc'
    refine (h.rest j t' c' (by omega) ht' hc').same (fun k hk1 hk2 => ?_)
    have hd := hdis i j (by omega) hj'
    have hHj := hH j hj'
    exact hF.block k (by omega) (by omega) (by omega)
end Go.Proofs.Ytikamklgelcnhaa
