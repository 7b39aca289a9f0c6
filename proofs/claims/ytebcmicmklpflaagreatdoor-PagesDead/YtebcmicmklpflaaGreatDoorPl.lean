/- Pages: Put, Free, New, Get. -/
import Derived.Test.YtebcmicmklpflaaGreatDoorPk
import Derived.Deep.QuietTactic
namespace Go.Proofs.YtebcmicmklpflaaGreatDoor
open Go.RowKit Go.Maps
set_option linter.unusedSimpArgs false
set_option maxRecDepth 20000 in
theorem prefusal_ok {w : World} {p : Nat} {F : Fl} {S : Pgr} {O : Nat → Prop} {lv nv : Value} (h : PgM w p F S O lv nv) : Calls Tryz.prog 87 #[.pointer (some ⟨p, 0, none⟩)] w fun e w' => e = .returned (.int .i64 (if S.dead then 26 else 0)) ∧ w' = w := by
  have c776 := h.dead_at
  cases hd : S.dead with
  | false =>
    rw [hd] at c776
    clear h
    go_enter Tryz.func87, Tryz.ntmps87
    go_wp2_with fail
    go_ret
    exact ⟨rfl, rfl⟩
  | true =>
    rw [hd] at c776
    clear h
    go_enter Tryz.func87, Tryz.ntmps87
    go_wp2_with fail
    go_ret
    exact ⟨rfl, rfl⟩
/-- Is a page taken? -/
def Pgr.has (S : Pgr) (n : Int) : Bool := decide (0 ≤ n) && (S.now[n.toNat]?.getD none).isSome
set_option maxRecDepth 20000 in
set_option maxHeartbeats 1000000 in
theorem has_raw (p g m N c : Nat) (b : Bool) (w : World) (c263 : w.cell? ⟨p, 263, none⟩ = some (.slice (some ⟨g, 0, none⟩) N c)) (d0 : w.cell? ⟨g, m * 2, none⟩ = some (.bool b)) (hm : (m : Int) < (N : Int)) :
    Calls Tryz.prog 91 #[.pointer (some ⟨p, 0, none⟩), .int .i64 (m : Int)] w fun e w' => e = .returned (.bool b) ∧ w' = w := by
  have h0 : (0 : Int) ≤ (m : Int) := by omega
  have hb0 : decide ((0 : Int) ≤ (m : Int)) = true := by simp
  have hb1 : decide ((m : Int) < (N : Int)) = true := by simpa using hm
  go_enter Tryz.func91, Tryz.ntmps91
  go_wp2_with fail
  go_ret
  exact ⟨rfl, rfl⟩
set_option maxRecDepth 20000 in
set_option maxHeartbeats 1000000 in
theorem has_raw_no (p : Nat) (a : Option Addr) (N c : Nat) (n : Int) (w : World) (c263 : w.cell? ⟨p, 263, none⟩ = some (.slice a N c)) (hm : ¬ (0 ≤ n ∧ n < (N : Int))) :
    Calls Tryz.prog 91 #[.pointer (some ⟨p, 0, none⟩), .int .i64 n] w fun e w' => e = .returned (.bool false) ∧ w' = w := by
  by_cases h0 : 0 ≤ n
  · have h1 : ¬ n < (N : Int) := by omega
    have hb0 : decide ((0 : Int) ≤ n) = true := by simpa using h0
    have hb1 : decide (n < (N : Int)) = false := by simpa using h1
    go_enter Tryz.func91, Tryz.ntmps91
    go_wp2_with fail
    go_ret
    exact ⟨rfl, rfl⟩
  · have hb0 : decide ((0 : Int) ≤ n) = false := by simpa using h0
    go_enter Tryz.func91, Tryz.ntmps91
    go_wp2_with fail
    go_ret
    exact ⟨rfl, rfl⟩
theorem phas_ok {w : World} {p : Nat} {F : Fl} {S : Pgr} {O : Nat → Prop} {lv nv : Value} (h : PgM w p F S O lv nv) (n : Int) : Calls Tryz.prog 91 #[.pointer (some ⟨p, 0, none⟩), .int .i64 n] w fun e w' => e = .returned (.bool (S.has n)) ∧ w' = w := by
  have c263 := h.now_at
  obtain ⟨a, c, rfl, _, _⟩ := h.rn.shape
  have hln := h.len
  by_cases h0 : 0 ≤ n ∧ n < (S.now.length : Int)
  · obtain ⟨m, rfl⟩ : ∃ m : Nat, n = m := ⟨n.toNat, by omega⟩
    have h1 : m < S.now.length := by omega
    obtain ⟨g, c', sv, e, ho, _, d0, d1, _⟩ := h.rn.at h1
    injection e with e1 _ _
    subst e1
    have hh : S.has (m : Int) = S.now[m].isSome := by simp [Pgr.has, h1]
    rw [hh]
    exact has_raw p g m S.now.length c _ w c263 d0 (by omega)
  · have hh : S.has n = false := by
      unfold Pgr.has
      by_cases h1 : 0 ≤ n
      · have : S.now[n.toNat]? = none := List.getElem?_eq_none (by omega)
        simp [this]
      · simp [h1]
    rw [hh]
    exact has_raw_no p a S.now.length c n w c263 h0
/-- New bytes are counted as the Pager's. -/
theorem PgM.data {w w1 : World} {p : Nat} {F : Fl} {S : Pgr} {O : Nat → Prop} {lv nv : Value} (h : PgM w p F S O lv nv) (hb : Below w.heap.size w w1) {L : List (Nat × Obj)} {v : Value} {d : List UInt8} (hN : NewData w.heap.size L v d) (hL : ∀ x ∈ L, w1.heap[x.1]? = some x.2) :
    ∃ O', (∀ q, O q → O' q) ∧ PgM w1 p F S O' lv nv ∧ Rec w1 O' v d ∧ FFr (Pown p O) (Pown p O') w w1 := by
  have hge : ∀ x ∈ L, w.heap.size ≤ x.1 := by
    rcases hN with ⟨rfl, _⟩ | ⟨g, cap, cur, rfl, _, h3, _⟩
    · intro x hx; simp at hx
    · intro x hx
      simp at hx
      subst hx
      exact h3
  have hpl := h.pb.lt
  refine ⟨fun q => O q ∨ ∃ x ∈ L, x.1 = q, fun q o => .inl o, (h.below hb).more (fun q o => .inl o) ?_ ?_, Rec.new hN hL (fun x hx => .inr ⟨x, hx, rfl⟩), ⟨hb.os, hb.tape, hb.output, hb.size, fun q h1 _ => hb.block q h1, fun q o => ?_⟩⟩
  · rintro (o | ⟨x, hx, e⟩)
    · exact h.np o
    · have := hge x hx; omega
  · rintro q (o | ⟨x, hx, rfl⟩)
    · exact Nat.lt_of_lt_of_le (h.lt q o) hb.size
    · exact (Array.getElem?_eq_some_iff.1 (hL x hx)).1
  · rcases o with o | o | ⟨x, hx, rfl⟩
    · exact .inl (.inl o)
    · exact .inl (.inr o)
    · exact .inr (hge x hx)
set_option maxRecDepth 20000 in
set_option maxHeartbeats 1000000 in
theorem pput_ok {w : World} {p : Nat} {F : Fl} {S : Pgr} {O : Nat → Prop} {lv nv : Value} (h : PgM w p F S O lv nv) (hd : S.dead = false) (n : Nat) (hn : S.has (n : Int) = true) (a : Option Addr) (l c : Nat) (d : List UInt8) (hR : Row w.heap.size w (.slice a l c) d) (hl : d.length = l) (hl2 : l ≤ 512) :
    Calls Tryz.prog 41 #[.pointer (some ⟨p, 0, none⟩), .int .i64 (n : Int), .slice a l c] w fun e w' => e = .returned (.int .i64 0) ∧ ∃ O', PgM w' p F (S.chg n (some d)) O' lv nv ∧ FFr (Pown p O) (Pown p O') w w' := by
  have hlt : n < S.now.length := by
    unfold Pgr.has at hn
    cases hq : S.now[n]? with
    | none => simp [hq] at hn
    | some x => exact (List.getElem?_eq_some_iff.1 hq).1
  have HRf := hide (prefusal_ok h)
  rw [hd] at HRf
  have HHs := hide (phas_ok h (n : Int))
  rw [hn] at HHs
  have HCl : Hid (Calls Tryz.prog 57 #[.slice a l c] w fun e w1 => ∃ a' c', e = .returned (.slice a' l c') ∧ Hid (Calls Tryz.prog 76 #[.pointer (some ⟨p, 0, none⟩), .int .i64 (n : Int), .agg #[.bool true, .slice a' l c']] w1 fun e w' => e = .returned (.tuple #[]) ∧ Hid (∃ O', PgM w' p F (S.chg n (some d)) O' lv nv ∧ FFr (Pown p O) (Pown p O') w w'))) := by
    refine (bclone_new w.heap.size a l c d w hR hl (Nat.le_refl _) (by omega)).mono fun e w1 ⟨a', c', L, e1, hN, hb, hL⟩ => ⟨a', c', e1, ?_⟩
    obtain ⟨O', hO', hM, hRec, hE⟩ := h.data hb hN hL
    exact (pchange_ok hM n hlt (some d) _ hRec).mono fun e w' ⟨e1, hM', hE'⟩ => ⟨e1, O', hM', hE.trans hE'⟩
  have hli : (l : Int) ≤ 512 := by omega
  clear h hR hlt hn hd hl hl2
  go_enter Tryz.func41, Tryz.ntmps41
  go_wp2_with fail
  refine (unhide HRf).mono ?_
  rintro e w' ⟨rfl, hw⟩
  have hw2 := hw.symm
  subst hw2
  clear hw
  go_wp2_with fail
  refine (unhide HHs).mono ?_
  rintro e w' ⟨rfl, hw⟩
  have hw2 := hw.symm
  subst hw2
  clear hw
  go_wp2_with fail
  refine (unhide HCl).mono ?_
  rintro e w1 ⟨a', c', rfl, HCh⟩
  go_wp2_with fail
  refine (unhide HCh).mono ?_
  rintro e w2 ⟨rfl, HF⟩
  go_wp2_with fail
  go_ret
  exact ⟨rfl, unhide HF⟩
theorem Pgr.has_lt {S : Pgr} {n : Nat} (hn : S.has (n : Int) = true) : ∃ h : n < S.now.length, S.now[n].isSome = true := by
  unfold Pgr.has at hn
  cases hq : S.now[n]? with
  | none => simp [hq] at hn
  | some x =>
    obtain ⟨h1, h2⟩ := List.getElem?_eq_some_iff.1 hq
    refine ⟨h1, ?_⟩
    rw [h2]
    simpa [hq] using hn
theorem rec_nil (w : World) (O : Nat → Prop) : Rec w O (.slice none 0 0) [] := ⟨none, 0, rfl, Nat.le_refl _, by simp [maxLen], fun h => absurd h (Nat.lt_irrefl _)⟩
set_option maxRecDepth 20000 in
set_option maxHeartbeats 1000000 in
theorem pfree_ok {w : World} {p : Nat} {F : Fl} {S : Pgr} {O : Nat → Prop} {lv nv : Value} (h : PgM w p F S O lv nv) (hd : S.dead = false) (n : Nat) (hn : S.has (n : Int) = true) :
    Calls Tryz.prog 42 #[.pointer (some ⟨p, 0, none⟩), .int .i64 (n : Int)] w fun e w' => e = .returned (.int .i64 0) ∧ PgM w' p F (S.chg n none) O lv nv ∧ FFr (Pown p O) (Pown p O) w w' := by
  have hlt : n < S.now.length := let ⟨h, _⟩ := Pgr.has_lt hn; h
  have HRf := hide (prefusal_ok h)
  rw [hd] at HRf
  have HHs := hide (phas_ok h (n : Int))
  rw [hn] at HHs
  have HCh := hide (pchange_ok h n hlt none (.slice none 0 0) (rec_nil w O))
  clear h hlt hn hd
  go_enter Tryz.func42, Tryz.ntmps42
  go_wp2_with fail
  refine (unhide HRf).mono ?_
  rintro e w' ⟨rfl, hw⟩
  have hw2 := hw.symm
  subst hw2
  clear hw
  go_wp2_with fail
  refine (unhide HHs).mono ?_
  rintro e w' ⟨rfl, hw⟩
  have hw2 := hw.symm
  subst hw2
  clear hw
  go_wp2_with fail
  refine (unhide HCh).mono ?_
  rintro e w2 ⟨rfl, h1, h2⟩
  have HF := hide (And.intro h1 h2)
  clear h1 h2
  go_wp2_with fail
  go_ret
  exact ⟨rfl, unhide HF⟩
set_option maxRecDepth 20000 in
set_option maxHeartbeats 1000000 in
/-- A page that is not taken: ErrNone. -/
theorem pfree_no {w : World} {p : Nat} {F : Fl} {S : Pgr} {O : Nat → Prop} {lv nv : Value} (h : PgM w p F S O lv nv) (hd : S.dead = false) (n : Int) (hn : S.has n = false) :
    Calls Tryz.prog 42 #[.pointer (some ⟨p, 0, none⟩), .int .i64 n] w fun e w' => e = .returned (.int .i64 7) ∧ w' = w := by
  have HRf := hide (prefusal_ok h)
  rw [hd] at HRf
  have HHs := hide (phas_ok h n)
  rw [hn] at HHs
  clear h hn hd
  go_enter Tryz.func42, Tryz.ntmps42
  go_wp2_with fail
  refine (unhide HRf).mono ?_
  rintro e w' ⟨rfl, hw⟩
  have hw2 := hw.symm
  subst hw2
  clear hw
  go_wp2_with fail
  refine (unhide HHs).mono ?_
  rintro e w' ⟨rfl, hw⟩
  have hw2 := hw.symm
  subst hw2
  clear hw
  go_wp2_with fail
  go_ret
  exact ⟨rfl, rfl⟩
set_option maxRecDepth 20000 in
set_option maxHeartbeats 1000000 in
theorem pget_ok {w : World} {p : Nat} {F : Fl} {S : Pgr} {O : Nat → Prop} {lv nv : Value} (h : PgM w p F S O lv nv) (n : Nat) (d : List UInt8) (hn : S.now[n]? = some (some d)) (hdl : d.length ≤ 1000000) :
    Calls Tryz.prog 43 #[.pointer (some ⟨p, 0, none⟩), .int .i64 (n : Int)] w fun e w' => ∃ a' c' L, e = .returned (.tuple #[.slice a' d.length c', .int .i64 0]) ∧ NewData w.heap.size L (.slice a' d.length c') d ∧ Below w.heap.size w w' ∧ ∀ x ∈ L, w'.heap[x.1]? = some x.2 := by
  obtain ⟨hlt, hnd⟩ := List.getElem?_eq_some_iff.1 hn
  have hhas : S.has (n : Int) = true := by simp [Pgr.has, hn]
  have HHs := hide (phas_ok h (n : Int))
  rw [hhas] at HHs
  have c263 := h.now_at
  obtain ⟨g, c, sv, rfl, ho, _, d0, d1, hrec, hz, _, _, _⟩ := h.rn.at hlt
  rw [hnd] at hrec
  obtain ⟨a, l, c1, hsv⟩ := hrec.slice
  have hrow := hrec.row
  subst hsv
  obtain rfl : l = d.length := by
    obtain ⟨_, _, e, _⟩ := hrow
    injection e with _ e _
  have HCl := hide (bclone_new w.heap.size a d.length c1 d w hrow rfl (Nat.le_refl _) (by omega))
  have hni : (n : Int) < (S.now.length : Int) := by omega
  clear h hn hhas hrec hrow hz ho d0 hnd
  generalize S.now.length = N at *
  go_enter Tryz.func43, Tryz.ntmps43
  go_wp2_with fail
  refine (unhide HHs).mono ?_
  rintro e w' ⟨rfl, hw⟩
  have hw2 := hw.symm
  subst hw2
  clear hw
  go_wp2_with fail
  refine (unhide HCl).mono ?_
  rintro e w1 ⟨a', c', L, rfl, h1, h2, h3⟩
  have HF := hide (And.intro h1 (And.intro h2 h3))
  clear h1 h2 h3
  go_wp2_with fail
  exact bodyPost_ret (by simp [results, Tryz.results43]) rfl ⟨a', c', L, rfl, (unhide HF).1, (unhide HF).2.1, (unhide HF).2.2⟩
/-- The number that New gives. -/
def Pgr.newNo (S : Pgr) : Nat := if (firstOf S.free).2 then (firstOf S.free).1 else S.now.length
/-- A Pager with a new page. -/
def Pgr.new (S : Pgr) : Pgr := (if (firstOf S.free).2 then S else S.grow).chg S.newNo (some [])
set_option maxRecDepth 20000 in
set_option maxHeartbeats 1000000 in
theorem pnew_ok {w : World} {p : Nat} {F : Fl} {S : Pgr} {O : Nat → Prop} {lv nv : Value} (h : PgM w p F S O lv nv) (hT : Tab w) (hd : S.dead = false) (hn : S.now.length < 16384) (hfr : (firstOf S.free).2 = true → (firstOf S.free).1 < S.now.length) :
    Calls Tryz.prog 40 #[.pointer (some ⟨p, 0, none⟩)] w fun e w' => e = .returned (.tuple #[.int .i64 (S.newNo : Int), .int .i64 0]) ∧ ∃ O' nv', PgM w' p F S.new O' lv nv' ∧ FFr (Pown p O) (Pown p O') w w' := by
  have HRf := hide (prefusal_ok h)
  rw [hd] at HRf
  have c263 := h.now_at
  obtain ⟨a, c, rfl, _, _⟩ := h.rn.shape
  cases hf : (firstOf S.free).2 with
  | true =>
    have hlt := hfr hf
    have HFi : Hid (Calls Tryz.prog 90 #[.pointer (some ⟨p, 264, none⟩)] w fun e w1 => e = .returned (.tuple #[.int .i64 ((firstOf S.free).1 : Int), .bool true]) ∧ Hid (Calls Tryz.prog 76 #[.pointer (some ⟨p, 0, none⟩), .int .i64 ((firstOf S.free).1 : Int), .agg #[.bool true, .slice none 0 0]] w1 fun e w' => e = .returned (.tuple #[]) ∧ Hid (∃ O' nv', PgM w' p F S.new O' lv nv' ∧ FFr (Pown p O) (Pown p O') w w'))) := by
      refine (first_ok S.free p 264 w hT h.pb.words_free).mono fun e w1 ⟨e1, hb⟩ => ⟨by rw [e1, hf], ?_⟩
      refine (pchange_ok (h.below hb) _ hlt (some []) (.slice none 0 0) (rec_nil w1 O)).mono fun e w' ⟨e2, hM, hE⟩ => ⟨e2, O, .slice a S.now.length c, ?_, ?_⟩
      · unfold Pgr.new Pgr.newNo; rw [hf]; exact hM
      · exact FFr.trans ⟨hb.os, hb.tape, hb.output, hb.size, fun q h1 _ => hb.block q h1, fun q o => .inl o⟩ hE
    have hnn : S.newNo = (firstOf S.free).1 := by unfold Pgr.newNo; rw [hf]; rfl
    rw [hnn]
    clear h hT hfr hlt hnn hf hd hn
    generalize (firstOf S.free).1 = m at *
    go_enter Tryz.func40, Tryz.ntmps40
    go_wp2_with fail
    refine (unhide HRf).mono ?_
    rintro e w' ⟨rfl, hw⟩
    have hw2 := hw.symm
    subst hw2
    clear hw
    go_wp2_with fail
    refine (unhide HFi).mono ?_
    rintro e w1 ⟨rfl, HCh⟩
    go_wp2_with fail
    refine (unhide HCh).mono ?_
    rintro e w2 ⟨rfl, HF⟩
    go_wp2_with fail
    exact bodyPost_ret (by simp [results, Tryz.results40]) rfl ⟨rfl, unhide HF⟩
  | false =>
    have HFi : Hid (Calls Tryz.prog 90 #[.pointer (some ⟨p, 264, none⟩)] w fun e w1 => e = .returned (.tuple #[.int .i64 0, .bool false]) ∧ w1.cell? ⟨p, 263, none⟩ = some (.slice a S.now.length c) ∧ Hid (Calls Tryz.prog 77 #[.pointer (some ⟨p, 0, none⟩)] w1 fun e w2 => e = .returned (.int .i64 (S.now.length : Int)) ∧ Hid (Calls Tryz.prog 76 #[.pointer (some ⟨p, 0, none⟩), .int .i64 (S.now.length : Int), .agg #[.bool true, .slice none 0 0]] w2 fun e w' => e = .returned (.tuple #[]) ∧ Hid (∃ O' nv', PgM w' p F S.new O' lv nv' ∧ FFr (Pown p O) (Pown p O') w w')))) := by
      refine (first_ok S.free p 264 w hT h.pb.words_free).mono fun e w1 ⟨e1, hb⟩ => ⟨?_, (h.below hb).now_at, ?_⟩
      · have h1 : (firstOf S.free).1 = 0 := by
          unfold firstOf at hf ⊢
          cases hl : lst S.free 0 16384 with
          | nil => rfl
          | cons x t => rw [hl] at hf; simp at hf
        rw [e1, hf, h1]
        rfl
      · refine (pgrow_ok (h.below hb) hn).mono fun e w2 ⟨e2, O', nv', hM, hO, hE⟩ => ⟨e2, ?_⟩
        refine (pchange_ok hM S.now.length (by simp [Pgr.grow]) (some []) (.slice none 0 0) (rec_nil w2 O')).mono fun e w' ⟨e3, hM3, hE3⟩ => ⟨e3, O', nv', ?_, ?_⟩
        · unfold Pgr.new Pgr.newNo; rw [hf]; exact hM3
        · exact ((FFr.trans (O := Pown p O) (O1 := Pown p O) ⟨hb.os, hb.tape, hb.output, hb.size, fun q h1 _ => hb.block q h1, fun q o => .inl o⟩ hE)).trans hE3
    have hnn : S.newNo = S.now.length := by unfold Pgr.newNo; rw [hf]; rfl
    have hni : ¬ ((S.now.length : Int) = 16384) := by omega
    have hnb : ((S.now.length : Int) == 16384) = false := by simpa using hni
    rw [hnn]
    clear h hT hfr hnn hf hd hn
    generalize S.now.length = m at *
    go_enter Tryz.func40, Tryz.ntmps40
    go_wp2_with fail
    refine (unhide HRf).mono ?_
    rintro e w' ⟨rfl, hw⟩
    have hw2 := hw.symm
    subst hw2
    clear hw
    go_wp2_with fail
    refine (unhide HFi).mono ?_
    rintro e w1 ⟨rfl, c1, HGr⟩
    go_wp2_with fail
    refine (unhide HGr).mono ?_
    rintro e w2 ⟨rfl, HCh⟩
    go_wp2_with fail
    refine (unhide HCh).mono ?_
    rintro e w3 ⟨rfl, HF⟩
    go_wp2_with fail
    exact bodyPost_ret (by simp [results, Tryz.results40]) rfl ⟨rfl, unhide HF⟩
end Go.Proofs.YtebcmicmklpflaaGreatDoor
