/- goOn: the row of a lock goes on. -/
import Derived.Test.YtnlfmmempomcaaaLg
import Derived.LoopTactic
namespace Go.Proofs.Ytnlfmmempomcaaa
open Go.RowKit Go.Maps
set_option linter.unusedSimpArgs false
/-- What stands at a round's head. -/
def GoR (k B : Nat) (tb : Nat) (S : St) (s : ByteArray) (ex : Option Int) (F : ByteArray → Option Nat) (G : Int → Option Nat) (lm tm : Option Nat) (O : Ghost) (w : World) (v : Value) (wr : World) : Prop :=
  ∃ (Si : St) (Oi : Ghost) (outs : List Int), (S.go s).1 = (Si.go s).1 ∧ (S.go s).2 = outs ++ (Si.go s).2 ∧ outs.length + (Si.rw s).length = (S.rw s).length ∧ Rp Oi tb Si ex F G lm tm ∧ Inv Si ∧ Mem (k + 2 * outs.length) Oi wr ∧ Stp 0 B O Oi w wr ∧ Nums B Oi wr v outs
def GoE (k B : Nat) (tb : Nat) (S : St) (s : ByteArray) (ex : Option Int) (F : ByteArray → Option Nat) (G : Int → Option Nat) (lm tm : Option Nat) (O : Ghost) (w : World) (v : Value) (w' : World) : Prop :=
  ∃ O', Rp O' tb (S.go s).1 ex F G lm tm ∧ Inv (S.go s).1 ∧ Mem (k + 2 * (S.rw s).length) O' w' ∧ Stp 0 B O O' w w' ∧ Nums B O' w' v (S.go s).2
section
variable {k B : Nat} {O : Ghost} {tb b : Nat} {S : St} {s : ByteArray} {ex : Option Int} {F : ByteArray → Option Nat} {G : Int → Option Nat} {lm tm : Option Nat} {w : World}
theorem lets_of (h : Rp O tb S ex F G lm tm) {z x : Bool} (hz : S.hs s ≠ [] → z = S.sh s) : S.lets s x = true ↔ (∀ m, (if m ∈ S.hs s then G m else none) = none) ∨ (z = true ∧ x = true) := by
  unfold St.lets
  cases e : S.hs s with
  | nil => simp
  | cons n l =>
    have hz' := hz (by rw [e]; simp)
    obtain ⟨_, a, ha⟩ := h.liveh s n (by rw [e]; exact List.mem_cons_self ..)
    subst hz'
    simp only [List.isEmpty_cons, Bool.false_or, Bool.and_eq_true]
    constructor
    · exact fun h1 => .inr h1
    · rintro (h1 | h1)
      · have := h1 n
        rw [if_pos (List.mem_cons_self ..), ha] at this
        cases this
      · exact h1
/-- What is known at a row's first task. -/
theorem head_facts (hM : Mem k O w) (h : Rp O tb S ex F G lm tm) (hI : Inv S) (hF : F s = some b) {n : Int} {x : Bool} {r : List (Int × Bool)} (hr : S.rw s = (n, x) :: r) :
    ∃ a hm z rb off c N, G n = some a ∧ w.cell? ⟨b, 3, none⟩ = some (.slice (some ⟨rb, off, none⟩) N c) ∧ w.cell? ⟨rb, off, none⟩ = some (.pointer (some ⟨a, 0, none⟩)) ∧ w.cell? ⟨a, 3, none⟩ = some (.bool x) ∧
      w.cell? ⟨b, 1, none⟩ = some (.map (some hm)) ∧ w.cell? ⟨b, 2, none⟩ = some (.bool z) ∧ IMap k w hm (fun m => if m ∈ S.hs s then G m else none) ∧ (S.lets s x = true ↔ (∀ m, (if m ∈ S.hs s then G m else none) = none) ∨ (z = true ∧ x = true)) ∧ 1 ≤ N ∧ N ≤ c ∧ c ≤ maxLen ∧ N = r.length + 1 := by
  obtain ⟨hm, z, rv, h1, h2, h3, xs, h4, h5⟩ := h.lock s b hF
  obtain ⟨_, a, ha⟩ := h.livew s n x (by rw [hr]; exact List.mem_cons_self ..)
  obtain ⟨am, z2, u, g1, _, g2, g3⟩ := h.ask n a ha
  rw [hr, List.map_cons, ha] at h5
  cases xs with
  | nil => cases h5
  | cons a' xs =>
    simp only [List.map_cons, List.cons.injEq, Option.some.injEq] at h5
    obtain ⟨rfl, h5⟩ := h5
    have hl : xs.length = r.length := by have := congrArg List.length h5; simpa using this
    rcases h4 with ⟨_, e⟩ | ⟨rb, off, c, cs, e1, e2, e3, e4, e5, e6⟩
    · cases e
    · rw [e1] at h1
      have hz2 := g2 (s, x) ((hI.wait n s x).2 (by rw [hr]; exact List.mem_cons_self ..))
      refine ⟨a', hm, z, rb, off, c, (a' :: xs).length, ha, hM.cell h1 (i := 3) rfl, ?_, ?_, hM.cell h1 (i := 1) rfl, hM.cell h1 (i := 2) rfl, hM.im h3, lets_of h h2, by simp, e4, e5, by simp [hl]⟩
      · refine hM.cell e2 (i := off) ?_
        have h7 : ((cs.drop off).take (a' :: xs).length)[0]? = some (ptr (some a')) := by rw [e6]; rfl
        rw [List.getElem?_take] at h7
        simp at h7
        exact h7
      · have := hM.cell g1 (i := 3) rfl
        rw [this]
        simp at hz2
        rw [hz2]
/-- What the round's body does to the blocks. -/
theorem body_facts (hM : Mem k O w) (h : Rp O tb S ex F G lm tm) (hI : Inv S) (hF : F s = some b) {n : Int} {x : Bool} {r : List (Int × Bool)} (hr : S.rw s = (n, x) :: r) {a : Nat} (hG : G n = some a) (hk : k + 1 < maxLen) (hB : B ≤ w.heap.size)
    {rb off c N : Nat} (hv : w.cell? ⟨b, 3, none⟩ = some (.slice (some ⟨rb, off, none⟩) N c)) {off' : Nat} (hoff : off' = if c = 1 then off else off + 1) :
    ∃ w2, w2 = (w.setCell ⟨b, 3, none⟩ (.slice (some ⟨rb, off', none⟩) (N - 1) (c - 1))).setCell ⟨a, 2, none⟩ (.pointer none) ∧ w.frozen? ⟨b, 3, none⟩ = false ∧
      (w.setCell ⟨b, 3, none⟩ (.slice (some ⟨rb, off', none⟩) (N - 1) (c - 1))).frozen? ⟨a, 2, none⟩ = false ∧ (∃ v, (w.setCell ⟨b, 3, none⟩ (.slice (some ⟨rb, off', none⟩) (N - 1) (c - 1))).cell? ⟨a, 2, none⟩ = some v) ∧ w2.cell? ⟨a, 3, none⟩ = some (.bool x) ∧
      Calls Try.prog 40 #[.pointer (some ⟨b, 0, none⟩), .pointer (some ⟨a, 0, none⟩), .bool x] w2 fun e w3 => e = .returned (.tuple #[]) ∧ w3.cell? ⟨a, 0, none⟩ = some (.int .i64 n) ∧
        ∃ O3, Rp O3 tb (S.pop s n x r) ex F G lm tm ∧ Mem (k + 2) O3 w3 ∧ Stp 0 B O O3 w w3 := by
  obtain ⟨hm, z, rv, h1, h2, h3, xs, h4, h5⟩ := h.lock s b hF
  obtain ⟨am, z2, u, g1, _, g2, g3⟩ := h.ask n a hG
  have hwt := (hI.wait n s x).2 (by rw [hr]; exact List.mem_cons_self ..)
  obtain rfl : z2 = x := g2 (s, x) hwt
  have hab : a ≠ b := fun e => by rw [e, h1] at g1; simp [lockO, askO] at g1
  rw [hr, List.map_cons, hG] at h5
  cases xs with
  | nil => cases h5
  | cons a' xs =>
    simp only [List.map_cons, List.cons.injEq, Option.some.injEq] at h5
    obtain ⟨rfl, h5⟩ := h5
    rcases h4 with ⟨_, e⟩ | ⟨rb', off0, c', cs, e1, e2, e3, e4, e5, e6⟩
    · cases e
    · have hv' := hM.cell h1 (i := 3) rfl
      rw [hv, e1] at hv'
      simp only [Option.some.injEq, Value.slice.injEq, Addr.mk.injEq] at hv'
      obtain ⟨⟨rfl, rfl, -⟩, rfl, rfl⟩ := hv'
      have hM1 := hM.set h1 3 (.slice (some ⟨rb, off', none⟩) ((a' :: xs).length - 1) (c - 1))
      have hs1 : Stp 0 B O _ w _ := Stp.set h1 3 (.slice (some ⟨rb, off', none⟩) ((a' :: xs).length - 1) (c - 1))
      obtain ⟨O1, hO1⟩ : ∃ O1, O1 = put O b (lockO s b hm z (.slice (some ⟨rb, off', none⟩) ((a' :: xs).length - 1) (c - 1))) := ⟨_, rfl⟩
      have hO1' : put O b ⟨0, b, .raw ([.string s, .map (some hm), .bool z, rv].set 3 (.slice (some ⟨rb, off', none⟩) ((a' :: xs).length - 1) (c - 1))) 80⟩ = O1 := by rw [hO1]; rfl
      rw [hO1'] at hM1 hs1
      have g1' : O1 a' = some (askO n a' am u z2) := by rw [hO1, put_other _ _ hab]; exact g1
      have hM2 := hM1.set g1' 2 (.pointer none)
      have hs2 : Stp 0 B O1 _ (w.setCell ⟨b, 3, none⟩ (.slice (some ⟨rb, off', none⟩) ((a' :: xs).length - 1) (c - 1))) _ := Stp.set g1' 2 (.pointer none)
      obtain ⟨O2, hO2⟩ : ∃ O2, O2 = put O1 a' (askO n a' am none z2) := ⟨_, rfl⟩
      have hO2' : put O1 a' ⟨0, a', .raw ([.int .i64 n, .map (some am), ptr u, .bool z2].set 2 (.pointer none)) 85⟩ = O2 := by rw [hO2]; rfl
      rw [hO2'] at hM2 hs2
      have hma : hm ≠ a' := fun e => by rw [e, g1] at h3; simp [askO] at h3
      have hmb : hm ≠ b := fun e => by rw [e, h1] at h3; simp [lockO] at h3
      have ama : am ≠ a' := fun e => by rw [e, g1] at g3; simp [askO] at g3
      have amb : am ≠ b := fun e => by rw [e, h1] at g3; simp [lockO] at g3
      have hmam : hm ≠ am := fun e => by rw [e, g3] at h3; simp at h3
      have rbb : rb ≠ b := fun e => by rw [e, h1] at e2; simp [lockO] at e2
      have rba : rb ≠ a' := fun e => by rw [e, g1] at e2; simp [askO] at e2
      have rbh : rb ≠ hm := fun e => by rw [e, h3] at e2; simp at e2
      have rbm : rb ≠ am := fun e => by rw [e, g3] at e2; simp at e2
      have b2 : O2 b = some (lockO s b hm z (.slice (some ⟨rb, off', none⟩) ((a' :: xs).length - 1) (c - 1))) := by rw [hO2, put_other _ _ (Ne.symm hab), hO1, put_same]
      have a2 : O2 a' = some (askO n a' am none z2) := by rw [hO2, put_same]
      have hm2 : O2 hm = some ⟨0, b, .imap fun m => if m ∈ S.hs s then G m else none⟩ := by rw [hO2, put_other _ _ hma, hO1, put_other _ _ hmb]; exact h3
      have am2 : O2 am = some ⟨0, a', .smap fun t => if n ∈ S.hs t then F t else none⟩ := by rw [hO2, put_other _ _ ama, hO1, put_other _ _ amb]; exact g3
      have hz1 : (w.setCell ⟨b, 3, none⟩ (.slice (some ⟨rb, off', none⟩) ((a' :: xs).length - 1) (c - 1))).heap.size = w.heap.size := set_size _ _ _
      refine ⟨_, rfl, hM.frozen h1 3, hM1.frozen g1' 2, ⟨_, hM1.cell g1' (i := 2) rfl⟩, hM2.cell a2 (i := 3) rfl, ?_⟩
      refine (hold_any (B := B) O2 b a' hm am n s z z2 _ _ _ _ _ _ hM2 hk b2 a2 hm2 am2 (h.okG n a' hG) (h.okF s b hF) (by rw [set_size, set_size]; exact hB)).mono ?_
      rintro e w3 ⟨rfl, hM3, hs3⟩
      have a3 : heldO O2 b a' hm am n s (.slice (some ⟨rb, off', none⟩) ((a' :: xs).length - 1) (c - 1)) z2 (fun m => if m ∈ S.hs s then G m else none) (fun t => if n ∈ S.hs t then F t else none) a' = some (askO n a' am none z2) := by
        unfold heldO
        rw [put_other _ _ (Ne.symm ama), put_other _ _ hab, put_other _ _ (Ne.symm hma)]; exact a2
      have b3 : heldO O2 b a' hm am n s (.slice (some ⟨rb, off', none⟩) ((a' :: xs).length - 1) (c - 1)) z2 (fun m => if m ∈ S.hs s then G m else none) (fun t => if n ∈ S.hs t then F t else none) b = some (lockO s b hm z2 (.slice (some ⟨rb, off', none⟩) ((a' :: xs).length - 1) (c - 1))) := by
        unfold heldO
        rw [put_other _ _ (Ne.symm amb), put_same]; rfl
      have m3 : heldO O2 b a' hm am n s (.slice (some ⟨rb, off', none⟩) ((a' :: xs).length - 1) (c - 1)) z2 (fun m => if m ∈ S.hs s then G m else none) (fun t => if n ∈ S.hs t then F t else none) hm = some ⟨0, b, .imap (iupd (fun m => if m ∈ S.hs s then G m else none) n (some a'))⟩ := by
        unfold heldO
        rw [put_other _ _ hmam, put_other _ _ hmb, put_same]
      have n3 : heldO O2 b a' hm am n s (.slice (some ⟨rb, off', none⟩) ((a' :: xs).length - 1) (c - 1)) z2 (fun m => if m ∈ S.hs s then G m else none) (fun t => if n ∈ S.hs t then F t else none) am = some ⟨0, a', .smap (supd (fun t => if n ∈ S.hs t then F t else none) s (some b))⟩ := by
        unfold heldO
        rw [put_same]
      have r3 : heldO O2 b a' hm am n s (.slice (some ⟨rb, off', none⟩) ((a' :: xs).length - 1) (c - 1)) z2 (fun m => if m ∈ S.hs s then G m else none) (fun t => if n ∈ S.hs t then F t else none) rb = some ⟨0, b, .raw cs 74⟩ := by
        unfold heldO
        rw [put_other _ _ rbm, put_other _ _ rbb, put_other _ _ rbh, hO2, put_other _ _ rba, hO1, put_other _ _ rbb]; exact e2
      refine ⟨rfl, hM3.cell a3 (i := 0) rfl, _, ?_, hM3, (hs1.trans hs2).trans hs3⟩
      refine h.one hF hG (fun q o hq q1 q2 => ?_) (fun t ht => ⟨if_neg ht, if_neg ht, if_neg ht⟩) (fun m hm => if_neg hm) (fun m hm => ?_) (fun m y hm => ?_) ⟨hm, z2, _, b3, fun _ => (if_pos rfl).symm, ?_, xs, ?_, ?_⟩ ⟨am, z2, none, a3, fun _ => by rw [show (S.pop s n z2 r).wt n = none from if_pos rfl]; rfl, fun y hy => ?_, ?_⟩
      · have n1 : q ≠ b := fun e => q1 (by rw [e, h1] at hq; injection hq with hq; rw [← hq]; rfl)
        have n2 : q ≠ a' := fun e => q2 (by rw [e, g1] at hq; injection hq with hq; rw [← hq]; rfl)
        have n3 : q ≠ hm := fun e => q1 (by rw [e, h3] at hq; injection hq with hq; rw [← hq])
        have n4 : q ≠ am := fun e => q2 (by rw [e, g3] at hq; injection hq with hq; rw [← hq])
        unfold heldO
        rw [put_other _ _ n4, put_other _ _ n1, put_other _ _ n3, hO2, put_other _ _ n2, hO1, put_other _ _ n1]
        exact hq
      · rw [show (S.pop s n z2 r).hs s = S.hs s ++ [n] from if_pos rfl]
        simp [hm]
      · rw [S.pop_rw] at hm
        exact .inr (by rw [hr]; exact List.mem_cons_of_mem _ hm)
      · rw [m3, show (S.pop s n z2 r).hs s = S.hs s ++ [n] from if_pos rfl]
        have : iupd (fun m => if m ∈ S.hs s then G m else none) n (some a') = fun m => if m ∈ S.hs s ++ [n] then G m else none := funext fun m => by
          unfold iupd
          by_cases em : m = n
          · subst em
            rw [if_pos rfl, if_pos (by simp), hG]
          · rw [if_neg em]
            show (if m ∈ S.hs s then G m else none) = _
            by_cases em2 : m ∈ S.hs s
            · rw [if_pos em2, if_pos (by simp [em2])]
            · rw [if_neg em2, if_neg (by simp [em2, em])]
        rw [this]
      · refine .inr ⟨rb, off', c - 1, cs, by simp, r3, ?_, ?_, by omega, ?_⟩
        · rw [hoff]
          simp only [List.length_cons] at e4
          split <;> omega
        · simp only [List.length_cons] at e4; omega
        · rw [List.length_cons] at e6 e4
          have h6 : ((cs.drop off).take (xs.length + 1)).drop 1 = xs.map fun g => ptr (some g) := by rw [e6]; rfl
          rw [List.drop_take] at h6
          rw [hoff]
          split
          · rename_i e
            obtain rfl : xs = [] := List.length_eq_zero_iff.1 (by omega)
            simp
          · rw [List.drop_drop] at h6
            simpa using h6
      · rw [S.pop_rw]; exact h5
      · rw [show (S.pop s n z2 r).wt n = none from if_pos rfl] at hy; cases hy
      · rw [n3]
        have : supd (fun t => if n ∈ S.hs t then F t else none) s (some b) = fun t => if n ∈ (S.pop s n z2 r).hs t then F t else none := funext fun t => by
          unfold supd
          by_cases et : t = s
          · subst et
            rw [if_pos rfl, show (S.pop t n z2 r).hs t = S.hs t ++ [n] from if_pos rfl, if_pos (by simp), hF]
          · rw [if_neg et, show (S.pop s n z2 r).hs t = S.hs t from if_neg et]
        rw [this]
end
def lenV : Value → Nat
  | .slice _ n _ => n
  | _ => 0
theorem Nums.len {base : Nat} {O : Ghost} {w : World} {v : Value} {xs : List Int} (h : Nums base O w v xs) : ∃ a c, v = .slice a xs.length c := by
  obtain ⟨⟨_, h2⟩, _⟩ := h
  rcases h2 with ⟨h2, h3⟩ | ⟨g', cap, cur, hv, _⟩
  · exact ⟨none, 0, by rw [h2, h3]⟩
  · exact ⟨_, _, hv⟩
theorem go_end {k B : Nat} {O : Ghost} {tb : Nat} {S : St} {s : ByteArray} {ex : Option Int} {F : ByteArray → Option Nat} {G : Int → Option Nat} {lm tm : Option Nat} {w wr : World} {v : Value} {Si : St} {Oi : Ghost} {outs : List Int}
    (q1 : (S.go s).1 = (Si.go s).1) (q2 : (S.go s).2 = outs ++ (Si.go s).2) (q3 : outs.length + (Si.rw s).length = (S.rw s).length) (hR : Rp Oi tb Si ex F G lm tm) (hI : Inv Si) (hM : Mem (k + 2 * outs.length) Oi wr) (hst : Stp 0 B O Oi w wr) (hnum : Nums B Oi wr v outs) (hs : Si.go s = (Si, [])) :
    GoE k B tb S s ex F G lm tm O w v wr := by
  rw [hs] at q1 q2
  simp only [List.append_nil] at q2
  exact ⟨Oi, by rw [q1]; exact hR, by rw [q1]; exact hI, hM.mono (by omega), hst, by rw [q2]; exact hnum⟩
set_option maxRecDepth 20000 in
set_option maxHeartbeats 1000000 in
theorem goOn_ok {k B : Nat} (O : Ghost) (tb b : Nat) (S : St) (s : ByteArray) (ex : Option Int) (F : ByteArray → Option Nat) (G : Int → Option Nat) (lm tm : Option Nat) (w : World) (hM : Mem k O w) (h : Rp O tb S ex F G lm tm) (hI : Inv S) (hF : F s = some b) (hk : k + 2 * (S.rw s).length < 2000000) (hB : B ≤ w.heap.size) :
    Calls Try.prog 60 #[.pointer (some ⟨b, 0, none⟩)] w fun e w' => ∃ v, e = .returned v ∧ GoE k B tb S s ex F G lm tm O w v w' := by
  have HH : Hid (GoR k B tb S s ex F G lm tm O w (.slice none 0 0) w) := ⟨S, O, [], rfl, rfl, by simp, h, hI, hM, Stp.refl _ _ _ _, Nums.nil _ _ _⟩
  have HF := hide hF
  have HK := hide hk
  have HB := hide hB
  clear hM h hI hF hk hB
  go_enter Try.func60, Try.ntmps60
  go_wp2_with fail
  go_loopw [3] (fun v wr => GoR k B tb S s ex F G lm tm O w v wr) (fun v _ => (S.rw s).length - lenV v)
  case atStart => exact unhide HH
  case round =>
    obtain ⟨Si, Oi, outs, q1, q2, q3, hR, hI, hM, hst, hnum⟩ := hrel
    have hBr : B ≤ wr.heap.size := Nat.le_trans (unhide HB) hst.size
    cases hr : Si.rw s with
    | nil =>
      obtain ⟨hm, z, rv, h1, h2, h3, xs, h4, h5⟩ := hR.lock s b (unhide HF)
      have c3 := hM.cell h1 (i := 3) rfl
      have hrv : ∃ a c, rv = .slice a 0 c := by
        rw [hr] at h5
        obtain rfl : xs = [] := by cases xs with | nil => rfl | cons _ _ => cases h5
        rcases h4 with ⟨e, _⟩ | ⟨rb, off, c, cs, e, _⟩
        · exact ⟨_, _, e⟩
        · exact ⟨_, _, e⟩
      obtain ⟨a0, c0, rfl⟩ := hrv
      have HE : Hid (GoE k B tb S s ex F G lm tm O w u3 wr) := go_end q1 q2 q3 hR hI hM hst hnum (St.go_none hr)
      clear hR hI hM hst hnum h1 h2 h3 h4 h5 q1 q2 q3 hBr hr
      go_wp2_with fail
      go_ret
      exact ⟨u3, rfl, unhide HE⟩
    | cons p r =>
      obtain ⟨n, x⟩ := p
      obtain ⟨a, hm, z, rb, off, c, N, hG, c3, cr, ca, c1, c2, hmap, hlets, hN1, hNc, hcm, hNr⟩ := head_facts hM hR hI (unhide HF) hr
      have hnp : (0 : Int) < (N : Int) := by omega
      cases hl : Si.lets s x with
      | false =>
        have HL := hide (lets_any b hm z x false _ wr c1 c2 hmap (by rw [← hlets, hl]))
        have HE : Hid (GoE k B tb S s ex F G lm tm O w u3 wr) := go_end q1 q2 q3 hR hI hM hst hnum (St.go_stop hr hl)
        clear hR hI hM hst hnum q1 q2 q3 hBr hr hlets hmap hl hG hNc hcm hNr hN1
        go_wp2_with (go_at_call 39; refine (unhide HL).mono ?_; rintro e w' ⟨rfl, rfl⟩)
        go_ret
        exact ⟨u3, rfl, unhide HE⟩
      | true =>
        have HL := hide (lets_any b hm z x true _ wr c1 c2 hmap (by rw [← hlets, hl]))
        obtain ⟨off', hoff⟩ : ∃ off', off' = if c = 1 then off else off + 1 := ⟨_, rfl⟩
        obtain ⟨w2, hw2, f1, f2, ⟨vv, f3⟩, f4, hcall⟩ := body_facts (B := wr.heap.size) hM hR hI (unhide HF) hr hG (by have := unhide HK; simp only [maxLen]; omega) (Nat.le_refl _) c3 hoff
        have HC := hide hcall
        have HN : Hid (N = r.length + 1 ∧ N ≤ c ∧ c ≤ maxLen) := ⟨hNr, hNc, hcm⟩
        have HG : Hid (Nums B Oi wr u3 outs ∧ Inv Si ∧ Stp 0 B O Oi w wr) := ⟨hnum, hI, hst⟩
        have HQ : Hid ((S.go s).1 = (Si.go s).1 ∧ (S.go s).2 = outs ++ (Si.go s).2 ∧ outs.length + (Si.rw s).length = (S.rw s).length ∧ Si.rw s = (n, x) :: r ∧ Si.lets s x = true) := ⟨q1, q2, q3, hr, hl⟩
        have HO := hide hoff
        clear hcall hlets hmap hG hNr hNc hcm hnum hI hst hM hR q1 q2 q3 hr hl hoff
        have HZ : Hid (∀ w3, (∃ O3, Rp O3 tb (Si.pop s n x r) ex F G lm tm ∧ Mem (k + 2 * outs.length + 2) O3 w3 ∧ Stp 0 wr.heap.size Oi O3 wr w3) → ∃ v' w4, (∀ ty, (app38 ty #[u3, .slice (some ⟨w3.heap.size, 0, none⟩) 1 1]).run Try.prog (w3.alloc (.cells #[.int .i64 n] 3)) = .ok v' w4) ∧
            Hid (GoR k B tb S s ex F G lm tm O w v' w4 ∧ (S.rw s).length - lenV v' < (S.rw s).length - lenV u3)) := fun w3 ⟨O3, k1, k2, k3⟩ => by
          obtain ⟨p1, p2, p3⟩ := unhide HG
          obtain ⟨p4, p5, p6, p7, p8⟩ := unhide HQ
          have p9 := unhide HK
          have hrl := congrArg List.length p7
          rw [List.length_cons] at hrl
          have hB3 : B ≤ w3.heap.size := Nat.le_trans hBr k3.size
          have hn3 := p1.kept k3
          obtain ⟨v', w4, a1, a2, a3, a4⟩ := hn3.grow k2 hB3 (by omega) n
          refine ⟨v', w4, a1, ⟨_, O3, outs ++ [n], ?_, ?_, ?_, k1, p2.pop p7, ?_, ?_, a2⟩, ?_⟩
          · rw [p4, St.go_step p7 p8]
          · rw [p5, St.go_step p7 p8]; simp
          · rw [St.pop_rw, List.length_append, List.length_singleton]; omega
          · refine a4.mono ?_
            rw [List.length_append, List.length_singleton]; omega
          · exact (p3.trans (k3.mono hBr)).trans (Stp.grown a3 hB3 fun g eg => (hn3.lt eg).2)
          · obtain ⟨a1, c1, e1⟩ := p1.len
            obtain ⟨a2, c2, e2⟩ := a2.len
            rw [e1, e2]
            show (S.rw s).length - (outs ++ [n]).length < (S.rw s).length - outs.length
            rw [List.length_append, List.length_singleton]
            omega
        by_cases hc1 : c = 1
        · obtain rfl : off' = off := by have := unhide HO; rw [if_pos hc1] at this; exact this
          subst hc1
          subst hw2
          go_wp2_with (first | (go_at_call 39; refine (unhide HL).mono ?_; rintro e w' ⟨rfl, rfl⟩) | (go_at_call 40; refine (unhide HC).mono ?_; rintro e w3 ⟨rfl, g1, g2⟩; obtain ⟨v', w4, y1, HY⟩ := unhide HZ w3 g2; clear g2))
          go_roundw
          case rel => exact (unhide HY).1
          case measure => exact (unhide HY).2
        · obtain rfl : off' = off + 1 := by have := unhide HO; rw [if_neg hc1] at this; exact this
          subst hw2
          go_wp2_with (first | (go_at_call 39; refine (unhide HL).mono ?_; rintro e w' ⟨rfl, rfl⟩) | (go_at_call 40; refine (unhide HC).mono ?_; rintro e w3 ⟨rfl, g1, g2⟩; obtain ⟨v', w4, y1, HY⟩ := unhide HZ w3 g2; clear g2))
          go_roundw
          case rel => exact (unhide HY).1
          case measure => exact (unhide HY).2
end Go.Proofs.Ytnlfmmempomcaaa
