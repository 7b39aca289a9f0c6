/- asker, lock: the task with a number, the lock with a name; a new one if there is none. -/
import Derived.Test.YtnlfmmempomcaaaLd
namespace Go.Proofs.Ytnlfmmempomcaaa
open Go.RowKit Go.Maps
set_option linter.unusedSimpArgs false
section
variable {O O' : Ghost} {tb : Nat} {S : St} {F : ByteArray → Option Nat} {G : Int → Option Nat} {lm tm : Option Nat}
theorem Rp.neF {ex : Option Int} (h : Rp O tb S ex F G lm tm) {s : ByteArray} {b : Nat} (e : F s = some b) : b ≠ tb := fun e2 => by
  obtain ⟨_, _, _, e1, _⟩ := h.lock s b e
  rw [e2, h.tbl] at e1
  simp [lockO] at e1
theorem Rp.neG {ex : Option Int} (h : Rp O tb S ex F G lm tm) {n : Int} {a : Nat} (e : G n = some a) : a ≠ tb := fun e2 => by
  obtain ⟨_, _, _, e1, _⟩ := h.ask n a e
  rw [e2, h.tbl] at e1
  simp [askO] at e1
theorem Rp.notin {ex : Option Int} (h : Rp O tb S ex F G lm tm) {n : Int} (hG : G n = none) (s : ByteArray) : n ∉ S.hs s := fun e => by
  obtain ⟨_, a, ha⟩ := h.liveh s n e
  rw [hG] at ha; cases ha
theorem Rp.nowait {ex : Option Int} (h : Rp O tb S ex F G lm tm) (hI : Inv S) {n : Int} (hG : G n = none) : S.wt n = none := by
  cases e : S.wt n with
  | none => rfl
  | some x =>
    obtain ⟨_, a, ha⟩ := h.livew x.1 n x.2 ((hI.wait n x.1 x.2).1 e)
    rw [hG] at ha; cases ha
theorem Rp.nohold {ex : Option Int} (h : Rp O tb S ex F G lm tm) {s : ByteArray} (hF : F s = none) : S.hs s = [] := by
  cases e : S.hs s with
  | nil => rfl
  | cons n l =>
    obtain ⟨⟨b, hb⟩, _⟩ := h.liveh s n (by rw [e]; exact List.mem_cons_self ..)
    rw [hF] at hb; cases hb
theorem Rp.norow {ex : Option Int} (h : Rp O tb S ex F G lm tm) {s : ByteArray} (hF : F s = none) : S.rw s = [] := by
  cases e : S.rw s with
  | nil => rfl
  | cons x l =>
    obtain ⟨⟨b, hb⟩, _⟩ := h.livew s x.1 x.2 (by rw [e]; exact List.mem_cons_self ..)
    rw [hF] at hb; cases hb
theorem RowIs.re {b : Nat} {v : Value} {xs : List Nat} (h : RowIs O b v xs) (hk : ∀ q o, O q = some o → o.own = b → O' q = some o) : RowIs O' b v xs := by
  rcases h with h | ⟨rb, off, c, cs, h1, h2, h3⟩
  · exact .inl h
  · exact .inr ⟨rb, off, c, cs, h1, hk _ _ h2 rfl, h3⟩
theorem Rp.addG (h : Rp O tb S none F G lm tm) (hI : Inv S) {n : Int} (hn : IOk n) (hG : G n = none) {a am mb : Nat} (hk : ∀ q o, O q = some o → o.own ≠ tb → O' q = some o) (ha : O' a = some (askO n a am none false)) (ham : O' am = some ⟨0, a, .smap fun _ => none⟩)
    (ht : O' tb = some ⟨0, tb, .raw [.map lm, .map (some mb)] 73⟩) (hlm : ∀ b, lm = some b → O' b = some ⟨0, tb, .smap F⟩) (htm : O' mb = some ⟨0, tb, .imap (iupd G n (some a))⟩) : Rp O' tb S none F (iupd G n (some a)) lm (some mb) := by
  have hup : ∀ m, m ≠ n → iupd G n (some a) m = G m := fun m e => if_neg e
  have hmem : ∀ s, (fun m => if m ∈ S.hs s then iupd G n (some a) m else none) = fun m => if m ∈ S.hs s then G m else none := fun s => funext fun m => by
    by_cases e : m ∈ S.hs s
    · rw [if_pos e, if_pos e, hup m (fun e2 => h.notin hG s (e2 ▸ e))]
    · rw [if_neg e, if_neg e]
  have hrow : ∀ s n' x, (n', x) ∈ S.rw s → n' ≠ n := fun s n' x hx e => by
    obtain ⟨_, a, ha⟩ := h.livew s n' x hx
    rw [e, hG] at ha; cases ha
  have hup2 : ∀ m g, G m = some g → iupd G n (some a) m = some g := fun m g e => by rw [hup m (fun e2 => by rw [e2, hG] at e; cases e)]; exact e
  exact ⟨ht, h.lm0, hlm, fun e => (by cases e), fun b e => by
      injection e with e
      rw [← e, htm]
      simp, fun s b e => by
      obtain ⟨hm, z, rv, h1, h2, h3, xs, h4, h5⟩ := h.lock s b e
      refine ⟨hm, z, rv, hk _ _ h1 (h.neF e), h2, ?_, xs, h4.re fun q o hq ho => hk q o hq (by rw [ho]; exact h.neF e), ?_⟩
      · rw [hmem s]; exact hk _ _ h3 (h.neF e)
      · rw [h5]
        exact List.map_congr_left fun x hx => (hup _ (hrow s x.1 x.2 hx)).symm, fun m g e => by
      by_cases e2 : m = n
      · subst e2
        rw [show iupd G m (some a) m = some a from if_pos rfl] at e
        injection e with e
        subst e
        refine ⟨am, false, none, ha, fun _ => by rw [h.nowait hI hG]; rfl, fun x hx => ?_, ?_⟩
        · rw [h.nowait hI hG] at hx; cases hx
        · rw [ham]
          have : (fun s => if m ∈ S.hs s then F s else none) = fun _ => none := funext fun s => if_neg (h.notin hG s)
          rw [this]
      · rw [hup m e2] at e
        obtain ⟨am', z, u, h1, hu, h2, h3⟩ := h.ask m g e
        exact ⟨am', z, u, hk _ _ h1 (h.neG e), hu, h2, hk _ _ h3 (h.neG e)⟩, fun s m hm => by
      obtain ⟨h1, g, h2⟩ := h.liveh s m hm
      exact ⟨h1, g, hup2 m g h2⟩, fun s m x hx => by
      obtain ⟨h1, g, h2⟩ := h.livew s m x hx
      exact ⟨h1, g, hup2 m g h2⟩, h.okF, fun m g e => by
      by_cases e2 : m = n
      · rw [e2]; exact hn
      · rw [hup m e2] at e; exact h.okG m g e⟩
theorem Rp.addF (h : Rp O tb S none F G lm tm) (hI : Inv S) {s : ByteArray} (hs : SOk s) (hF : F s = none) {b hm mb : Nat} (hk : ∀ q o, O q = some o → o.own ≠ tb → O' q = some o) (hb : O' b = some (lockO s b hm false (.slice none 0 0))) (hhm : O' hm = some ⟨0, b, .imap fun _ => none⟩)
    (ht : O' tb = some ⟨0, tb, .raw [.map (some mb), .map tm] 73⟩) (htm : ∀ b, tm = some b → O' b = some ⟨0, tb, .imap G⟩) (hlm : O' mb = some ⟨0, tb, .smap (supd F s (some b))⟩) : Rp O' tb S none (supd F s (some b)) G (some mb) tm := by
  have hup : ∀ m, m ≠ s → supd F s (some b) m = F m := fun m e => if_neg e
  have hup2 : ∀ m g, F m = some g → supd F s (some b) m = some g := fun m g e => by rw [hup m (fun e2 => by rw [e2, hF] at e; cases e)]; exact e
  have hmem : ∀ n : Int, (fun m => if n ∈ S.hs m then supd F s (some b) m else none) = fun m => if n ∈ S.hs m then F m else none := fun n => funext fun m => by
    by_cases e : n ∈ S.hs m
    · rw [if_pos e, if_pos e, hup m (fun e2 => by rw [e2, h.nohold hF] at e; cases e)]
    · rw [if_neg e, if_neg e]
  exact ⟨ht, fun e => (by cases e), fun b' e => by
      injection e with e
      rw [← e, hlm], h.tm0, fun b' e => by
      rw [htm b' e]
      simp, fun m g e => by
      by_cases e2 : m = s
      · subst e2
        rw [show supd F m (some b) m = some b from if_pos rfl] at e
        injection e with e
        subst e
        refine ⟨hm, false, _, hb, fun e => absurd (h.nohold hF) e, ?_, [], .inl ⟨rfl, rfl⟩, ?_⟩
        · rw [hhm, h.nohold hF]; simp
        · rw [h.norow hF]; rfl
      · rw [hup m e2] at e
        obtain ⟨hm', z, rv, h1, h2, h3, xs, h4, h5⟩ := h.lock m g e
        exact ⟨hm', z, rv, hk _ _ h1 (h.neF e), h2, hk _ _ h3 (h.neF e), xs, h4.re fun q o hq ho => hk q o hq (by rw [ho]; exact h.neF e), h5⟩, fun m g e => by
      obtain ⟨am', z, u, h1, hu, h2, h3⟩ := h.ask m g e
      refine ⟨am', z, u, hk _ _ h1 (h.neG e), fun ee => ?_, h2, ?_⟩
      · have e3 : ((S.wt m).bind fun x => supd F s (some b) x.1) = (S.wt m).bind fun x => F x.1 := by
          cases e4 : S.wt m with
          | none => rfl
          | some x =>
            obtain ⟨⟨g', hg'⟩, _⟩ := h.livew x.1 m x.2 ((hI.wait m x.1 x.2).1 e4)
            simp only [Option.bind_some]
            rw [hup2 _ _ hg', hg']
        rw [e3]
        exact hu ee
      · rw [hmem m]; exact hk _ _ h3 (h.neG e), fun m n hn => by
      obtain ⟨⟨g, h1⟩, h2⟩ := h.liveh m n hn
      exact ⟨⟨g, hup2 m g h1⟩, h2⟩, fun m n x hx => by
      obtain ⟨⟨g, h1⟩, h2⟩ := h.livew m n x hx
      exact ⟨⟨g, hup2 m g h1⟩, h2⟩, fun m g e => by
      by_cases e2 : m = s
      · rw [e2]; exact hs
      · rw [hup m e2] at e; exact h.okF m g e, h.okG⟩
end
theorem eq71_nil (w : World) : (binOp BinOp.eql 71 (.map none) (.map none)).run Try.prog w = .ok (.bool true) w := run_eql_map_nil w 71 3 74 none Try.underlying71
theorem eq71_some (g : Nat) (w : World) : (binOp BinOp.eql 71 (.map (some g)) (.map none)).run Try.prog w = .ok (.bool false) w := run_eql_map_nil w 71 3 74 (some g) Try.underlying71
theorem eq70_nil (w : World) : (binOp BinOp.eql 70 (.map none) (.map none)).run Try.prog w = .ok (.bool true) w := run_eql_map_nil w 70 9 76 none Try.underlying70
theorem eq70_some (g : Nat) (w : World) : (binOp BinOp.eql 70 (.map (some g)) (.map none)).run Try.prog w = .ok (.bool false) w := run_eql_map_nil w 70 9 76 (some g) Try.underlying70
/-- What asker and lock leave. -/
def Asked (k B : Nat) (O : Ghost) (tb : Nat) (S : St) (F : ByteArray → Option Nat) (G : Int → Option Nat) (lm : Option Nat) (n : Int) (w : World) (a : Nat) (w' : World) : Prop :=
  ∃ O' G' tm', Rp O' tb S none F G' lm tm' ∧ Mem (k + 1) O' w' ∧ Stp 0 B O O' w w' ∧ G' n = some a ∧ ∀ m g, G m = some g → G' m = some g
set_option maxRecDepth 20000 in
set_option maxHeartbeats 1000000 in
theorem asker_ok {k B : Nat} (O : Ghost) (tb : Nat) (S : St) (F : ByteArray → Option Nat) (G : Int → Option Nat) (lm tm : Option Nat) (w : World) (hM : Mem k O w) (h : Rp O tb S none F G lm tm) (hI : Inv S) (n : Int) (hn : IOk n) (hk : k < maxLen) (hB : B ≤ w.heap.size) :
    Calls Try.prog 37 #[.pointer (some ⟨tb, 0, none⟩), .int .i64 n] w fun e w' => ∃ a, e = .returned (.pointer (some ⟨a, 0, none⟩)) ∧ Asked k B O tb S F G lm n w a w' := by
  have c0 := hM.cell h.tbl (i := 0) rfl
  have c1 := hM.cell h.tbl (i := 1) rfl
  have hmk := run_makeMap (P := Try.prog) 70 w
  cases hGn : G n with
  | some a =>
    have HE : Hid (Asked k B O tb S F G lm n w a w) := ⟨O, G, tm, h, hM.mono (by omega), Stp.refl _ _ _ _, hGn, fun _ _ e => e⟩
    cases tm with
    | none => rw [h.tm0 rfl n (by simp)] at hGn; cases hGn
    | some mb =>
      have hl := I_look (hM.im (h.tm1 mb rfl)) hn
      rw [if_neg (by simp), hGn] at hl
      clear h hM hI hGn
      unfold ptr at hl
      go_enter Try.func37, Try.ntmps37
      go_wp2_with fail
      go_ret
      exact ⟨a, rfl, unhide HE⟩
  | none =>
    obtain ⟨A, hA⟩ : ∃ A, A = w.heap.size := ⟨_, rfl⟩
    have hM1 := hM.newS 0 (A + 1)
    have hs1 : Stp 0 B O _ w _ := Stp.alloc hM hB ⟨0, A + 1, .smap fun _ => none⟩ (.map #[] 0)
    rw [← hA] at hM1 hs1
    obtain ⟨w1, hw1⟩ : ∃ w1, w1 = w.alloc (.map #[] 0) := ⟨_, rfl⟩
    rw [← hw1] at hM1 hs1
    have hz1 : w1.heap.size = A + 1 := by rw [hw1, hA]; simp
    have hM2 := hM1.alloc 0 (A + 1) [.int .i64 n, .map (some A), .pointer none, .bool false] 85
    have hs2 : Stp 0 B _ _ w1 _ := Stp.alloc hM1 (by omega) ⟨0, A + 1, .raw [.int .i64 n, .map (some A), .pointer none, .bool false] 85⟩ (.cells #[.int .i64 n, .map (some A), .pointer none, .bool false] 85)
    rw [hz1] at hM2 hs2
    obtain ⟨w2, hw2⟩ : ∃ w2, w2 = w1.alloc (.cells #[.int .i64 n, .map (some A), .pointer none, .bool false] 85) := ⟨_, rfl⟩
    change Mem k _ (w1.alloc (.cells #[.int .i64 n, .map (some A), .pointer none, .bool false] 85)) at hM2
    rw [← hw2] at hM2 hs2
    have hs02 := hs1.trans hs2
    obtain ⟨O2, hO2⟩ : ∃ O2, O2 = put (put O A ⟨0, A + 1, .smap fun _ => none⟩) (A + 1) ⟨0, A + 1, .raw [.int .i64 n, .map (some A), .pointer none, .bool false] 85⟩ := ⟨_, rfl⟩
    rw [← hO2] at hM2 hs02
    have hz2 : w2.heap.size = A + 2 := by rw [hw2, World.size_alloc, hz1]
    have hold : ∀ q o, O q = some o → O2 q = some o := fun q o e => by
      have := hM.lt e
      rw [hO2, put_other _ _ (by omega), put_other _ _ (by omega)]
      exact e
    have ha2 : O2 (A + 1) = some (askO n (A + 1) A none false) := by rw [hO2, put_same]; rfl
    have hA2 : O2 A = some ⟨0, A + 1, .smap fun _ => none⟩ := by rw [hO2, put_other _ _ (by omega), put_same]
    have d1 := hM2.cell (hold _ _ h.tbl) (i := 1) rfl
    cases tm with
    | some mb =>
      have hl := I_look (hM.im (h.tm1 mb rfl)) hn
      rw [if_neg (by simp), hGn] at hl
      have htm := hold _ _ (h.tm1 mb rfl)
      simp at htm
      obtain ⟨w3, hr3, hS3, ht3⟩ := I_store (hM2.im htm) hn hk (A + 1)
      have hM3 : Mem (k + 1) _ w3 := hM2.turn (o := ⟨0, tb, .imap (iupd G n (some (A + 1)))⟩) ht3 hS3 (by omega)
      have hs3 : Stp 0 B O _ w w3 := hs02.trans (Stp.turn (t' := .imap (iupd G n (some (A + 1)))) htm (by omega) ht3)
      have n1 : tb ≠ mb := fun e => by have := h.tm1 mb rfl; rw [← e, h.tbl] at this; simp at this
      have HE : Hid (Asked k B O tb S F G lm n w (A + 1) w3) := ⟨_, iupd G n (some (A + 1)), some mb, h.addG hI hn hGn (a := A + 1) (am := A) (mb := mb) (fun q o e1 e2 => by
          rw [put_other _ _ (fun e => by rw [e, h.tm1 mb rfl] at e1; injection e1 with e1; subst e1; exact e2 rfl)]
          exact hold q o e1) (by rw [put_other _ _ (by have := hM.lt (h.tm1 mb rfl); omega)]; exact ha2) (by rw [put_other _ _ (by have := hM.lt (h.tm1 mb rfl); omega)]; exact hA2)
          (by rw [put_other _ _ n1]; exact hold _ _ h.tbl) (fun b e => by rw [put_other _ _ (fun e2 => by have e3 := h.lm1 b e; rw [e2, h.tm1 mb rfl] at e3; simp at e3)]; exact hold _ _ (h.lm1 b e)) (put_same _ _ _), hM3, hs3, if_pos rfl, fun m g e => by
          rw [show iupd G n (some (A + 1)) m = G m from if_neg (fun e2 => by rw [e2, hGn] at e; cases e)]; exact e⟩
      rw [hw2, hw1, hA] at hr3 d1
      have HA := hide hA
      have HZ : Hid (w.heap.size + 1 = A + 1) := by show w.heap.size + 1 = A + 1; omega
      clear h hM hI hGn hM1 hs1 hM2 hs2 hs02 hold ha2 hA2 htm hM3 hs3 hS3 ht3 n1 hO2 hw1 hw2 hz1 hz2 hA
      unfold ptr at hl
      have hq := eq71_some
      go_enter Try.func37, Try.ntmps37
      go_wp2_with fail
      go_ret
      exact ⟨A + 1, by rw [unhide HA]; rfl, unhide HE⟩
    | none =>
      have hl := I_look_nil (w := w) hn
      have htl := hM.lt h.tbl
      obtain ⟨w3, hw3⟩ : ∃ w3, w3 = w2.alloc (.map #[] 0) := ⟨_, rfl⟩
      have hM3 := hM2.newI 0 tb
      have hs3 : Stp 0 B _ _ w2 _ := Stp.alloc hM2 (by omega) ⟨0, tb, .imap fun _ => none⟩ (.map #[] 0)
      rw [← hw3, hz2] at hM3 hs3
      have hz3 : w3.heap.size = A + 3 := by rw [hw3, World.size_alloc, hz2]
      have ht3 : (put O2 (A + 2) ⟨0, tb, .imap fun _ => none⟩) tb = some ⟨0, tb, .raw [.map lm, .map none] 73⟩ := by rw [put_other _ _ (by omega)]; exact hold _ _ h.tbl
      obtain ⟨w4, hw4⟩ : ∃ w4, w4 = w3.setCell ⟨tb, 1, none⟩ (.map (some (A + 2))) := ⟨_, rfl⟩
      have hM4 := hM3.set ht3 1 (.map (some (A + 2)))
      have hs4 : Stp 0 B _ _ w3 _ := Stp.set ht3 1 (.map (some (A + 2)))
      rw [← hw4] at hM4 hs4
      have hz4 : w4.heap.size = A + 3 := by rw [hw4, set_size, hz3]
      have hm4 : (put (put O2 (A + 2) ⟨0, tb, .imap fun _ => none⟩) tb ⟨0, tb, .raw ([.map lm, .map none].set 1 (.map (some (A + 2)))) 73⟩) (A + 2) = some ⟨0, tb, .imap fun _ => none⟩ := by rw [put_other _ _ (by omega), put_same]
      obtain ⟨w5, hr5, hS5, ht5⟩ := I_store (hM4.im hm4) hn hk (A + 1)
      have hM5 : Mem (k + 1) _ w5 := hM4.turn (o := ⟨0, tb, .imap (iupd G n (some (A + 1)))⟩) ht5 (by
        have e : G = fun _ => none := funext fun m => h.tm0 rfl m (by simp)
        rw [e]; exact hS5) (by omega)
      have hs5 : Stp 0 B O _ w w5 := ((hs02.trans hs3).trans hs4).trans (Stp.turn (t' := .imap (iupd G n (some (A + 1)))) hm4 (by omega) ht5)
      have HE : Hid (Asked k B O tb S F G lm n w (A + 1) w5) := ⟨_, iupd G n (some (A + 1)), some (A + 2), h.addG hI hn hGn (a := A + 1) (am := A) (mb := A + 2) (fun q o e1 e2 => by
          have := hM.lt e1
          rw [put_other _ _ (by omega), put_other _ _ (fun e => by rw [e, h.tbl] at e1; injection e1 with e1; subst e1; exact e2 rfl), put_other _ _ (by omega)]
          exact hold q o e1) (by rw [put_other _ _ (by omega), put_other _ _ (by omega), put_other _ _ (by omega)]; exact ha2) (by rw [put_other _ _ (by omega), put_other _ _ (by omega), put_other _ _ (by omega)]; exact hA2)
          (by rw [put_other _ _ (by omega), put_same]; rfl) (fun b e => by have := hM.lt (h.lm1 b e); rw [put_other _ _ (by omega), put_other _ _ (fun e2 => by have e3 := h.lm1 b e; rw [e2, h.tbl] at e3; simp at e3), put_other _ _ (by omega)]; exact hold _ _ (h.lm1 b e)) (put_same _ _ _), hM5, hs5, if_pos rfl, fun m g e => by
          rw [show iupd G n (some (A + 1)) m = G m from if_neg (fun e2 => by rw [e2, hGn] at e; cases e)]; exact e⟩
      have d2 := hM4.cell (put_same _ _ _) (i := 1) rfl
      have d4 := hM3.cell ht3 (i := 1) rfl
      have d5 := hM3.frozen ht3 1
      have e3 : A + 2 = w.heap.size + 1 + 1 := by omega
      have e1 : A + 1 = w.heap.size + 1 := by omega
      rw [hw4, hw3, hw2, hw1, e3, e1, hA] at hr5
      rw [hw4, hw3, hw2, hw1, e3, hA] at d2
      rw [hw3, hw2, hw1, hA] at d4 d5
      rw [hw2, hw1, hA] at d1
      have HA := hide hA
      clear h hM hI hGn hM1 hs1 hM2 hs2 hs02 hold ha2 hA2 hM3 hs3 hM4 hs4 hM5 hs5 hS5 ht5 ht3 hm4 hO2 hw1 hw2 hw3 hw4 hz1 hz2 hz3 hz4 hA htl e3 e1
      unfold ptr at hl
      have hq := eq71_nil
      have hmk2 := run_makeMap (P := Try.prog) 71 ((w.alloc (.map #[] 0)).alloc (.cells #[.int .i64 n, .map (some w.heap.size), .pointer none, .bool false] 85))
      go_enter Try.func37, Try.ntmps37
      go_wp2_with fail
      go_ret
      exact ⟨A + 1, by rw [unhide HA]; rfl, unhide HE⟩
end Go.Proofs.Ytnlfmmempomcaaa
