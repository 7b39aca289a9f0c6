/- drop: a job goes. -/
import Derived.Test.YtnlfmmempomcaaaNd
import Derived.Lib.SliceRun
namespace Go.Proofs.Ytnlfmmempomcaaa
open Go.RowKit Go.Maps
set_option linter.unusedSimpArgs false
theorem info125 : ∃ j, Try.prog.info? 125 = some j ∧ j.size ≠ 0 := by
  have h : (Try.prog.info? 125).map (fun i => i.size) = some 6 := by kernel_rfl
  cases hq : Try.prog.info? 125 with
  | none => simp [hq] at h
  | some i => simp [hq] at h; exact ⟨i, rfl, by omega⟩
theorem eq113_same (a : Addr) (w : World) : (binOp BinOp.eql 113 (.pointer (some a)) (.pointer (some a))).run Try.prog w = .ok (.bool true) w := by
  obtain ⟨j, hj, _⟩ := info125
  exact run_eql_ptr_same w a Try.underlying113 hj
theorem eq113_other {g g' : Nat} {x y : Array Value} {w : World} (hne : g ≠ g') (h1 : w.heap[g]? = some (.cells x 125 (0, 0))) (h2 : w.heap[g']? = some (.cells y 125 (0, 0))) : (binOp BinOp.eql 113 (.pointer (some ⟨g, 0, none⟩)) (.pointer (some ⟨g', 0, none⟩))).run Try.prog w = .ok (.bool false) w := by
  obtain ⟨j, hj, hs⟩ := info125
  exact run_eql_ptr_other w Try.underlying113 hj hs (by simp [hne]) h1 h2
/-- drop's closure: is it that job? -/
theorem is_job {k : Nat} (O : Ghost) (w : World) (hM : Mem k O w) {a b : Jb} (ha : O a.at_ = some (jobO a)) (hb : O b.at_ = some (jobO b)) (hab : a.at_ = b.at_ ↔ a.no = b.no) (xa : Addr) (hc : w.cell? xa = some (.pointer (some ⟨b.at_, 0, none⟩))) :
    Calls Try.prog 83 #[.pointer (some ⟨a.at_, 0, none⟩), .pointer (some xa)] w fun e w' => e = .returned (.bool (decide (a.no = b.no))) ∧ w' = w := by
  by_cases e : a.at_ = b.at_
  · have hn := hab.1 e
    have hq := eq113_same ⟨b.at_, 0, none⟩
    rw [e, hn]
    clear hM ha hb e hab
    go_enter Try.func83, Try.ntmps83
    go_wp2_with fail
    go_ret
    exact ⟨by simp, rfl⟩
  · have hn : ¬ a.no = b.no := fun e2 => e (hab.2 e2)
    have hq : (binOp BinOp.eql 113 (.pointer (some ⟨a.at_, 0, none⟩)) (.pointer (some ⟨b.at_, 0, none⟩))).run Try.prog w = .ok (.bool false) w := eq113_other e (hM.raw ha) (hM.raw hb)
    clear hM ha hb e hab
    go_enter Try.func83, Try.ntmps83
    go_wp2_with fail
    go_ret
    exact ⟨by simp [hn], rfl⟩
set_option maxRecDepth 20000 in
set_option maxHeartbeats 1000000 in
theorem index_ok (ra : Option Addr) (n rc d : Nat) (fv : Addr) (w : World) (hd : d < n) (hmax : n ≤ 1000)
    (hC : ∀ m, m ≤ d → ∃ g o a, ra = some ⟨g, o, none⟩ ∧ w.cell? ⟨g, o + m, none⟩ = some (.pointer (some ⟨a, 0, none⟩)) ∧ Calls Try.prog 83 #[.pointer (some ⟨a, 0, none⟩), .pointer (some fv)] w fun e w' => e = .returned (.bool (decide (m = d))) ∧ w' = w) :
    Calls Try.prog 100 #[.slice ra n rc, .func (.func 83) #[] #[.pointer (some fv)]] w fun e w' => e = .returned (.int .i64 (d : Int)) ∧ w' = w := by
  have HC := hide hC
  clear hC
  have hn' : (n : Int) ≤ 1000 := by omega
  go_enter Try.func100, Try.ntmps100
  go_wp2_with fail
  go_loop [8] (fun v => ∃ m : Nat, v = .int .i64 (m : Int) ∧ m ≤ d) (fun v => d + 1 - (intOf v).toNat)
  case atStart => exact ⟨0, rfl, Nat.zero_le _⟩
  case round =>
    obtain ⟨m, rfl, hmd⟩ := hrel
    have hmI : (m : Int) < (n : Int) := by omega
    obtain ⟨g, o, a, rfl, h1, h2⟩ := unhide HC m hmd
    by_cases e : m = d
    · subst e
      rw [decide_eq_true rfl] at h2
      have H2 := hide h2
      clear h2
      go_wp2_with (go_at_call 83; refine (unhide H2).mono ?_; rintro e w' ⟨rfl, hw⟩; rw [hw]; clear hw w')
      go_ret
      exact ⟨rfl, rfl⟩
    · rw [decide_eq_false e] at h2
      have H2 := hide h2
      clear h2
      go_wp2_with (go_at_call 83; refine (unhide H2).mono ?_; rintro e w' ⟨rfl, hw⟩; rw [hw]; clear hw w')
      go_round
      case rel => exact ⟨m + 1, by go_num, by omega⟩
      case measure => simp [intOf]; omega
/-- What stands in a row while its d-th goes: the first i are done. -/
def shift (X : Nat → Nat) (d i p : Nat) : Nat := if d ≤ p ∧ p < i then X (p + 1) else X p
/-- What is known of DeleteFunc's row. -/
structure DelC (k : Nat) (O : Ghost) (rb blk off n c d : Nat) (X : Nat → Nat) (cs : List Value) (xa : Addr) (w : World) : Prop where
  mem : Mem k O w
  row : O blk = some ⟨3, rb, .raw cs 113⟩
  room : off + c ≤ cs.length
  le : n ≤ c
  small : n ≤ 1000
  cmax : c ≤ maxLen
  win : ∀ p, p < n → cs[off + p]? = some (.pointer (some ⟨X p, 0, none⟩))
  dn : d < n
  jobs : ∃ Jf : Nat → Jb, (∀ p, p < n → (Jf p).at_ = X p ∧ O (X p) = some (jobO (Jf p))) ∧ ∀ p, p < n → (((Jf p).at_ = (Jf d).at_ ↔ (Jf p).no = (Jf d).no) ∧ ((Jf p).no = (Jf d).no ↔ p = d))
  box : w.cell? xa = some (.pointer (some ⟨X d, 0, none⟩))
  loose : O xa.block = none
theorem DelC.calls {k : Nat} {O : Ghost} {rb blk off n c d : Nat} {X : Nat → Nat} {cs cs' : List Value} {xa : Addr} {w wr : World} (h : DelC k O rb blk off n c d X cs xa w) (hM : Mem k (put O blk ⟨3, rb, .raw cs' 113⟩) wr) (hst : Stp 3 w.heap.size O (put O blk ⟨3, rb, .raw cs' 113⟩) w wr) {p : Nat} (hp : p < n) :
    Calls Try.prog 83 #[.pointer (some ⟨X p, 0, none⟩), .pointer (some xa)] wr fun e w' => e = .returned (.bool (decide (p = d))) ∧ w' = wr := by
  obtain ⟨Jf, j1, j2⟩ := h.jobs
  obtain ⟨a1, a2⟩ := j1 p hp
  obtain ⟨b1, b2⟩ := j1 d h.dn
  obtain ⟨q1, q2⟩ := j2 p hp
  have hne : ∀ x (J : Jb), O x = some (jobO J) → x ≠ blk := fun x J e e2 => by rw [e2, h.row] at e; simp [jobO] at e
  have hxl : xa.block < w.heap.size := by
    have := h.box
    unfold World.cell? at this; split at this
    · rename_i q; exact (Array.getElem?_eq_some_iff.1 q).1
    · simp at this
  have hbox : wr.cell? xa = some (.pointer (some ⟨X d, 0, none⟩)) := by
    rw [World.cell?_of_block (w := w) (a := xa) (hst.rest _ hxl h.loose)]; exact h.box
  have := is_job (a := Jf p) (b := Jf d) _ wr hM (by rw [a1, put_other _ _ (hne _ _ a2)]; exact a2) (by rw [b1, put_other _ _ (hne _ _ b2)]; exact b2) q1 xa (by rw [b1]; exact hbox)
  rw [a1] at this
  rwa [show decide ((Jf p).no = (Jf d).no) = decide (p = d) from by simp only [q2]] at this
def clr105 (ty : TypeId) (args : Array Value) : Sem Value := Builtin.clear_ #[105] ty args
@[go_sem ↓] theorem clear_clr105 (ty : TypeId) (args : Array Value) : Builtin.clear_ #[105] ty args = clr105 ty args := rfl
/-- What stands at a round's head. -/
def DelR (k : Nat) (O : Ghost) (rb blk off n d : Nat) (X : Nat → Nat) (cs : List Value) (w : World) (vi vj : Value) (wr : World) : Prop :=
  ∃ (i J : Nat) (cs' : List Value), vi = .int .i64 (i : Int) ∧ vj = .int .i64 (J : Int) ∧ J = i + 1 ∧ d ≤ i ∧ i < n ∧ cs'.length = cs.length ∧ (∀ p, p < n → cs'[off + p]? = some (.pointer (some ⟨shift X d i p, 0, none⟩))) ∧ Mem k (put O blk ⟨3, rb, .raw cs' 113⟩) wr ∧ Stp 3 w.heap.size O (put O blk ⟨3, rb, .raw cs' 113⟩) w wr
/-- What DeleteFunc leaves. -/
def Deleted (k : Nat) (O : Ghost) (rb blk off n d : Nat) (X : Nat → Nat) (cs : List Value) (w w' : World) : Prop :=
  ∃ cs', cs'.length = cs.length ∧ (∀ p, p < n - 1 → cs'[off + p]? = some (.pointer (some ⟨if p < d then X p else X (p + 1), 0, none⟩))) ∧ Mem k (put O blk ⟨3, rb, .raw cs' 113⟩) w' ∧ Stp 3 w.heap.size O (put O blk ⟨3, rb, .raw cs' 113⟩) w w'
theorem put_put (O : Ghost) (b : Nat) (o o' : Ob) : put (put O b o) b o' = put O b o' := funext fun q => by
  unfold put
  split <;> rfl
set_option maxRecDepth 20000 in
set_option maxHeartbeats 2000000 in
theorem delete_ok {k : Nat} (O : Ghost) (rb blk off n c d : Nat) (X : Nat → Nat) (cs : List Value) (xa : Addr) (w : World) (h : DelC k O rb blk off n c d X cs xa w) :
    Calls Try.prog 82 #[.slice (some ⟨blk, off, none⟩) n c, .func (.func 83) #[] #[.pointer (some xa)]] w fun e w' => e = .returned (.slice (some ⟨blk, off, none⟩) (n - 1) c) ∧ Deleted k O rb blk off n d X cs w w' := by
  have hput : put O blk ⟨3, rb, .raw cs 113⟩ = O := funext fun q => by
    unfold put
    split
    · rename_i e; rw [e]; exact h.row.symm
    · rfl
  have HI := hide (index_ok (some ⟨blk, off, none⟩) n c d xa w h.dn h.small fun m hm => ⟨blk, off, X m, rfl, h.mem.cell h.row (h.win m (by have := h.dn; omega)), h.calls (cs' := cs) (by rw [hput]; exact h.mem) (by rw [hput]; exact Stp.refl _ _ _ _) (by have := h.dn; omega)⟩)
  have H0 : Hid (DelR k O rb blk off n d X cs w (.int .i64 (d : Int)) (.int .i64 ((d : Int) + 1)) w) := ⟨d, d + 1, cs, rfl, by simp, rfl, Nat.le_refl _, h.dn, rfl, fun p hp => by
    unfold shift
    rw [if_neg (by omega)]
    exact h.win p hp, by rw [hput]; exact h.mem, by rw [hput]; exact Stp.refl _ _ _ _⟩
  have HD := hide h
  have hdI : ((d : Int) == -1) = false := by simp
  have hdI' : ¬ ((d : Int) = -1) := by omega
  have hnI : (n : Int) ≤ 1000 := by have := h.small; omega
  have hdn : (d : Int) < (n : Int) := by have := h.dn; omega
  clear h hput
  go_enter Try.func82, Try.ntmps82
  go_wp2_with (go_at_call 100; refine (unhide HI).mono ?_; rintro e w' ⟨rfl, rfl⟩)
  go_loopw [5, 6] (fun vi vj wr => DelR k O rb blk off n d X cs w' vi vj wr) (fun vi _ _ => n - (intOf vi).toNat)
  case atStart => exact unhide H0
  case round =>
    obtain ⟨i, J, cs', rfl, rfl, hJ, hdi, hin, hlen, hwin, hM, hst⟩ := hrel
    have hrow : put O blk ⟨3, rb, .raw cs' 113⟩ blk = some ⟨3, rb, .raw cs' 113⟩ := put_same _ _ _
    by_cases hJn : J < n
    · have hJI : (J : Int) < (n : Int) := by omega
      have d1 := hM.cell hrow (hwin J hJn)
      rw [show shift X d i J = X J from by unfold shift; rw [if_neg (by omega)]] at d1
      have HC := hide ((unhide HD).calls hM hst hJn)
      rw [decide_eq_false (show ¬ J = d by omega)] at HC
      have hoi : off + i < cs'.length := by have := (unhide HD).room; have := (unhide HD).le; omega
      have d2 := hM.cell hrow (hwin i hin)
      have d3 := hM.frozen hrow (off + i)
      have hM2 := hM.set hrow (off + i) (.pointer (some ⟨X J, 0, none⟩))
      have hs2 : Stp 3 w'.heap.size _ _ wr _ := Stp.set hrow (off + i) (.pointer (some ⟨X J, 0, none⟩))
      rw [put_put] at hM2 hs2
      have HR : Hid (DelR k O rb blk off n d X cs w' (.int .i64 ((i : Int) + 1)) (.int .i64 ((J : Int) + 1)) (wr.setCell ⟨blk, off + i, none⟩ (.pointer (some ⟨X J, 0, none⟩)))) := ⟨i + 1, J + 1, cs'.set (off + i) (.pointer (some ⟨X J, 0, none⟩)), by simp, by simp, by omega, by omega, by omega, by rw [List.length_set]; exact hlen, fun p hp => by
        rw [List.getElem?_set]
        by_cases e : p = i
        · subst e
          rw [if_pos rfl, if_pos hoi]
          unfold shift
          rw [if_pos (by omega), hJ]
        · rw [if_neg (by omega), hwin p hp]
          unfold shift
          by_cases e2 : d ≤ p ∧ p < i
          · rw [if_pos e2, if_pos (by omega)]
          · rw [if_neg e2, if_neg (by omega)], hM2, hst.trans hs2⟩
      have hJ' : (i : Int) < (n : Int) := by omega
      have hiI : (i : Int) ≤ 1000 := by omega
      have hJI2 : (J : Int) ≤ 1000 := by omega
      have HJ := hide hJ
      clear hwin hM hst hM2 hs2 hrow hlen hoi hJ
      go_wp2_with (go_at_call 83; refine (unhide HC).mono ?_; rintro e w2 ⟨rfl, hw⟩; rw [hw]; clear hw w2)
      go_roundw
      case rel => exact unhide HR
      case measure => have := unhide HJ; simp [intOf]; omega
    · have hJI : ¬ ((J : Int) < (n : Int)) := by omega
      have hn1 : n - i = 1 := by omega
      have hoi : off + i < cs'.length := by have := (unhide HD).room; have := (unhide HD).le; omega
      have hM2 := hM.set hrow (off + i) (.pointer none)
      have hs2 : Stp 3 w'.heap.size _ _ wr _ := Stp.set hrow (off + i) (.pointer none)
      rw [put_put] at hM2 hs2
      have hclr : ∀ ty, (clr105 ty #[.slice (some ⟨blk, off + i, none⟩) (n - i) (c - i)]).run Try.prog wr = .ok (.tuple #[]) (wr.setCell ⟨blk, off + i, none⟩ (.pointer none)) := fun ty => by
        have := Go.Lib.run_clear_slice (P := Try.prog) wr 105 113 ty (.pointer none) Try.underlying105 (fun w => Try.zeroValue113 w) rfl rfl blk (off + i) (n - i) (c - i) (by omega) (fun j hj => by
          obtain rfl : j = 0 := by omega
          rw [Nat.add_zero, hM.cell hrow (hwin i hin)]; rfl) (fun j hj => hM.frozen hrow _)
        rw [hn1] at this
        rw [hn1]
        exact this
      have HE : Hid (Deleted k O rb blk off n d X cs w' (wr.setCell ⟨blk, off + i, none⟩ (.pointer none))) := ⟨cs'.set (off + i) (.pointer none), by rw [List.length_set]; exact hlen, fun p hp => by
        rw [List.getElem?_set, if_neg (by omega), hwin p (by omega)]
        unfold shift
        by_cases e : p < d
        · rw [if_neg (by omega), if_pos e]
        · rw [if_pos (by omega), if_neg e], hM2, hst.trans hs2⟩
      have HJ : Hid (i = n - 1) := by show i = n - 1; omega
      have hic : ¬ (c = i) := by have := (unhide HD).le; omega
      have hicI : (i : Int) ≤ (c : Int) := by have := (unhide HD).le; omega
      have hinI : (i : Int) ≤ (n : Int) := by omega
      have hncI : (n : Int) ≤ (c : Int) := by have := (unhide HD).le; omega
      clear hwin hM hst hM2 hs2 hrow hlen hoi hJ hn1 hJn
      go_wp2_with fail
      go_ret
      exact ⟨by rw [← unhide HJ]; rfl, unhide HE⟩
end Go.Proofs.Ytnlfmmempomcaaa
