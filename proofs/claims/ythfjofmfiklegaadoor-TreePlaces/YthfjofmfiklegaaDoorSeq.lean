/- strings.SplitSeq at a slash: the parts of a place, one by one, for a round that may say no more. -/
import Derived.Test.YthfjofmfiklegaaDoorCut
import Derived.RangeFuncNested
import Derived.RangeFuncBound
import Derived.RangeFuncCalls
import Derived.RangeFuncLeaves
import Derived.Shelf.Abstract
import Derived.Shelf.RegionOpen
import Derived.WalkKit
import Derived.OwnWalkIn
import Derived.TacticsInMore
import Derived.LoopNIn
import Derived.LoopIn
namespace Go.Proofs.YthfjofmfiklegaaDoor
open Go.RowKit Go.Shelf
attribute [local go_sem] Oper.semAt_some
/-- How long the text in a box is. -/
def sizeAt (b : Nat) (w : World) : Nat := match w.cell? ⟨b, 0, none⟩ with
  | some (.string s) => s.size
  | _ => 0
theorem join_lt (n m : ByteArray) (r : List ByteArray) : (joinB (m :: r)).size < (joinB (n :: m :: r)).size := by rw [join_size]; omega
theorem join_mem {parts : List ByteArray} {x : ByteArray} (h : x ∈ parts) : x.size ≤ (joinB parts).size := by
  induction parts with
  | nil => simp at h
  | cons a p ih =>
    cases p with
    | nil => simp at h; subst h; exact Nat.le_refl _
    | cons m r =>
      rw [join_size]
      rcases List.mem_cons.1 h with rfl | h
      · omega
      · have := ih h; omega
theorem join_suffix (pre rest : List ByteArray) (hr : rest ≠ []) : (joinB rest).size ≤ (joinB (pre ++ rest)).size := by
  induction pre with
  | nil => simp
  | cons a p ih =>
    cases h : p ++ rest with
    | nil => simp at h; exact absurd h.2 hr
    | cons m r =>
      rw [h] at ih
      rw [List.cons_append, h, join_size]
      omega
set_option maxRecDepth 20000 in
set_option maxHeartbeats 2000000 in
theorem seq_in (n : Nat) (l Bs Bp Bz : Nat) (parts : List ByteArray) (J Jx : List ByteArray → World → Prop) (hne : parts ≠ []) (h47 : ∀ s ∈ parts, (47 : UInt8) ∉ s.data.toList) (hmax : (joinB parts).size ≤ 1000000)
    (hBx : ∀ pre W, J pre W → W.cell? ⟨Bp, 0, none⟩ = some (.string ⟨#[47]⟩) ∧ W.cell? ⟨Bz, 0, none⟩ = some (.int .i64 0) ∧ W.frozen? ⟨Bs, 0, none⟩ = false)
    (hst : ∀ pre W v, J pre W → J pre (W.setCell ⟨Bs, 0, none⟩ v)) (hsd : Bp ≠ Bs ∧ Bz ≠ Bs)
    (hY : ∀ pre x W, x ∈ parts → J pre W → YieldAt Fence.wide (n - 1) Tryd.prog l #[.string x] W fun e W' =>
      (e = .returned (.bool true) ∧ J (pre ++ [x]) W' ∧ W'.cell? ⟨Bs, 0, none⟩ = W.cell? ⟨Bs, 0, none⟩) ∨ (e = .returned (.bool false) ∧ Jx (pre ++ [x]) W'))
    (W : World) (h0 : J [] W) (hs : W.cell? ⟨Bs, 0, none⟩ = some (.string (joinB parts))) :
    CallsIn Fence.wide n Tryd.prog 84 #[.func (.yield l) #[] #[], .pointer (some ⟨Bp, 0, none⟩), .pointer (some ⟨Bs, 0, none⟩), .pointer (some ⟨Bz, 0, none⟩)] W fun e W' => (∃ v, e = .returned v) ∧ (J parts W' ∨ ∃ pre, pre <+: parts ∧ Jx pre W') := by
  refine callsIn_of_wp Tryd.func84 rfl trivial ?_ rfl
  simp only [Tryd.ntmps84, List.size_toArray, List.length_cons, List.length_nil, Nat.reduceAdd, Nat.reduceSub, Array.replicate_succ, Array.replicate_zero, List.push_toArray, List.append_toArray, List.nil_append, List.cons_append]
  obtain ⟨c1, c2, c3⟩ := hBx [] W h0
  gi_wp2
  have HB := hide hBx
  have HSt := hide hst
  have HY := hide hY
  have H47 := hide h47
  have HMx := hide hmax
  have HI := hide (fun s w => Tryd.strings_Index_one s 47 w)
  obtain ⟨hd1, hd2⟩ := hsd
  clear hBx hst hY h47 c1 c2 c3 hmax
  gi_loopw [7] (fun _ wr => ∃ pre rest : List ByteArray, Hid (parts = pre ++ rest) ∧ Hid (rest ≠ []) ∧ J pre wr ∧ Hid (wr.cell? ⟨Bs, 0, none⟩ = some (.string (joinB rest)))) (fun _ wr => sizeAt Bs wr)
  case atStart => exact ⟨[], parts, rfl, hne, h0, hs⟩
  case round =>
    clear h0 hs
    obtain ⟨pre, rest, hx, hr, hJ, hc⟩ := hrel
    obtain ⟨c1, c2, c3⟩ := unhide HB pre wr hJ
    have hsz : Hid ((joinB rest).size ≤ 1000000) := Nat.le_trans (join_suffix pre rest (unhide hr)) (by rw [← unhide hx]; exact unhide HMx)
    cases rest with
    | nil => exact absurd rfl (unhide hr)
    | cons x rest =>
      have hx47 : (47 : UInt8) ∉ x.data.toList := unhide H47 x (by rw [unhide hx]; simp)
      cases rest with
      | nil =>
        have e1 := hide (index_none x.data.toList hx47)
        have hc' : wr.cell? ⟨Bs, 0, none⟩ = some (.string x) := unhide hc
        obtain ⟨fn, tmps, assign, body, hy, hR⟩ := unhide HY pre x wr (by rw [unhide hx]; simp) hJ
        have HR := hide hR
        clear hR hc
        gi_wp2_with fail
        refine ⟨trivial, fun h => by simp [Fence.wide] at h, ?_⟩
        refine (callsIn_wide.2 (unhide HI _ _)).mono ?_
        rintro e w' ⟨rfl, hw⟩
        rw [hw, unhide e1]
        clear hw w'
        gi_wp2_with fail
        refine ⟨fun h => by simp [Fence.wide] at h, (unhide HR).mono ?_⟩
        rintro e W' (⟨rfl, hJ', -⟩ | ⟨rfl, hJx'⟩)
        · gi_wp2_with fail
          go_end0
          exact ⟨⟨_, rfl⟩, .inl (by rw [unhide hx]; exact hJ')⟩
        · gi_wp2_with fail
          go_end0
          exact ⟨⟨_, rfl⟩, .inr ⟨pre ++ [x], by rw [unhide hx]; exact List.prefix_refl _, hJx'⟩⟩
      | cons m r =>
        have e1 : Hid (Lib.indexByte (joinB (x :: m :: r)).data.toList 47 = (x.size : Int)) := by
          show Lib.indexByte (joinB (x :: m :: r)).data.toList 47 = (x.size : Int)
          rw [join_list, index_at _ _ hx47]; simp
        have e2 := join_head x m r
        have e3 := join_rest x m r
        have hm2 : x.size + 1 ≤ (joinB (x :: m :: r)).size := by rw [join_size]; omega
        have hm3 : x.size ≤ (joinB (x :: m :: r)).size := by omega
        have hm4 : (joinB (x :: m :: r)).size ≤ 1000000 := unhide hsz
        have hlt := hide (join_lt x m r)
        have hc' : wr.cell? ⟨Bs, 0, none⟩ = some (.string (joinB (x :: m :: r))) := unhide hc
        obtain ⟨fn, tmps, assign, body, hy, hR⟩ := unhide HY pre x wr (by rw [unhide hx]; simp) hJ
        have HR := hide hR
        clear hR hc
        generalize joinB (x :: m :: r) = t at *
        gi_wp2_with fail
        refine ⟨trivial, fun h => by simp [Fence.wide] at h, ?_⟩
        refine (callsIn_wide.2 (unhide HI _ _)).mono ?_
        rintro e w' ⟨rfl, hw⟩
        rw [hw, unhide e1]
        clear hw w'
        gi_wp2_with fail
        refine ⟨fun h => by simp [Fence.wide] at h, (unhide HR).mono ?_⟩
        rintro e W' (⟨rfl, hJ', hk⟩ | ⟨rfl, hJx'⟩)
        · obtain ⟨q1, q2, q3⟩ := unhide HB _ W' hJ'
          have q4 : W'.cell? ⟨Bs, 0, none⟩ = some (.string t) := by rw [hk]; exact hc'
          have HJ' := hide hJ'
          have hcs := hide hc'
          clear c1 c2 c3 hJ hk hc' hJ' HR hy
          gi_wp2_with fail
          have hset : (W'.setCell ⟨Bs, 0, none⟩ (.string (joinB (m :: r)))).cell? ⟨Bs, 0, none⟩ = some (.string (joinB (m :: r))) := by simp [go_sem, q4]
          refine ⟨⟨pre ++ [x], m :: r, by show parts = _; rw [unhide hx]; simp, (fun h => by cases h), unhide HSt _ _ _ (unhide HJ'), hset⟩, ?_⟩
          unfold sizeAt
          rw [hset, unhide hcs]
          exact unhide hlt
        · gi_wp2_with fail
          exact bodyPost_ret (v := .tuple #[]) (by simp [results, Tryd.results84]) rfl ⟨⟨_, rfl⟩, .inr ⟨pre ++ [x], ⟨m :: r, by rw [unhide hx]; simp⟩, hJx'⟩⟩
end Go.Proofs.YthfjofmfiklegaaDoor
