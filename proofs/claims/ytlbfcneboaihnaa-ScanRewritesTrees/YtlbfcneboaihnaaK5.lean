import Derived.Shelf.SlSortCmp.WholeK
import Derived.Shelf.Small.Strs
import Derived.Test.YtlbfcneboaihnaaRows
import Derived.Test.YtlbfcneboaihnaaK4
import Derived.Test.YtlbfcneboaihnaaK3
/- slices.SortFunc and strings.Compare at this program: the library's own contracts, in plain words. -/
namespace Go.Proofs.Ytlbfcneboaihnaa
open Go.Shelf
def laysSortF_ren : Go.Shelf.Ren := ⟨fun | 6 => 54 | 15 => 59 | 14 => 67 | 28 => 80 | 29 => 81 | 20 => 89 | 21 => 90 | 22 => 91 | 23 => 92 | 24 => 93 | 25 => 94 | 26 => 95 | 27 => 96 | 46 => 110 | 47 => 102 | 48 => 103 | 49 => 111 | 50 => 112 | 57 => 115 | n => n, fun | 22 => 98 | 24 => 100 | 25 => 103 | 3 => 3 | 39 => 107 | 0 => 0 | 53 => 125 | 55 => 127 | 4 => 4 | 46 => 117 | 45 => 116 | 50 => 122 | 5 => 5 | 9 => 9 | 66 => 137 | 70 => 91 | 76 => 147 | 77 => 59 | n => n, fun | n => n⟩
theorem laysSortF : Go.Proofs.SlLaysF0.n6 Try.prog laysSortF_ren := {
  mixed := by kernel_rfl
  f6 := ⟨Try.f54.name, by decide, Try.func54.trans (congrArg some (by kernel_rfl))⟩
  f14 := ⟨Try.f67.name, by decide, Try.func67.trans (congrArg some (by kernel_rfl))⟩
  f15 := Try.func59.trans (congrArg some (by kernel_rfl))
  f20 := ⟨Try.f89.name, by decide, Try.func89.trans (congrArg some (by kernel_rfl))⟩
  f21 := ⟨Try.f90.name, by decide, Try.func90.trans (congrArg some (by kernel_rfl))⟩
  f22 := ⟨Try.f91.name, by decide, Try.func91.trans (congrArg some (by kernel_rfl))⟩
  f23 := ⟨Try.f92.name, by decide, Try.func92.trans (congrArg some (by kernel_rfl))⟩
  f24 := ⟨Try.f93.name, by decide, Try.func93.trans (congrArg some (by kernel_rfl))⟩
  f25 := ⟨Try.f94.name, by decide, Try.func94.trans (congrArg some (by kernel_rfl))⟩
  f26 := ⟨Try.f95.name, by decide, Try.func95.trans (congrArg some (by kernel_rfl))⟩
  f27 := ⟨Try.f96.name, by decide, Try.func96.trans (congrArg some (by kernel_rfl))⟩
  f28 := Try.func80.trans (congrArg some (by kernel_rfl))
  f29 := Try.func81.trans (congrArg some (by kernel_rfl))
  f46 := ⟨Try.f110.name, by decide, Try.func110.trans (congrArg some (by kernel_rfl))⟩
  f47 := Try.func102.trans (congrArg some (by kernel_rfl))
  f48 := Try.func103.trans (congrArg some (by kernel_rfl))
  f49 := ⟨Try.f111.name, by decide, Try.func111.trans (congrArg some (by kernel_rfl))⟩
  f50 := ⟨Try.f112.name, by decide, Try.func112.trans (congrArg some (by kernel_rfl))⟩
  f57 := ⟨Try.f115.name, by decide, Try.func115.trans (congrArg some (by kernel_rfl))⟩
  t0 := Try.underlying0
  a0 := Try.isAgg0
  z0 := Try.sizeOf0
  v0 := Try.zeroValue0
  t3 := Try.underlying3
  a3 := Try.isAgg3
  z3 := Try.sizeOf3
  v3 := Try.zeroValue3
  t4 := Try.underlying4
  a4 := Try.isAgg4
  z4 := Try.sizeOf4
  v4 := Try.zeroValue4
  t5 := Try.underlying5
  a5 := Try.isAgg5
  z5 := Try.sizeOf5
  v5 := Try.zeroValue5
  t9 := Try.underlying9
  a9 := Try.isAgg9
  z9 := Try.sizeOf9
  v9 := Try.zeroValue9
  t22 := Try.underlying98
  a22 := Try.isAgg98
  z22 := Try.sizeOf98
  v22 := Try.zeroValue98
  t25 := Try.underlying103
  a25 := Try.isAgg103
  z25 := Try.sizeOf103
  v25 := Try.zeroValue103
  t39 := Try.underlying107
  a39 := Try.isAgg107
  z39 := Try.sizeOf107
  v39 := Try.zeroValue107
  t45 := Try.underlying116
  a45 := Try.isAgg116
  z45 := Try.sizeOf116
  v45 := Try.zeroValue116
  t46 := Try.underlying117
  a46 := Try.isAgg117
  z46 := Try.sizeOf117
  v46 := Try.zeroValue117
  t50 := Try.underlying122
  a50 := Try.isAgg122
  z50 := Try.sizeOf122
  v50 := Try.zeroValue122
  t53 := Try.underlying125
  a53 := Try.isAgg125
  z53 := Try.sizeOf125
  v53 := Try.zeroValue125
  t55 := Try.underlying127
  a55 := Try.isAgg127
  z55 := Try.sizeOf127
  v55 := Try.zeroValue127
  t66 := Try.underlying137
  a66 := Try.isAgg137
  z66 := Try.sizeOf137
  v66 := Try.zeroValue137
  t70 := Try.underlying91
  a70 := Try.isAgg91
  z70 := Try.sizeOf91
  v70 := Try.zeroValue91
  t76 := Try.underlying147
  a76 := Try.isAgg147
  z76 := Try.sizeOf147
  v76 := Try.zeroValue147
  t77 := Try.underlying59
  a77 := Try.isAgg59
  z77 := Try.sizeOf59
  v77 := Try.zeroValue59 }
def lays106_ren : Go.Shelf.Ren := ⟨fun | 106 => 56 | 213 => 68 | 265 => 97 | n => n, fun | 9 => 9 | 3 => 3 | n => n, fun | n => n⟩
theorem lays106 : Go.Proofs.Lays.n106 Try.prog lays106_ren := {
  mixed := by kernel_rfl
  f106 := Try.func56.trans (congrArg some (by kernel_rfl))
  f213 := Try.func68.trans (congrArg some (by kernel_rfl))
  f265 := Try.func97.trans (congrArg some (by kernel_rfl))
  t3 := Try.underlying3
  a3 := Try.isAgg3
  z3 := Try.sizeOf3
  v3 := Try.zeroValue3
  t9 := Try.underlying9
  a9 := Try.isAgg9
  z9 := Try.sizeOf9
  v9 := Try.zeroValue9 }
end Go.Proofs.Ytlbfcneboaihnaa
/- Trees whose rows of names and kids are a call's own, apart from each other; and trees that lie in some blocks. -/
namespace Go.Proofs.Ytlbfcneboaihnaa.Tn
open Go.RowKit
/-- A slice whose cells are known, in some of the blocks. -/
def RowP (P : Nat → Prop) (w : World) (v : Value) (n : Nat) (xs : List Value) : Prop :=
  ∃ a c, v = .slice a n c ∧ n ≤ c ∧ (0 < n → ∃ g o, a = some ⟨g, o, none⟩ ∧ P g ∧ ∀ j u, xs[j]? = some u → w.cell? ⟨g, o + j, none⟩ = some u)
/-- A tree lies in some of the blocks. -/
inductive LiesP (P : Nat → Prop) (w : World) : Tr → List Value → Prop
  | mk (k : Int) (x : Bool) (d : ByteArray) (ns : List ByteArray) (ks : List Tr) (vd vn vk : Value) (Ks : List (List Value))
      (hl : Ks.length = ks.length) (hd : RowP P w vd d.size (byteVals d)) (hn : RowP P w vn ns.length (ns.map .string)) (hk : RowP P w vk ks.length Ks.flatten)
      (hK : ∀ (i : Nat) (t : Tr) (c : List Value), ks[i]? = some t → Ks[i]? = some c → LiesP P w t c) : LiesP P w (.mk k x d ns ks) [.int .i64 k, .bool x, vd, vn, vk]
theorem RowP.mono {P Q : Nat → Prop} {w : World} {v : Value} {n : Nat} {xs : List Value} (h : RowP P w v n xs) (hPQ : ∀ k, P k → Q k) : RowP Q w v n xs := by
  obtain ⟨a, c, e, hc, hx⟩ := h
  exact ⟨a, c, e, hc, fun h0 => by obtain ⟨g, o, ea, hg, hcell⟩ := hx h0; exact ⟨g, o, ea, hPQ g hg, hcell⟩⟩
theorem RowP.same {P : Nat → Prop} {w w' : World} {v : Value} {n : Nat} {xs : List Value} (h : RowP P w v n xs) (hs : ∀ k, P k → w'.heap[k]? = w.heap[k]?) : RowP P w' v n xs := by
  obtain ⟨a, c, e, hc, hx⟩ := h
  refine ⟨a, c, e, hc, fun h0 => ?_⟩
  obtain ⟨g, o, ea, hg1, hcell⟩ := hx h0
  exact ⟨g, o, ea, hg1, fun j u hj => by rw [World.cell?_of_block (w := w) (a := ⟨g, o + j, none⟩) (hs g hg1)]; exact hcell j u hj⟩
theorem RowP.row {P : Nat → Prop} {lo hi : Nat} {w : World} {v : Value} {n : Nat} {xs : List Value} (h : RowP P w v n xs) (hP : ∀ k, P k → lo ≤ k ∧ k < hi) : Row lo hi w v n xs := by
  obtain ⟨a, c, e, hc, hx⟩ := h
  exact ⟨a, c, e, hc, fun h0 => by obtain ⟨g, o, ea, hg, hcell⟩ := hx h0; exact ⟨g, o, ea, (hP g hg).1, (hP g hg).2, hcell⟩⟩
theorem RowP.of {lo hi : Nat} {w : World} {v : Value} {n : Nat} {xs : List Value} (h : Row lo hi w v n xs) : RowP (fun k => lo ≤ k ∧ k < hi) w v n xs := by
  obtain ⟨a, c, e, hc, hx⟩ := h
  exact ⟨a, c, e, hc, fun h0 => by obtain ⟨g, o, ea, h1, h2, hcell⟩ := hx h0; exact ⟨g, o, ea, ⟨h1, h2⟩, hcell⟩⟩
theorem LiesP.mono {P Q : Nat → Prop} {w : World} {T : Tr} {cs : List Value} (h : LiesP P w T cs) (hPQ : ∀ k, P k → Q k) : LiesP Q w T cs := by
  induction h with
  | mk k x d ns ks vd vn vk Ks hl hd hn hk hK ih => exact .mk k x d ns ks vd vn vk Ks hl (hd.mono hPQ) (hn.mono hPQ) (hk.mono hPQ) ih
theorem LiesP.same {P : Nat → Prop} {w w' : World} {T : Tr} {cs : List Value} (h : LiesP P w T cs) (hs : ∀ k, P k → w'.heap[k]? = w.heap[k]?) : LiesP P w' T cs := by
  induction h with
  | mk k x d ns ks vd vn vk Ks hl hd hn hk hK ih => exact .mk k x d ns ks vd vn vk Ks hl (hd.same hs) (hn.same hs) (hk.same hs) ih
theorem LiesP.lies {P : Nat → Prop} {lo hi : Nat} {w : World} {T : Tr} {cs : List Value} (h : LiesP P w T cs) (hP : ∀ k, P k → lo ≤ k ∧ k < hi) : Lies lo hi w T cs := by
  induction h with
  | mk k x d ns ks vd vn vk Ks hl hd hn hk hK ih => exact .mk k x d ns ks vd vn vk Ks hl (hd.row hP) (hn.row hP) (hk.row hP) ih
theorem LiesP.length {P : Nat → Prop} {w : World} {T : Tr} {cs : List Value} (h : LiesP P w T cs) : cs.length = 5 := by cases h; rfl
/-- Two spans have nothing in common. -/
def Apart (r s : Nat × Nat) : Prop := r.2 ≤ s.1 ∨ s.2 ≤ r.1
/-- A tree whose data lies somewhere in blocks lo..hi, its names and kids in rows of their own in blocks L..H, those of unlike kids apart. -/
inductive Mine (lo hi : Nat) (w : World) : Nat → Nat → Tr → List Value → Prop
  | mk (L M H : Nat) (k : Int) (x : Bool) (d : ByteArray) (ns : List ByteArray) (ks : List Tr) (vd vn vk : Value) (Ks : List (List Value)) (R : List (Nat × Nat))
      (hl : Ks.length = ks.length) (hR : R.length = ks.length) (hM : L ≤ M ∧ M ≤ H) (hd : Row lo hi w vd d.size (byteVals d))
      (hn : w.ownsRow M 9 1 vn ns.length (ns.map .string)) (hnH : ∀ g, vn.ownBlock = some g → g < H) (hk : w.ownsRow M 34 5 vk ks.length Ks.flatten) (hkH : ∀ g, vk.ownBlock = some g → g < H)
      (hD : R.Pairwise Apart) (hS : ∀ r ∈ R, L ≤ r.1 ∧ r.2 ≤ M)
      (hK : ∀ (i : Nat) (t : Tr) (c : List Value) (r : Nat × Nat), ks[i]? = some t → Ks[i]? = some c → R[i]? = some r → Mine lo hi w r.1 r.2 t c) :
      Mine lo hi w L H (.mk k x d ns ks) [.int .i64 k, .bool x, vd, vn, vk]
theorem Mine.length {lo hi L H : Nat} {w : World} {T : Tr} {cs : List Value} (h : Mine lo hi w L H T cs) : cs.length = 5 := by cases h; rfl
theorem Mine.le {lo hi L H : Nat} {w : World} {T : Tr} {cs : List Value} (h : Mine lo hi w L H T cs) : L ≤ H := by cases h; omega
theorem Mine.same {lo hi L H : Nat} {w w' : World} {T : Tr} {cs : List Value} (h : Mine lo hi w L H T cs) (h1 : ∀ k, lo ≤ k → k < hi → w'.heap[k]? = w.heap[k]?) (h2 : ∀ k, L ≤ k → k < H → w'.heap[k]? = w.heap[k]?) : Mine lo hi w' L H T cs := by
  induction h with
  | mk L M H k x d ns ks vd vn vk Ks R hl hR hM hd hn hnH hk hkH hD hS hK ih =>
    refine .mk L M H k x d ns ks vd vn vk Ks R hl hR hM (hd.same h1) (owns_same hn (fun g hg => h2 g (by have := (owns_lt hn g hg).1; omega) (hnH g hg)) (fun _ _ h => h)) hnH (owns_same hk (fun g hg => h2 g (by have := (owns_lt hk g hg).1; omega) (hkH g hg)) (fun _ _ h => h)) hkH hD hS fun i t c r e1 e2 e3 => ?_
    have := hS r (by obtain ⟨hi, rfl⟩ := List.getElem?_eq_some_iff.1 e3; exact List.getElem_mem hi)
    exact ih i t c r e1 e2 e3 fun k hk1 hk2 => h2 k (by omega) (by omega)
theorem Mine.lies {lo hi L H B : Nat} {w : World} {T : Tr} {cs : List Value} (h : Mine lo hi w L H T cs) (h1 : hi ≤ B) (h2 : H ≤ B) : Lies 0 B w T cs := by
  induction h with
  | mk L M H k x d ns ks vd vn vk Ks R hl hR hM hd hn hnH hk hkH hD hS hK ih =>
    refine .mk k x d ns ks vd vn vk Ks hl (hd.mono (by omega) h1) (owns_row hn fun g hg => ⟨by omega, by have := hnH g hg; omega⟩) (owns_row hk fun g hg => ⟨by omega, by have := hkH g hg; omega⟩) fun i t c e1 e2 => ?_
    obtain ⟨r, hr⟩ : ∃ r, R[i]? = some r := ⟨_, List.getElem?_eq_getElem (by have := (List.getElem?_eq_some_iff.1 e1).1; omega)⟩
    have := hS r (by obtain ⟨hi, rfl⟩ := List.getElem?_eq_some_iff.1 hr; exact List.getElem_mem hi)
    exact ih i t c r e1 e2 hr (by omega)
theorem Mine.wide {lo hi L H L' H' : Nat} {w : World} {T : Tr} {cs : List Value} (h : Mine lo hi w L H T cs) (h1 : L' ≤ L) (h2 : H ≤ H') : Mine lo hi w L' H' T cs := by
  cases h with
  | mk _ M _ k x d ns ks vd vn vk Ks R hl hR hM hd hn hnH hk hkH hD hS hK =>
    exact .mk L' M H' k x d ns ks vd vn vk Ks R hl hR (by omega) hd hn (fun g hg => by have := hnH g hg; omega) hk (fun g hg => by have := hkH g hg; omega) hD (fun r hr => by have := hS r hr; omega) hK
theorem Mine.form {lo hi L H : Nat} {w : World} {T : Tr} {cs : List Value} (h : Mine lo hi w L H T cs) : ∃ k x a1 n1 c1 a2 n2 c2 a3 n3 c3, cs = [.int .i64 k, .bool x, .slice a1 n1 c1, .slice a2 n2 c2, .slice a3 n3 c3] := by
  cases h with
  | mk _ M _ k x d ns ks vd vn vk Ks R hl hR hM hd hn hnH hk hkH hD hS hK =>
    obtain ⟨a1, c1, rfl, _⟩ := hd.slice
    obtain ⟨a2, c2, rfl, _⟩ := owns_slice hn
    obtain ⟨a3, c3, rfl, _⟩ := owns_slice hk
    exact ⟨k, x, a1, _, c1, a2, _, c2, a3, _, c3, rfl⟩
end Go.Proofs.Ytlbfcneboaihnaa.Tn
/- slices.SortFunc of a directory's entries by their names: the library's own contract at this program, in plain words. -/
namespace Go.Proofs.Ytlbfcneboaihnaa.Tn
open Go.Shelf Go.RowKit Go.Lib Go.Sort
set_option linter.unusedSimpArgs false
/-- An entry as it is sorted: its name, its kid's five cells, the kid itself, and the blocks it has. -/
structure Ey where
  s : ByteArray
  k : Int
  x : Bool
  a1 : Option Addr
  n1 : Nat
  c1 : Nat
  a2 : Option Addr
  n2 : Nat
  c2 : Nat
  a3 : Option Addr
  n3 : Nat
  c3 : Nat
  t : Tr
  r : Nat × Nat
instance : Inhabited Ey := ⟨⟨⟨#[]⟩, 0, false, none, 0, 0, none, 0, 0, none, 0, 0, .mk 0 false ⟨#[]⟩ [] [], (0, 0)⟩⟩
def Ey.kid (e : Ey) : List Value := [.int .i64 e.k, .bool e.x, .slice e.a1 e.n1 e.c1, .slice e.a2 e.n2 e.c2, .slice e.a3 e.n3 e.c3]
def encE (e : Ey) : List Value := [.string e.s, .int .i64 e.k, .bool e.x, .slice e.a1 e.n1 e.c1, .slice e.a2 e.n2 e.c2, .slice e.a3 e.n3 e.c3]
def cfE (a b : Ey) : Int := Lib.compareBytes a.s.data.toList b.s.data.toList
theorem cmp_lt : ∀ a b : List UInt8, (Lib.compareBytes a b < 0) ↔ a < b
  | [], [] => by simp [Lib.compareBytes]
  | [], _ :: _ => by simp [Lib.compareBytes]
  | _ :: _, [] => by simp [Lib.compareBytes]
  | a :: p, b :: q => by
    rw [Lib.compareBytes, List.cons_lt_cons_iff, ← cmp_lt p q]
    by_cases h1 : a < b
    · simp [h1]
    · by_cases h2 : b < a
      · have : a ≠ b := fun e => by subst e; exact h1 h2
        simp [h1, h2, this]
      · have : a = b := UInt8.le_antisymm (UInt8.not_lt.1 h2) (UInt8.not_lt.1 h1)
        simp [h1, h2, this]
theorem ltE (a b : Ey) : ltOf cfE a b = decide (a.s.data.toList < b.s.data.toList) := by
  unfold ltOf cfE
  rw [decide_eq_decide]
  exact cmp_lt _ _
theorem swoE : SWO (ltOf cfE) where
  irrefl x := by rw [ltE]; exact decide_eq_false (Ord.irrefl _)
  trans x y z h1 h2 := by
    rw [ltE] at *
    exact decide_eq_true (Ord.trans (of_decide_eq_true h1) (of_decide_eq_true h2))
  ntrans x y z h1 h2 := by
    rw [ltE] at *
    exact decide_eq_false (Ord.le_trans (a := z.s.data.toList) (b := y.s.data.toList) (c := x.s.data.toList) (of_decide_eq_false h2) (of_decide_eq_false h1))
set_option maxHeartbeats 1000000 in
theorem closure55 (x y : Ey) (W : World) : Calls Try.prog 55 #[.agg (encE x).toArray, .agg (encE y).toArray] W fun e w' => e = .returned (.int .i64 (cfE x y)) ∧ ∃ q os', w' = grow (W.drewN q) os' := by
  have hcon := fun W' => Any.strings_Compare lays106 x.s y.s W'
  change ∀ W', Calls Try.prog 56 _ _ _ at hcon
  unfold cfE
  generalize Lib.compareBytes x.s.data.toList y.s.data.toList = r at hcon ⊢
  unfold encE
  go_enter Try.func55, Try.ntmps55
  go_wp2_with (go_at_call 56; refine (hcon _).mono ?_; rintro e w' ⟨rfl, rfl⟩)
  go_ret
  exact ⟨rfl, 0, _, by rw [alloc_eq_grow, alloc_eq_grow, grow_grow]; rfl⟩
theorem sortE (blk cap : Nat) (d : Array Ey) (w : World) (hH : HoldsK encE 6 w blk 0 d) (hblk : blk < w.heap.size) (hsz : d.size < 4611686018427387904) :
    Calls Try.prog 54 #[.slice (some ⟨blk, 0, none⟩) d.size cap, .func (.func 55) #[] #[]] w fun e w' => e = .returned (.tuple #[]) ∧ ∃ d' n os, PermIn 0 d.size d d' ∧ SortedIn (ltOf cfE) 0 d.size d' ∧ w' = sortWorldK encE 6 w blk 0 n d' os :=
  AnyQ.slices_SortFunc laysSortF 6 Try.isAgg100 Try.sizeOf100 encE (fun _ => rfl) (fun x v hv => by simp [encE] at hv; rcases hv with rfl | rfl | rfl | rfl | rfl | rfl <;> rfl) cfE swoE 55 #[] blk 0 cap d w (enters_of Try.func55 (by kernel_rfl) rfl) (fun m os dk _ x y => closure55 x y _) hH hblk hsz
/-- What was sorted, as lists. -/
theorem sorted_list {d d' : Array Ey} (hp : PermIn 0 d.size d d') (hs : SortedIn (ltOf cfE) 0 d.size d') : d'.toList.Perm d.toList ∧ d'.toList.Pairwise fun a b => ¬ b.s.toList < a.s.toList := by
  obtain ⟨h1, _, h2⟩ := hp
  constructor
  · have e1 : d'.extract 0 d.size = d' := by rw [← h1]; simp
    have e2 : d.extract 0 d.size = d := by simp
    rwa [e1, e2] at h2
  · rw [List.pairwise_iff_getElem]
    intro i j hi hj hij
    have := hs i j (Nat.zero_le _) hij (by simp at hj; omega)
    rw [ltE] at this
    have h3 := of_decide_eq_false this
    simp at hi hj
    rw [getElem!_pos d' i hi, getElem!_pos d' j hj] at h3
    rw [Lib.toList_data, Lib.toList_data]; exact h3
end Go.Proofs.Ytlbfcneboaihnaa.Tn
/- Entries gathered into a node's rows of names and kids. -/
namespace Go.Proofs.Ytlbfcneboaihnaa.Tn
open Go.RowKit
set_option linter.unusedSimpArgs false
theorem owns_ne {w : World} {b1 b2 : Nat} {e1 e2 : TypeId} {s1 s2 : Nat} {v1 v2 : Value} {n1 n2 : Nat} {x1 x2 : List Value} (h1 : w.ownsRow b1 e1 s1 v1 n1 x1) (h2 : w.ownsRow b2 e2 s2 v2 n2 x2) (hne : e1 ≠ e2) {g : Nat} (hg : v1.ownBlock = some g) : v2.ownBlock ≠ some g := fun hg2 => by
  rcases h1.2 with ⟨e, _⟩ | ⟨g1, _, cur1, e', _, hh1, _⟩
  · rw [e] at hg; simp [Value.ownBlock] at hg
  rcases h2.2 with ⟨e, _⟩ | ⟨g2, _, cur2, e'', _, hh2, _⟩
  · rw [e] at hg2; simp [Value.ownBlock] at hg2
  rw [e'] at hg
  rw [e''] at hg2
  simp [Value.ownBlock] at hg hg2
  subst hg
  subst hg2
  rw [hh1] at hh2
  injection hh2 with hh2
  injection hh2 with _ h _
  exact hne h
/-- So many names, and so many kids, are gathered. -/
structure Gat (es : List Ey) (OB i j : Nat) (k : Int) (x : Bool) (vd vn vk : Value) (ws wr : World) : Prop where
  os : wr.os = ws.os
  tape : wr.tape = ws.tape
  output : wr.output = ws.output
  size : ws.heap.size ≤ wr.heap.size
  rest : ∀ k, k < ws.heap.size → k ≠ OB → wr.heap[k]? = ws.heap[k]?
  box : Bx wr OB (.int .i64 k) (.bool x) vd vn vk
  nms : wr.ownsRow ws.heap.size 9 1 vn i ((es.take i).map fun e => .string e.s)
  kds : wr.ownsRow ws.heap.size 34 5 vk j ((es.take j).map Ey.kid).flatten
theorem Gat.alloc {es : List Ey} {OB i j : Nat} {k : Int} {x : Bool} {vd vn vk : Value} {ws wr : World} (h : Gat es OB i j k x vd vn vk ws wr) (o : Obj) : Gat es OB i j k x vd vn vk ws (wr.alloc o) := by
  have hb : Below wr.heap.size wr (wr.alloc o) := (Below.refl _ _).alloc (Nat.le_refl _) _
  exact ⟨h.os, h.tape, h.output, by have := h.size; simp; omega, fun k hk hne => by rw [hb.block k (by have := h.size; omega)]; exact h.rest k hk hne, h.box.kept hb h.box.lt, World.ownsRow.alloc h.nms _, World.ownsRow.alloc h.kds _⟩
theorem gat_name {es : List Ey} {OB i j : Nat} {k : Int} {x : Bool} {vd vn vk : Value} {ws wr : World} (h : Gat es OB i j k x vd vn vk ws wr) (hi : i < es.length) (hOB : OB < ws.heap.size) (hmax : i ≤ 300) :
    ∃ a c W3, (∀ ty, (app23 ty #[vn, .slice (some ⟨wr.heap.size, 0, none⟩) 1 1]).run Try.prog (wr.alloc (.cells #[.string es[i].s] 9)) = .ok (.slice a (i + 1) c) W3) ∧ Gat es OB (i + 1) j k x vd (.slice a (i + 1) c) vk ws (W3.setCell ⟨OB, 3, none⟩ (.slice a (i + 1) c)) ∧ W3.heap.size ≥ wr.heap.size ∧ (∀ q, q < wr.heap.size → vn.ownBlock ≠ some q → W3.heap[q]? = wr.heap[q]?) := by
  have hb1 : Below wr.heap.size wr (wr.alloc (.cells #[.string es[i].s] 9)) := (Below.refl _ _).alloc (Nat.le_refl _) _
  have hz := h.size
  obtain ⟨v', W3, happ, ho, hg, hf⟩ := app23_own (wr.alloc (.cells #[.string es[i].s] 9)) ws.heap.size _ _ vn i _ _ 1 1 [.string es[i].s] (World.ownsRow.alloc h.nms _) (one_row wr [.string es[i].s] 9) rfl (fun u hu => by simp at hu; subst hu; rfl) (by omega) (by simp; omega)
  obtain ⟨a, c, rfl, _⟩ := owns_slice ho
  have hzg := hg.size
  have hs1 : (wr.alloc (.cells #[.string es[i].s] 9)).heap.size = wr.heap.size + 1 := by simp
  rw [hs1] at hzg
  have hnm := owns_lt h.nms
  have hblk : ∀ q, q < wr.heap.size → vn.ownBlock ≠ some q → W3.heap[q]? = wr.heap[q]? := fun q hq hne => by rw [hg.block q (by omega) (fun e => hne e.symm), hb1.block q hq]
  have hbx3 : Bx W3 OB (.int .i64 k) (.bool x) vd vn vk := h.box.of (hblk OB (by omega) fun e => by have := (hnm OB e).1; omega)
  have hOBv : ∀ g, (Value.slice a (i + 1) c).ownBlock = some g → g ≠ OB := fun g hg' => by have := (owns_lt ho g hg').1; omega
  refine ⟨a, c, W3, happ, ⟨?_, ?_, ?_, by simp; omega, fun q hq hne => ?_, hbx3.set3 _, ?_, ?_⟩, by omega, hblk⟩
  · exact hg.os.trans h.os
  · exact hg.tape.trans h.tape
  · exact hg.output.trans h.output
  · rw [set_other _ _ _ _ _ hne, hblk q (by omega) fun e => by have := (hnm q e).1; omega]; exact h.rest q hq hne
  · have e : (es.take (i + 1)).map (fun e => Value.string e.s) = (es.take i).map (fun e => Value.string e.s) ++ [.string es[i].s] := by rw [List.take_succ_eq_append_getElem hi, List.map_append]; rfl
    rw [e]
    exact owns_same ho (fun g hg' => set_other _ _ _ _ _ (hOBv g hg')) fun _ _ h => h
  · have hkd := owns_lt h.kds
    exact owns_same h.kds (fun g hg' => by rw [set_other _ _ _ _ _ (by have := (hkd g hg').1; omega), hblk g (hkd g hg').2 (owns_ne h.kds h.nms (by decide) hg')]) fun _ _ h => h
theorem gat_kid {es : List Ey} {OB i j : Nat} {k : Int} {x : Bool} {vd vn vk : Value} {ws wr : World} (h : Gat es OB i j k x vd vn vk ws wr) (hj : j < es.length) (hOB : OB < ws.heap.size) (hmax : j ≤ 300) :
    ∃ a c W3, (∀ ty, (app24 ty #[vk, .slice (some ⟨wr.heap.size, 0, none⟩) 1 1]).run Try.prog (wr.alloc (.cells es[j].kid.toArray 34)) = .ok (.slice a (j + 1) c) W3) ∧ Gat es OB i (j + 1) k x vd vn (.slice a (j + 1) c) ws (W3.setCell ⟨OB, 4, none⟩ (.slice a (j + 1) c)) ∧ Bx W3 OB (.int .i64 k) (.bool x) vd vn vk := by
  have hb1 : Below wr.heap.size wr (wr.alloc (.cells es[j].kid.toArray 34)) := (Below.refl _ _).alloc (Nat.le_refl _) _
  have hz := h.size
  obtain ⟨v', W3, happ, ho, hg, hf⟩ := app24_own (wr.alloc (.cells es[j].kid.toArray 34)) ws.heap.size _ _ vk j _ _ 1 1 es[j].kid (World.ownsRow.alloc h.kds _) (one_row wr es[j].kid 34) rfl (fun u hu => by simp [Ey.kid] at hu; rcases hu with rfl | rfl | rfl | rfl | rfl <;> rfl) (by omega) (by simp; omega)
  obtain ⟨a, c, rfl, _⟩ := owns_slice ho
  have hzg := hg.size
  have hs1 : (wr.alloc (.cells es[j].kid.toArray 34)).heap.size = wr.heap.size + 1 := by simp
  rw [hs1] at hzg
  have hnm := owns_lt h.kds
  have hblk : ∀ q, q < wr.heap.size → vk.ownBlock ≠ some q → W3.heap[q]? = wr.heap[q]? := fun q hq hne => by rw [hg.block q (by omega) (fun e => hne e.symm), hb1.block q hq]
  have hbx3 : Bx W3 OB (.int .i64 k) (.bool x) vd vn vk := h.box.of (hblk OB (by omega) fun e => by have := (hnm OB e).1; omega)
  have hOBv : ∀ g, (Value.slice a (j + 1) c).ownBlock = some g → g ≠ OB := fun g hg' => by have := (owns_lt ho g hg').1; omega
  refine ⟨a, c, W3, happ, ⟨?_, ?_, ?_, by simp; omega, fun q hq hne => ?_, hbx3.set4 _, ?_, ?_⟩, hbx3⟩
  · exact hg.os.trans h.os
  · exact hg.tape.trans h.tape
  · exact hg.output.trans h.output
  · rw [set_other _ _ _ _ _ hne, hblk q (by omega) fun e => by have := (hnm q e).1; omega]; exact h.rest q hq hne
  · have hkd := owns_lt h.nms
    exact owns_same h.nms (fun g hg' => by rw [set_other _ _ _ _ _ (by have := (hkd g hg').1; omega), hblk g (hkd g hg').2 (owns_ne h.nms h.kds (by decide) hg')]) fun _ _ h => h
  · have e : ((es.take (j + 1)).map Ey.kid).flatten = ((es.take j).map Ey.kid).flatten ++ es[j].kid := by rw [List.take_succ_eq_append_getElem hj, List.map_append, List.flatten_append]; simp
    rw [e]
    exact owns_same ho (fun g hg' => set_other _ _ _ _ _ (hOBv g hg')) fun _ _ h => h
/-- All gathered: the node is the call's own. -/
theorem gat_end {es : List Ey} {OB N lo hi L : Nat} {k : Int} {x : Bool} {d : ByteArray} {vd vn vk : Value} {ws wr w' : World} (h : Gat es OB N N k x vd vn vk ws wr) (hN : es.length = N) (hd : Row lo hi ws vd d.size (byteVals d)) (hhi : hi ≤ OB) (hOB : OB < ws.heap.size) (hL : L ≤ ws.heap.size)
    (hK : ∀ e ∈ es, L ≤ e.r.1 ∧ e.r.2 ≤ OB ∧ Mine lo hi ws e.r.1 e.r.2 e.t e.kid) (hA : es.Pairwise fun a b => Apart a.r b.r) (hw : ∀ q, (q < hi ∨ (L + 3 ≤ q ∧ q ≠ OB)) → w'.heap[q]? = wr.heap[q]?) (hL3 : ∀ e ∈ es, L + 3 ≤ e.r.1) (hsz : w'.heap.size = wr.heap.size) (hLs : L + 3 ≤ ws.heap.size) :
    Mine lo hi w' L w'.heap.size (.mk k x d (es.map fun e => e.s) (es.map fun e => e.t)) [.int .i64 k, .bool x, vd, vn, vk] := by
  have hz := h.size
  have hnm := h.nms
  have hkd := h.kds
  rw [List.take_of_length_le (by omega)] at hnm hkd
  have hn' := owns_lt hnm
  have hk' := owns_lt hkd
  refine .mk L ws.heap.size _ k x d _ _ vd vn vk (es.map Ey.kid) (es.map fun e => e.r) (by simp) (by simp) ⟨hL, by omega⟩ ?_ ?_ (fun g hg => by have := (hn' g hg).2; omega) ?_ (fun g hg => by have := (hk' g hg).2; omega) ?_ ?_ ?_
  · exact hd.same fun q _ hq => by rw [hw q (.inl hq)]; exact h.rest q (by omega) (by omega)
  · rw [List.length_map, hN, List.map_map]
    exact owns_same hnm (fun g hg => hw g (.inr (by have := hn' g hg; omega))) fun _ _ h => h
  · rw [List.length_map, hN]
    exact owns_same hkd (fun g hg => hw g (.inr (by have := hk' g hg; omega))) fun _ _ h => h
  · rw [List.pairwise_map]; exact hA
  · intro r hr
    obtain ⟨e, he, rfl⟩ := List.mem_map.1 hr
    have := hK e he
    omega
  · intro q t c r h1 h2 h3
    rw [List.getElem?_map] at h1 h2 h3
    obtain ⟨e, he, rfl⟩ := Option.map_eq_some_iff.1 h1
    rw [he] at h2 h3
    injection h2 with h2
    injection h3 with h3
    subst h2
    subst h3
    have hm : e ∈ es := by obtain ⟨hi, rfl⟩ := List.getElem?_eq_some_iff.1 he; exact List.getElem_mem hi
    obtain ⟨q1, q2, q3⟩ := hK e hm
    have q4 := hL3 e hm
    exact q3.same (fun b _ hb => by rw [hw b (.inl hb)]; exact h.rest b (by omega) (by omega)) (fun b hb1 hb2 => by rw [hw b (.inr (by omega))]; exact h.rest b (by omega) (by omega))
end Go.Proofs.Ytlbfcneboaihnaa.Tn
/- A row of entries: one is set; what sorting leaves. -/
namespace Go.Proofs.Ytlbfcneboaihnaa.Tn
open Go.Shelf Go.RowKit Go.Lib Go.Sort
theorem encE_length (e : Ey) : (encE e).length = 6 := rfl
/-- One entry is set. -/
theorem set_entry {w : World} {E : Nat} {d : Array Ey} (h : HoldsK encE 6 w E 0 d) (i : Nat) (hi : i < d.size) (e : Ey) : HoldsK encE 6 (w.setCells E (i * 6) (encE e)) E 0 (d.setIfInBounds i e) := by
  have h1 := holds_setCells_c h (i * 6) (encE e) (by rw [size_flatK, encE_length]; omega)
  rw [Nat.zero_add] at h1
  intro j hj
  rw [size_flatK, Array.size_setIfInBounds] at hj
  have h2 := h1 j (by rw [size_setMany, size_flatK]; exact hj)
  rw [get_setMany _ _ _ _ (by rw [size_flatK]; exact hj), get_flatK _ _ _ _ hj, encE_length] at h2
  rw [get_flatK _ _ _ _ (by rw [Array.size_setIfInBounds]; exact hj)]
  have hjd : j / 6 < d.size := by omega
  by_cases hin : i * 6 ≤ j ∧ j < i * 6 + 6
  · rw [if_pos hin] at h2
    have e1 : j / 6 = i := by omega
    rw [e1, getElem!_set_same d i e hi, show j % 6 = j - i * 6 by omega]
    exact h2
  · rw [if_neg hin] at h2
    rw [getElem!_pos (d.setIfInBounds i e) (j / 6) (by simpa using hjd), Array.getElem_setIfInBounds_ne (by simpa using hjd) (by omega), ← getElem!_pos d (j / 6) hjd]
    exact h2
/-- The cells of an entry. -/
theorem entry_cells {w : World} {E : Nat} {d : Array Ey} (h : HoldsK encE 6 w E 0 d) (i : Nat) (hi : i < d.size) :
    w.cell? ⟨E, i * 6, none⟩ = some (.string d[i].s) ∧ w.cell? ⟨E, i * 6 + 1, none⟩ = some (.int .i64 d[i].k) ∧ w.cell? ⟨E, i * 6 + 2, none⟩ = some (.bool d[i].x) ∧ w.cell? ⟨E, i * 6 + 3, none⟩ = some (.slice d[i].a1 d[i].n1 d[i].c1) ∧ w.cell? ⟨E, i * 6 + 4, none⟩ = some (.slice d[i].a2 d[i].n2 d[i].c2) ∧ w.cell? ⟨E, i * 6 + 5, none⟩ = some (.slice d[i].a3 d[i].n3 d[i].c3) := by
  have e := getElem!_pos d i hi
  refine ⟨?_, ?_, ?_, ?_, ?_, ?_⟩
  · have := (h.cell hi (show 0 < 6 by omega)).1; rw [e, Nat.zero_add] at this; exact this
  · have := (h.cell hi (show 1 < 6 by omega)).1; rw [e, Nat.zero_add] at this; exact this
  · have := (h.cell hi (show 2 < 6 by omega)).1; rw [e, Nat.zero_add] at this; exact this
  · have := (h.cell hi (show 3 < 6 by omega)).1; rw [e, Nat.zero_add] at this; exact this
  · have := (h.cell hi (show 4 < 6 by omega)).1; rw [e, Nat.zero_add] at this; exact this
  · have := (h.cell hi (show 5 < 6 by omega)).1; rw [e, Nat.zero_add] at this; exact this
theorem entry_fr {w : World} {E : Nat} {d : Array Ey} (h : HoldsK encE 6 w E 0 d) (i c : Nat) (hi : i < d.size) (hc : c < 6) : w.frozen? ⟨E, i * 6 + c, none⟩ = false := by
  have := (h.cell hi hc).2; rwa [Nat.zero_add] at this
theorem holds_same {w w' : World} {E : Nat} {d : Array Ey} (h : HoldsK encE 6 w E 0 d) (hs : w'.heap[E]? = w.heap[E]?) : HoldsK encE 6 w' E 0 d := fun j hj => by
  have := h j hj
  refine ⟨by rw [World.cell?_of_block (w := w) (a := ⟨E, 0 + j, none⟩) hs]; exact this.1, ?_⟩
  have h2 := this.2
  unfold World.frozen? at *
  rw [hs]; exact h2
/-- Sorting turns the row alone, and lays blocks behind. -/
theorem sortWorld_other (w : World) (E n : Nat) (d : Array Ey) (os : Array Obj) : (∀ k, k < w.heap.size → k ≠ E → (sortWorldK encE 6 w E 0 n d os).heap[k]? = w.heap[k]?) ∧ w.heap.size ≤ (sortWorldK encE 6 w E 0 n d os).heap.size ∧ (sortWorldK encE 6 w E 0 n d os).os = w.os ∧ (sortWorldK encE 6 w E 0 n d os).tape = w.tape ∧ (sortWorldK encE 6 w E 0 n d os).output = w.output := by
  have hsz : (putRowK encE 6 (Go.Sort.ahead w n) E 0 d).heap.size = w.heap.size := by simp [putRowK, putRow, mapBlock, Go.Sort.ahead]
  refine ⟨fun k hk hne => ?_, ?_, ?_, ?_, ?_⟩
  · show ((putRowK encE 6 (Go.Sort.ahead w n) E 0 d).heap ++ os)[k]? = _
    rw [Array.getElem?_append_left (by omega)]
    simp [putRowK, putRow, mapBlock, Go.Sort.ahead, Array.getElem?_modify, Ne.symm hne]
  · show _ ≤ ((putRowK encE 6 (Go.Sort.ahead w n) E 0 d).heap ++ os).size
    rw [Array.size_append]; omega
  all_goals rfl
theorem sortWorld_holds {w : World} {E n : Nat} {d0 d : Array Ey} {os : Array Obj} (h0 : HoldsK encE 6 w E 0 d0) (hs : d.size = d0.size) (hE : E < w.heap.size) : HoldsK encE 6 (sortWorldK encE 6 w E 0 n d os) E 0 d := by
  have hsz : (putRowK encE 6 (Go.Sort.ahead w n) E 0 d).heap.size = w.heap.size := by simp [putRowK, putRow, mapBlock, Go.Sort.ahead]
  exact holdsK_grow encE 6 _ os E 0 d (by omega) (holdsK_putRowK encE 6 (Go.Sort.ahead w n) E 0 d0 d (holdsK_ahead encE 6 w n E 0 d0 h0) hs)
theorem info100 : ∃ i, Try.prog.info? 100 = some i ∧ i.zero = some (.agg #[.string ⟨#[]⟩, .int .i64 0, .bool false, .slice none 0 0, .slice none 0 0, .slice none 0 0]) ∧ i.size = 6 ∧ i.bytes = 104 := info_at _ _ _ _ (by kernel_rfl)
/-- Entries are made. -/
theorem makeE (w : World) (N : Nat) (hN : N ≤ 300) : ∃ w1, (Instr.makeSlice 98 (.int .i64 (N : Int)) (.int .i64 (N : Int))).run Try.prog w = .ok (.slice (some ⟨w.heap.size, 0, none⟩) N N) w1 ∧ Go.RowKit.Below w.heap.size w w1 ∧ w1.heap.size = w.heap.size + 1 ∧ ∃ d : Array Ey, d.size = N ∧ HoldsK encE 6 w1 w.heap.size 0 d := by
  obtain ⟨i, hi, hz, hs, hb⟩ := info100
  have hr := run_make (P := Try.prog) w 98 100 i _ Try.underlying98 hi hz .i64 .i64 (N : Int) (N : Int) (by omega) (Int.le_refl _) (by rw [hb]; omega) (by omega)
  simp only [Int.toNat_natCast, hs] at hr
  refine ⟨_, hr, (Go.RowKit.Below.refl _ _).alloc (Nat.le_refl _) _, by simp, Array.replicate N default, by simp, fun j hj => ?_⟩
  rw [size_flatK, Array.size_replicate] at hj
  rw [get_flatK _ _ _ _ (by rw [Array.size_replicate]; exact hj)]
  have hc : (w.alloc (.cells (madeCells (Value.agg #[.string ⟨#[]⟩, .int .i64 0, .bool false, .slice none 0 0, .slice none 0 0, .slice none 0 0]).cells (N * 6)) 100)).heap[w.heap.size]? = some (.cells (madeCells (Value.agg #[.string ⟨#[]⟩, .int .i64 0, .bool false, .slice none 0 0, .slice none 0 0, .slice none 0 0]).cells (N * 6)) 100) := by
    show (w.heap.push _)[w.heap.size]? = _
    rw [Array.getElem?_push, if_pos rfl]
  refine ⟨?_, by unfold World.frozen?; rw [hc]; simp⟩
  rw [cell_of_row _ _ _ _ _ _ hc, Nat.zero_add]
  have e1 : (Array.replicate N (default : Ey))[j / 6]! = default := by rw [getElem!_pos _ _ (by rw [Array.size_replicate]; omega)]; simp
  rw [e1]
  have h6 : (Value.agg #[.string ⟨#[]⟩, .int .i64 0, .bool false, .slice none 0 0, .slice none 0 0, .slice none 0 0]).cells = (encE default).toArray := rfl
  rw [h6]
  unfold madeCells
  rw [Array.getElem?_map, Array.getElem?_eq_getElem (by simpa using hj)]
  simp [encE_length]
end Go.Proofs.Ytlbfcneboaihnaa.Tn
