/- change: what all things ask first, the thing, and what is pending. -/
import Derived.Test.YtbnbakcoomjnaaaGk
import Derived.LoopN
namespace Go.Proofs.Ytbnbakcoomjnaaa
open Go.RowKit Go.Maps
set_option linter.unusedSimpArgs false
section
variable {w : World} {f : Nat} {lk : Int} {S : Fs} {X : List Th} {O : Nat → Prop} {K : Nat → Option (List UInt8)} {n l : Lie} {pv : Value} {ps : List Value}
set_option maxRecDepth 20000 in
theorem dead_not (h : FsM w f lk S X O K n l pv ps) (hf : S.fuse ≠ some 0) : Calls Try.prog 38 #[.pointer (some ⟨f, 0, none⟩)] w fun e w' => e = .returned (.bool false) ∧ w' = w := by
  obtain ⟨_, _, _, _, _, _, _, h8, h9, _⟩ := h.cells
  cases hs : S.fuse with
  | none =>
    rw [hs] at h8
    exact dead_no f w h8
  | some k =>
    cases k with
    | zero => exact absurd hs hf
    | succ k =>
      rw [hs] at h8 h9
      simp only [Option.isSome_some, Option.getD_some] at h8 h9
      clear h hf hs
      go_enter Try.func38, Try.ntmps38
      go_wp2_with fail
      go_ret
      have e : decide (((k + 1 : Nat) : Int) = 0) = false := decide_eq_false (by omega)
      refine ⟨?_, rfl⟩
      first | rfl | (rw [← e]; rfl) | (simp; omega)
set_option maxRecDepth 20000 in
theorem dead_yes (h : FsM w f lk S X O K n l pv ps) (hf : S.fuse = some 0) : Calls Try.prog 38 #[.pointer (some ⟨f, 0, none⟩)] w fun e w' => e = .returned (.bool true) ∧ w' = w := by
  obtain ⟨_, _, _, _, _, _, _, h8, h9, _⟩ := h.cells
  rw [hf] at h8 h9
  simp only [Option.isSome_some, Option.getD_some] at h8 h9
  clear h hf
  go_enter Try.func38, Try.ntmps38
  go_wp2_with fail
  go_ret
  exact ⟨rfl, rfl⟩
set_option maxRecDepth 20000 in
theorem FsM.burnt (h : FsM w f lk S X O K n l pv ps) (hf : S.fuse ≠ some 0) : ∃ w', Calls Try.prog 40 #[.pointer (some ⟨f, 0, none⟩)] w (fun e w2 => e = .returned (.tuple #[]) ∧ w2 = w') ∧ FsM w' f lk { S with fuse := S.fuse.map Nat.pred } X O K n l pv ps ∧ FFr O O w w' := by
  obtain ⟨_, _, _, _, _, _, _, h8, h9, hz⟩ := h.cells
  cases hs : S.fuse with
  | none =>
    refine ⟨w, ?_, ?_, FFr.refl _ _⟩
    · rw [hs] at h8
      exact burn_no f w h8
    · exact h.reset rfl rfl rfl rfl (by have := h.fz; simp [hs]) (Nat.le_refl _) (by rw [h.blk]; simp [fsBlk, hs]) (fun _ _ _ => rfl)
  | some k =>
    cases k with
    | zero => exact absurd hs hf
    | succ k =>
      rw [hs] at h8 h9
      simp only [Option.isSome_some, Option.getD_some] at h8 h9
      have hfz : k + 1 ≤ 9223372036854775807 := by have := h.fz; rw [hs] at this; simpa using this
      refine ⟨w.setCell ⟨f, 9, none⟩ (.int .i64 (k : Int)), ?_, ?_, ⟨rfl, rfl, rfl, by rw [size_set]; exact Nat.le_refl _, fun q _ hq => set_other _ _ _ _ _ (fun e => hq (e ▸ h.of)), fun _ o => .inl o⟩⟩
      · have hz9 := hz 9
        have HW : Hid (Go.RowKit.wrap64 (k : Int) = (k : Int)) := by show Go.RowKit.wrap64 (k : Int) = _; first | (rw [← IntKind.wrap_i64]; exact wrap64 (by omega)) | (unfold Go.RowKit.wrap64; omega)
        clear h hf hs hz hfz
        go_enter Try.func40, Try.ntmps40
        go_wp2_with fail
        go_end0
        exact ⟨rfl, by rw [unhide HW]⟩
      · refine h.reset rfl rfl rfl rfl (by simp; omega) (by rw [size_set]; exact Nat.le_refl _) ?_ (fun q _ hne => set_other _ _ _ _ _ hne)
        have := h.blk
        simp [World.setCell, Array.getElem?_modify, this, fsBlk, hs]
end
/-- A FS behind a thing. -/
def Fs.done (S : Fs) (T : Tb) (t : Th) : Fs := ⟨S.room, T, S.las, S.pend ++ [t], S.fuse.map Nat.pred⟩
/-- A function that is entered. -/
def Enters (fn : Nat) : Prop := ∀ (args : Array Value) (w : World), (callFunc fn args).run Try.prog w = .ok (.enter fn args) w
theorem enters_of {fn : Nat} {fd : Func} (h : Try.prog.funcs[fn]? = some fd) (h1 : (fd.name == "runtime.NumGoroutine") = false) (h2 : fd.body.isNone = false) : Enters fn := fun args w => by
  have h1' : ¬ fd.name = "runtime.NumGoroutine" := by simpa using h1
  have h2' : ¬ fd.body = none := by
    intro e
    rw [e] at h2
    simp at h2
  simp [callFunc, go_sem, h, h1', h2']
set_option maxRecDepth 20000 in
theorem enters28 : Enters 28 := enters_of Try.func28 (by kernel_rfl) (by kernel_rfl)
set_option maxRecDepth 20000 in
theorem enters57 : Enters 57 := enters_of Try.func57 (by kernel_rfl) (by kernel_rfl)
set_option maxRecDepth 20000 in
theorem enters60 : Enters 60 := enters_of Try.func60 (by kernel_rfl) (by kernel_rfl)
set_option maxRecDepth 20000 in
theorem enters34 : Enters 34 := enters_of Try.func34 (by kernel_rfl) (by kernel_rfl)
set_option maxRecDepth 20000 in
theorem enters58 : Enters 58 := enters_of Try.func58 (by kernel_rfl) (by kernel_rfl)
set_option maxRecDepth 20000 in
theorem enters61 : Enters 61 := enters_of Try.func61 (by kernel_rfl) (by kernel_rfl)
/-- What a plan leaves that did not err. -/
def Ready (f : Nat) (S : Fs) (O : Nat → Prop) (T : Tb) (t : Th) (k : Nat) (w1 w2 : World) (fn : Nat) (a b : Value) : Prop :=
  Enters fn ∧ ∃ O2 K n l pv ps, FsM w2 f 1 S S.pend O2 K n l pv ps ∧ n.k ≤ k ∧ FFr O O2 w1 w2 ∧ ThIs w2 K O2 (.func (.func fn) #[] #[a, b]) t ∧
    Calls Try.prog fn #[.pointer (some ⟨f, 3, none⟩), a, b] w2 (fun e w3 => e = .returned (.tuple #[]) ∧ ∃ n', n'.k ≤ k + 3 ∧ (∀ i, ¬ n'.e i) ∧ FsM w3 f 1 { S with now := T } (S.pend ++ [t]) (grow O2 w2 w3) K n' l pv ps ∧ FFr O2 (grow O2 w2 w3) w2 w3 ∧ ThIs w3 K (grow O2 w2 w3) (.func (.func fn) #[] #[a, b]) t)
def app65 (ty : TypeId) (args : Array Value) : Sem Value := Builtin.append_ #[65, 65] ty args
@[go_sem ↓] theorem append_app65 (ty : TypeId) (args : Array Value) : Builtin.append_ #[65, 65] ty args = app65 ty args := rfl
theorem info70 : ∃ i z, Try.prog.info? 70 = some i ∧ i.zero = some z ∧ i.size = 1 ∧ i.bytes = 8 ∧ z.cells.size = 1 := by
  have h : (Try.prog.info? 70).map (fun i => (i.zero.map (fun z => z.cells.size), i.size, i.bytes)) = some (some 1, 1, 8) := by kernel_rfl
  cases hq : Try.prog.info? 70 with
  | none => simp [hq] at h
  | some i =>
    simp [hq] at h
    obtain ⟨⟨z, hz, h1⟩, h2, h3⟩ := h
    exact ⟨i, z, rfl, hz, h2, h3, h1⟩
/-- What is pending grows, in a world that stands. -/
theorem pend_grows {w : World} {f : Nat} {lk : Int} {S : Fs} {X : List Th} {O : Nat → Prop} {K : Nat → Option (List UInt8)} {n l : Lie} {pv : Value} {ps : List Value} {t : Th} {fn : Nat} {a b : Value} (h : FsM w f lk S X O K n l pv ps) (hv : ThIs w K O (.func (.func fn) #[] #[a, b]) t) (hp : S.pend.length < 16383) :
    ∃ pv' w3, (∀ ty, (app65 ty #[pv, .slice (some ⟨w.heap.size, 0, none⟩) 1 1]).run Try.prog (w.alloc (.cells #[.func (.func fn) #[] #[a, b]] 70)) = .ok pv' w3) ∧ w3.cell? ⟨f, 7, none⟩ = some pv ∧ w3.frozen? ⟨f, 7, none⟩ = false ∧ (∃ a' c', pv' = .slice a' (S.pend.length + 1) c') ∧
      FsM (w3.setCell ⟨f, 7, none⟩ pv') f lk { S with pend := S.pend ++ [t] } X (grow O w w3) K n l pv' (ps ++ [.func (.func fn) #[] #[a, b]]) ∧ FFr O (grow O w w3) w (w3.setCell ⟨f, 7, none⟩ pv') := by
  obtain ⟨i, z, hi, hz, hsz, hby, hzs⟩ := info70
  have hpl := h.pl
  have hnews : ∀ j u, [(Value.func (.func fn) #[] #[a, b])][j]? = some u → (w.alloc (.cells #[.func (.func fn) #[] #[a, b]] 70)).cell? ((⟨w.heap.size, 0, none⟩ : Addr).add j) = some u := cell_one_new w (.func (.func fn) #[] #[a, b]) 70
  obtain ⟨pv', w3, hr, hown, hgr, hnil, hloc⟩ := run_append_own_at (P := Try.prog) (w.alloc (.cells #[.func (.func fn) #[] #[a, b]] 70)) 0 65 65 70 i z 1 8 Try.underlying65 hi hz hsz hby hzs (by omega) pv S.pend.length ps (h.row.alloc _) ⟨w.heap.size, 0, none⟩ 1 1 [.func (.func fn) #[] #[a, b]] rfl hnews (fun u hu => by simp at hu; subst hu; rfl) (by simp only [maxLen]; omega) (by omega) (Nat.zero_le _)
  have hg2 : w.grownBy w3 pv.ownBlock := (World.grownBy_alloc w _ _).trans hgr
  have hs1 : (w.alloc (.cells #[.func (.func fn) #[] #[a, b]] 70)).heap.size = w.heap.size + 1 := by simp
  have hlt : ∀ q, pv'.ownBlock = some q → q < w3.heap.size := fun q e => by
    rcases hown.2 with ⟨rfl, _⟩ | ⟨g, cap, cur, rfl, _, hh, _⟩
    · simp [Value.ownBlock] at e
    · simp [Value.ownBlock] at e
      subst e
      exact (Array.getElem?_eq_some_iff.1 hh).1
  have hM := h.pended hv hp hown hg2 (hloc.imp id (fun e => ⟨_, e, by omega, hlt _ e⟩))
  have hfb : w3.heap[f]? = w.heap[f]? := hg2.block f (h.lt f h.of) (fun e => by
    rcases h.row.2 with ⟨rfl, _⟩ | ⟨g, cap, cur, rfl, _, hh, _⟩
    · simp [Value.ownBlock] at e
    · simp [Value.ownBlock] at e
      subst e
      exact tag_ne hh h.blk (by decide) rfl)
  obtain ⟨_, _, _, _, _, _, h7, _, _, hzz⟩ := h.cells
  refine ⟨pv', w3, fun _ => hr, ?_, ?_, ?_, hM, ⟨hg2.os, hg2.tape, hg2.output, by rw [size_set]; exact hg2.size, fun q h1 h2 => ?_, fun q o => ?_⟩⟩
  · rw [World.cell?_of_block (w := w) (a := ⟨f, 7, none⟩) hfb]; exact h7
  · rw [World.frozen?_of_block (w := w) (a := ⟨f, 7, none⟩) hfb]; exact hzz 7
  · rcases hown.2 with ⟨_, e⟩ | ⟨g, cap, cur, e, _⟩
    · omega
    · exact ⟨_, _, e⟩
  · rw [set_other _ _ _ _ _ (fun e => h2 (by rw [e]; exact h.of)), hg2.block q h1 (fun e => h2 (h.op q e.symm))]
  · exact o.imp id (fun o => o.1)
set_option maxRecDepth 20000 in
set_option maxHeartbeats 2000000 in
theorem change_ok (f : Nat) (S : Fs) (O : Nat → Prop) (K : Nat → Option (List UInt8)) (n l : Lie) (pv : Value) (ps : List Value) (w : World) (h : FsM w f 0 S S.pend O K n l pv ps) (hf : S.fuse ≠ some 0) (hp : S.pend.length < 16383) (pf : Nat) (c1 c2 c3 : Value) (gn : Nat) (ss : List ByteArray) (cap : Nat)
    (hss : ∀ s ∈ ss, 1 ≤ s.size ∧ s.size ≤ 300) (hlen : ss.length ≤ 100) (hnm : ∀ (k : Nat) (s : ByteArray), ss[k]? = some s → w.cell? ⟨gn, k, none⟩ = some (.string s)) (hgn : gn ≠ f) (T : Tb) (t : Th) (k : Nat) (hcf : Enters pf)
    (HP : Calls Try.prog pf #[c1, c2, c3] (w.setCell ⟨f, 0, none⟩ (.int .i32 1)) fun e w2 => ∃ fn a b, e = .returned (.tuple #[.func (.func fn) #[] #[a, b], .int .i64 0]) ∧ Ready f S O T t k (w.setCell ⟨f, 0, none⟩ (.int .i32 1)) w2 fn a b) :
    Calls Try.prog 27 #[.pointer (some ⟨f, 0, none⟩), .func (.func pf) #[] #[c1, c2, c3], .slice (some ⟨gn, 0, none⟩) ss.length cap] w fun e w' => e = .returned (.int .i64 0) ∧ ∃ O', FsIs w' f 0 (S.done T t) O' (k + 3) ∧ FFr O O' w w' := by
  obtain ⟨h0, _, _, _, _, _, _, _, _, hz⟩ := h.cells
  obtain ⟨w1, hw1⟩ : ∃ w1, w1 = w.setCell ⟨f, 0, none⟩ (.int .i32 1) := ⟨_, rfl⟩
  have hM1 : FsM w1 f 1 S S.pend O K n l pv ps := by rw [hw1]; exact h.lock 1
  have HD := hide (dead_not hM1 hf)
  have HL := hide (lock_free ⟨f, 0, none⟩ w h0 (hz 0))
  rw [← hw1] at HL HP
  have HP := hide HP
  have hnm1 : ∀ (k : Nat) (s : ByteArray), ss[k]? = some s → w1.cell? ⟨gn, k, none⟩ = some (.string s) := fun k s e => by rw [hw1, World.cell?_setCell_other _ ⟨f, 0, none⟩ ⟨gn, k, none⟩ _ (by simp [Ne.symm hgn])]; exact hnm k s e
  have HS := hide hss
  unfold Enters at hcf
  have HN := hide hnm1
  have HF : Hid (FFr O O w w1) := by rw [hw1]; exact ⟨rfl, rfl, rfl, by rw [size_set]; exact Nat.le_refl _, fun q _ hq => set_other _ _ _ _ _ (fun e => hq (e ▸ h.of)), fun _ o => .inl o⟩
  clear hnm hnm1 hss hM1 h hw1 hz h0
  have hlen2 : (ss.length : Int) ≤ 100 := by omega
  generalize hNN : ss.length = N at *
  have HNN := hide hNN
  clear hNN
  go_enter_defers Try.func27, Try.ntmps27
  go_wp2_with fail
  refine (unhide HL).mono ?_
  rintro e w' ⟨rfl, rfl⟩
  go_wp2_with fail
  refine (unhide HD).mono ?_
  rintro e w' ⟨rfl, rfl⟩
  go_wp2_with fail
  go_loop [24] (fun i => ∃ k : Nat, k ≤ N ∧ i = .int .i64 k) (fun i => N - (intOf i).toNat)
  case atStart => exact ⟨0, Nat.zero_le _, rfl⟩
  case round =>
    obtain ⟨j, hj, rfl⟩ := hrel
    by_cases hlt : j < N
    · obtain ⟨s, hs, h1, h2⟩ : ∃ s, w'.cell? ⟨gn, j, none⟩ = some (.string s) ∧ 1 ≤ s.size ∧ s.size ≤ 300 := by
        have hj2 : j < ss.length := by rw [unhide HNN]; exact hlt
        exact ⟨ss[j], unhide HN j ss[j] (List.getElem?_eq_getElem hj2), unhide HS _ (List.getElem_mem hj2)⟩
      go_wp2_with fail
      go_round
      case rel => exact ⟨j + 1, by omega, by go_num⟩
      case measure => simp [intOf]; omega
    · go_wp2_with fail
      refine (unhide HP).mono ?_
      rintro e w2 ⟨fn, ca, cb, rfl, hen, O2, K2, n2, l2, pv2, ps2, hM2, hk2, hF2, hT2, hDo⟩
      have HDo := hide hDo
      have HT2 := hide hT2
      have HM2 := hide hM2
      obtain ⟨_, _, _, _, _, _, h7, _, _, _⟩ := hM2.cells
      have hpv : ∃ a c, pv2 = .slice a S.pend.length c := by
        rcases hM2.row.2 with ⟨e, e2⟩ | ⟨g, cap, cur, e, _⟩
        · exact ⟨none, 0, by rw [e, e2]⟩
        · exact ⟨_, _, e⟩
      obtain ⟨pa, pc, rfl⟩ := hpv
      have hpn : ¬ ((S.pend.length : Int) = 16384) := by omega
      have HF2 := hide hF2
      clear hM2 hT2 hDo hF2
      generalize hPP : S.pend.length = PL at *
      have HPP := hide hPP
      clear hPP
      unfold Enters at hen
      go_wp2_with fail
      refine (unhide HDo).mono ?_
      rintro e w3 ⟨rfl, n3, hk3, he3, hM3, hF3, hT3⟩
      obtain ⟨pv3, w4, hr4, hc4, hz4, ⟨pa4, pc4, rfl⟩, hM4, hF4⟩ := pend_grows hM3 hT3 (by show S.pend.length < _; rw [unhide HPP]; exact hp)
      obtain ⟨_, _, _, _, _, _, h73, _, _, _⟩ := hM3.cells
      obtain ⟨w5, hB5, hM5, hF5⟩ := hM4.burnt hf
      obtain ⟨h05, _, _, _, _, _, _, _, _, hz5⟩ := hM5.cells
      have z05 := hz5 0
      have HE : Hid (∃ O', FsIs (w5.setCell ⟨f, 0, none⟩ (.int .i32 0)) f 0 (S.done T t) O' (k + 3) ∧ FFr O O' w (w5.setCell ⟨f, 0, none⟩ (.int .i32 0))) := by
        refine ⟨_, ⟨_, n3, _, _, _, hM5.lock 0, hk3, he3⟩, (unhide HF).trans ((unhide HF2).trans (hF3.trans (hF4.trans (hF5.trans ⟨rfl, rfl, rfl, by rw [size_set]; exact Nat.le_refl _, fun q _ hq => set_other _ _ _ _ _ (fun e => hq (by rw [e]; exact hM5.of)), fun _ o => .inl o⟩))))⟩
      have HB5 := hide hB5
      have HS4 : Hid (({ S with now := T } : Fs).pend.length = PL) := by show S.pend.length = PL; exact unhide HPP
      clear hM3 hT3 hM4 hF4 hF3 hB5 hM5 hF5 hz5
      simp only [show ({ S with now := T } : Fs).pend = S.pend from rfl, unhide HPP] at *
      go_wp2_with fail
      refine (unhide HB5).mono ?_
      rintro e w6 ⟨rfl, rfl⟩
      go_wp2_with fail
      refine leaves_cons (f := 37) (args := #[.pointer (some ⟨f, 0, none⟩)]) (by simp) (by simp [go_sem]) ?_
      refine (unlock_deferred ⟨f, 0, none⟩ .returning _ h05 z05).mono ?_
      rintro e u' w7 ⟨rfl, rfl, rfl⟩
      exact ⟨_, results_tmp rfl _ _ _, rfl, unhide HE⟩
end Go.Proofs.Ytbnbakcoomjnaaa
