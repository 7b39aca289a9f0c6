/- The sixty-four rounds of one block: the code's mix. -/
import Derived.Test.YtdkhmjiconedkaaSched
namespace Go.Proofs.Ytdkhmjiconedkaa
open Go.RowKit Go.Great

set_option maxRecDepth 20000 in
set_option maxHeartbeats 1000000 in
theorem mix_any (s : Sha.St) (kb wb : Nat) (ws : List Nat) (w : World) (hs : s.ok) (hkb : kb < w.heap.size) (hwb : wb < w.heap.size)
    (hk : rowOf w kb = E32 Sha.K) (hw : rowOf w wb = E32 ws) (hl : ws.length = 64) :
    Calls Try.prog 48 #[.agg (E32 s.list), .pointer (some ⟨kb, 0, none⟩), .pointer (some ⟨wb, 0, none⟩)] w fun e w' => e = .returned (.agg (E32 (Sha.rounds s ws 64).list)) ∧ Below w.heap.size w w' := by
  rw [E32_eight]
  go_enter Try.func48, Try.ntmps48
  go_wp2
  go_quiet (fail)
  go_wp2
  go_quiet (fail)
  go_wp2
  obtain ⟨G, hG⟩ : ∃ G : Nat → Sha.St, G = Sha.rounds s ws := ⟨_, rfl⟩
  have h0 : s = G 0 := by rw [hG]; rfl
  have HN : Hid (∀ k, G (k + 1) = Sha.round (G k) (Sha.nth Sha.K k) (Sha.nth ws k)) := fun k => by rw [hG]; rfl
  have hok : ∀ k, (G k).ok := fun k => by rw [hG]; exact Sha.rounds_ok hs ws k
  have HE : Hid (Sha.rounds s ws 64 = G 64) := by rw [hG]; rfl
  have hb2 : ∀ (o1 o2 : Obj) (n m : Nat), Below w.heap.size w ((((w.alloc o1).alloc o2).drewN n).drewN m) := fun o1 o2 n m => below_drews (below_drews (((Below.refl _ _).alloc (Nat.le_refl _) _).alloc (by simp) _) _) _
  rw [h0]
  clear h0 hG
  go_loopw [7, 8, 9, 10, 11, 12, 13, 14, 34] (fun t7 t8 t9 t10 t11 t12 t13 t14 i wr => ∃ k : Nat, k ≤ 64 ∧ i = .int .i64 (k : Int) ∧ t7 = .int .u32 (((G k).a : Nat) : Int) ∧ t8 = .int .u32 (((G k).b : Nat) : Int) ∧ t9 = .int .u32 (((G k).c : Nat) : Int) ∧ t10 = .int .u32 (((G k).d : Nat) : Int) ∧ t11 = .int .u32 (((G k).e : Nat) : Int) ∧ t12 = .int .u32 (((G k).f : Nat) : Int) ∧ t13 = .int .u32 (((G k).g : Nat) : Int) ∧ t14 = .int .u32 (((G k).h : Nat) : Int) ∧ Below w.heap.size w wr ∧ fits wr (w.heap.size + 1) 8 = true) (fun _ _ _ _ _ _ _ _ i _ => 64 - (intOf i).toNat)
  case atStart => exact ⟨0, by omega, rfl, rfl, rfl, rfl, rfl, rfl, rfl, rfl, rfl, by first | exact hb2 _ _ _ _ | (simp [go_sem]; done) | skip, by simp [go_sem]⟩
  case round =>
    obtain ⟨k, hk64, rfl, rfl, rfl, rfl, rfl, rfl, rfl, rfl, rfl, hbel, hfit⟩ := hrel
    by_cases hlt : k < 64
    · have hck : wr.cell? ⟨kb, k, none⟩ = some (.int .u32 ((Sha.nth Sha.K k : Nat) : Int)) := cell_row _ _ _ _ (by rw [below_rowOf hbel hkb, hk]; exact E32_get _ _ (by simp; omega))
      have hcw : wr.cell? ⟨wb, k, none⟩ = some (.int .u32 ((Sha.nth ws k : Nat) : Int)) := cell_row _ _ _ _ (by rw [below_rowOf hbel hwb, hw]; exact E32_get _ _ (by omega))
      obtain ⟨ha, hb, hc, hd, he, hf, hg, hh⟩ := hok k
      clear hk hw hl hb2 hok
      go_wp2
      go_quiet ((go_at_call 54; exact Calls.quiet_of_same (turn_i _ _ _ he (by omega) (by omega))))
      go_wp2_with (go_at_call 54; refine (turn_i _ _ _ ha (by omega) (by omega)).mono ?_; rintro e w' ⟨rfl, rfl⟩)
      go_roundw
      case rel =>
        refine ⟨k + 1, by omega, by go_num, ?_⟩
        rw [HN.out k]
        exact ⟨rfl, rfl, rfl, rfl, rfl, rfl, rfl, rfl, below_drews hbel _, hfit⟩
      case measure => simp [intOf]; omega
    · have hk' : k = 64 := by omega
      subst hk'
      clear hk hw hl hb2 hok
      go_wp2
      exact bodyPost_ret (v := .agg (E32 (G 64).list)) (res50 Try.results48 rfl (rowOf_setRow_at _ _ 8 _ hfit) rfl) rfl ⟨by rw [HE.out], below_setRow hbel (by omega) _⟩
end Go.Proofs.Ytdkhmjiconedkaa
