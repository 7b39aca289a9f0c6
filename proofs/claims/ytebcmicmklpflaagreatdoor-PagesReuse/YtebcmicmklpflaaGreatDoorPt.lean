/- A drawn region within a round, walked as one outside: what yields under a condition is taken first. -/
import Derived.Test.YtebcmicmklpflaaGreatDoorK13
import Derived.Deep.RegionHeld
namespace Go.Proofs.YtebcmicmklpflaaGreatDoor
open Go.RowKit Go.Shelf Go.Great
variable {P : Program} {ops : Array Oper} {Q : Exit → Act → World → Prop} {md : Region.Mode}
theorem upon_in {l n : Nat} {o : Oper} {a : Act} {next next' : Act → World → Prop} (hk : ∀ a w, next a w → next' a w) : ∀ (r : Result Next), o.upon P a next Q r → o.uponIn (Fence.wide.inRound l) n P a next' Q r
  | .ok (.value _) _, h => hk _ _ h
  | .ok .skip _, h => hk _ _ h
  | .ok (.defer _) _, h => hk _ _ h
  | .ok (.enter _ _) _, h => ⟨fun h0 => by simp [Fence.wide] at h0, (callsIn_wide.2 (Calls.mono h (by
      intro e w' h3
      cases e
      · exact hk _ _ h3
      · exact h3
      · exact h3))).inRound l⟩
  | .ok (.row _ _) _, h => ⟨fun h0 => by simp [Fence.wide] at h0, fun c cs _ => by
      obtain ⟨v, w', r, s⟩ := h c cs
      exact ⟨v, w', hk _ _ r, stepsIn_wide.2 s⟩⟩
  | .ok (.round ..) _, h => h.elim
  | .halt (.panic _) _, h => h
theorem wpAnyIn_of_any {l n : Nat} (hQ : ¬ LetsOut Q) (hd : ∀ (i : Nat) (o : Oper), ops[i]? = some o → ∀ c, o.op ≠ .defer c) : ∀ (fuel : Nat) (listed : Array Bool) (a : Act) (w : World), wpAny P md ops Q fuel listed a w → wpAnyIn (Fence.wide.inRound l) n P md ops Q fuel listed a w := by
  intro fuel
  induction fuel with
  | zero => intro listed a w h; exact h
  | succ fuel ih =>
    intro listed a w h
    refine ⟨h.1, ?_⟩
    intro i hi
    have h1 := h.2 i hi
    unfold wpOp at h1
    unfold wpOpIn
    cases ho : ops[i]? with
    | none =>
      simp only [ho] at h1
      exact ih _ _ _ h1
    | some o =>
      simp only [ho] at h1
      show if Region.wanted o (yielded ops a.tmps) = true then _ else _
      by_cases hw : Region.wanted o (yielded ops a.tmps) = true
      · rw [if_pos hw] at h1 ⊢
        rcases h1 with h1 | ⟨_, h1⟩
        · refine ⟨fun _ _ => trivial, ?_⟩
          rw [Fence.inRound_round, Oper.semAt_some l _ _ (hd i o ho)]
          exact upon_in (fun a w => ih _ a w) _ h1
        · exact absurd h1 hQ
      · rw [if_neg hw] at h1 ⊢
        exact ⟨fun _ _ => trivial, ih _ _ _ h1⟩
/-- Left off its end alone. -/
def OnlyN (R : Act → World → Prop) : Exit → Act → World → Prop
  | .normal, a, w => R a w
  | _, _, _ => False
theorem not_letsOut (R : Act → World → Prop) : ¬ LetsOut (OnlyN R) := fun ⟨_, _, h⟩ => h
def isDefer : Op → Bool
  | .defer _ => true
  | _ => false
theorem no_defer {o : Op} (h : isDefer o = false) : ∀ c, o ≠ .defer c := fun c e => by rw [e] at h; cases h
theorem region_round {l n id : Nat} {S : World → Prop} {R : Exit → Act → World → Prop} {a : Act} {w : World} (hm : P.follows .mixedOrders = true) (hd : ops.toList.all (fun o => !isDefer o.op) = true) (hS : S w.drew)
    (h : S w.drew → wpAnyH P .any ops (OnlyN (R .normal)) S ops.size (Array.replicate ops.size false) a w.drew) : (Code.region id ops true).wpIn (Fence.wide.inRound l) n P R a w := by
  refine wpIn_mono (Q := OnlyN (R .normal)) (wpIn_region_any hm (wpAnyIn_of_any (not_letsOut _) (fun i o ho => no_defer ?_) _ _ _ _ (wpAny_of_held _ _ _ _ (h hS)))) ?_
  · have := List.all_eq_true.1 hd o (Array.mem_toList_iff.2 (Array.mem_of_getElem? ho))
    simpa using this
  · intro e a w he
    cases e with
    | normal => exact he
    | _ => exact he.elim
end Go.Proofs.YtebcmicmklpflaaGreatDoor
