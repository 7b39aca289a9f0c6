/- Rewrite, in the code and in the document's own answer; spoil. -/
import Derived.Test.YtlbfcneboaihnaaGreatDoorInb
import Derived.Test.YtlbfcneboaihnaaGreatDoorSwp
import Derived.Test.YtlbfcneboaihnaaGreatDoorRpl
namespace Go.Proofs.YtlbfcneboaihnaaGreatDoor
open Go.RowKit Go.Great
/-- What Rewrite answers, to the code and to the document: both paths, or an error. -/
def RewIs (w : World) (p q B : List Nat) (e : Ending) (w' : World) : Prop := Below w.heap.size w w' ∧
  ((Sha.isPth p ∧ Sha.isPth q ∧ ∃ v, e = .returned (.tuple #[v, .int .i64 ((plcs B (p.take 32) 0).length : Int), .int .i64 0]) ∧ OwnR w' w.heap.size v (layAll (q.take 32) B (plcs B (p.take 32) 0))) ∨
   (¬ (Sha.isPth p ∧ Sha.isPth q) ∧ e = .returned (.tuple #[.slice none 0 0, .int .i64 0, .int .i64 3])))
theorem rew_drew {w w' : World} {p q B : List Nat} {e : Ending} (h : RewIs w p q B e w') : RewIs w p q B e w'.drew := by
  refine ⟨h.1.drew, ?_⟩
  rcases h.2 with ⟨h1, h2, v, he, ho⟩ | h
  · exact .inl ⟨h1, h2, v, he, ownR_keep ho fun k _ _ => rfl⟩
  · exact .inr h
theorem ownR_mono {w : World} {base base' : Nat} {v : Value} {L : List Nat} (h : OwnR w base v L) (hb : base' ≤ base) : OwnR w base' v L := World.ownsRow.mono h hb
set_option maxRecDepth 20000 in
set_option maxHeartbeats 1000000 in
theorem rewrite_any (p q : List Nat) (a : Option Addr) (n c : Nat) (B : List Nat) (w : World) (hp : Sha.Bytes p) (hpm : p.length ≤ 1000000) (hq : Sha.Bytes q) (hqm : q.length ≤ 1000000) (hb : BytesAt w (.slice a n c) B) (hB : Sha.Bytes B) (hn : B.length = n) (hmax : n ≤ 4000) (hmx : ∃ m, w.cell? ⟨0, 0, none⟩ = some (.int .i64 m)) :
    Calls Tryz.prog 9 #[.slice a n c, .string (strOf p), .string (strOf q)] w fun e w' => RewIs w p q B e w' := by
  have HS := hide (swapOf_any p q w hp (by omega) hq (by omega))
  have HB := hide (And.intro hb (And.intro hB (And.intro hn hmx)))
  have HPQ := hide (And.intro hp hq)
  clear hb hB hn hmx hp hq
  go_enter Tryz.func9, Tryz.ntmps9
  go_wp2_with fail
  refine (unhide HS).mono ?_
  rintro e w1 ⟨hb1, ⟨h1, h2, gs, hgs, rfl, hst⟩ | ⟨hno, rfl⟩⟩
  · obtain ⟨m, hm⟩ := (unhide HB).2.2.2
    have HI := hide (inBytes_any gs (p.take 32) (q.take 32) 0 a n c B w1 hst ((unhide HB).1.below hb1) (unhide HB).2.1 (unhide HB).2.2.1 hmax ((unhide HPQ).1.take 32) (by rw [List.length_take]; have := h1.1; omega) ((unhide HPQ).2.take 32) (by rw [List.length_take]; have := h2.1; omega) ⟨by omega, by omega⟩ ⟨m, by rw [hb1.cell (p := ⟨0, 0, none⟩) (cell_lt hm)]; exact hm⟩)
    have HB1 := hide hb1
    have H12 := hide (And.intro h1 h2)
    clear hb1 h1 h2 hst HS
    go_wp2_with fail
    refine (unhide HI).mono ?_
    rintro e w2 ⟨v2, rfl, ho2, hs2, hst2⟩
    have hc2 : w2.cell? ⟨gs, 2, none⟩ = some (.int .i64 (0 + ((plcs B (p.take 32) 0).length : Int))) := by simp [World.cell?, hst2]
    rw [Int.zero_add] at hc2
    have hz1 := (unhide HB1).size
    have HE : Hid (RewIs w p q B (.returned (.tuple #[v2, .int .i64 ((plcs B (p.take 32) 0).length : Int), .int .i64 0])) w2) := by
      refine ⟨⟨hs2.os.trans (unhide HB1).os, hs2.tape.trans (unhide HB1).tape, hs2.output.trans (unhide HB1).output, Nat.le_trans hz1 hs2.size, fun k hk => (hs2.block k (by omega) (by omega)).trans ((unhide HB1).block k hk)⟩, .inl ⟨(unhide H12).1, (unhide H12).2, v2, rfl, ownR_mono ho2 (by omega)⟩⟩
    generalize (plcs B (p.take 32) 0).length = k at *
    clear ho2 hs2 hst2 HI
    go_wp2_with fail
    go_region
    all_goals
      go_wp2_with fail
      go_ret3
      first
        | exact unhide HE
        | exact rew_drew (unhide HE)
  · have HE : Hid (RewIs w p q B (.returned (.tuple #[.slice none 0 0, .int .i64 0, .int .i64 3])) w1) := ⟨hb1, .inr ⟨hno, rfl⟩⟩
    clear hb1 hno HS
    go_wp2_with fail
    go_ret3
    exact unhide HE
set_option maxRecDepth 20000 in
set_option maxHeartbeats 1000000 in
theorem rewriteRef_any (p q : List Nat) (a : Option Addr) (n c : Nat) (B : List Nat) (w : World) (hp : Sha.Bytes p) (hpm : p.length ≤ 1000000) (hq : Sha.Bytes q) (hqm : q.length ≤ 1000000) (hb : BytesAt w (.slice a n c) B) (hB : Sha.Bytes B) (hn : B.length = n) (hmax : n ≤ 100000) :
    Calls Tryz.prog 10 #[.slice a n c, .string (strOf p), .string (strOf q)] w fun e w' => RewIs w p q B e w' := by
  have HP := hide (splitRef_any p w hp (by omega))
  have HQ := hide (fun w => splitRef_any q w hq (by omega))
  have HB := hide (And.intro hb (And.intro hB hn))
  have HPQ := hide (And.intro hp hq)
  clear hb hB hn hp hq
  go_enter Tryz.func10, Tryz.ntmps10
  go_wp2_with fail
  refine (unhide HP).mono ?_
  rintro e w1 ⟨hb1, h1⟩
  have HB1 := hide hb1
  have hz1 := hb1.size
  clear hb1 HP
  rcases h1 with ⟨h1, he⟩ | ⟨h1, he⟩
  · simp only [splitV, if_true] at he
    subst he
    have H1 := hide h1
    clear h1
    generalize p.drop 33 = N1 at *
    generalize hF : p.take 32 = F at *
    have HF := hide hF
    clear hF
    go_wp2_with fail
    refine (unhide HQ _).mono ?_
    rintro e w2 ⟨hb2, h2⟩
    have hbl2 : Below w.heap.size w w2 := (unhide HB1).trans (hb2.mono hz1)
    have HB2 := hide hbl2
    have hz2 := hbl2.size
    clear hb2 hbl2 HQ
    rcases h2 with ⟨h2, he⟩ | ⟨h2, he⟩
    · simp only [splitV, if_true] at he
      subst he
      have hl1 : F.length = 32 := by rw [← unhide HF, List.length_take]; have := (unhide H1).1; omega
      have hl2 : (q.take 32).length = 32 := by rw [List.length_take]; have := h2.1; omega
      have HR := hide (replaceRef_any a n c B F (q.take 32) w2 ((unhide HB).1.below (unhide HB2)) (unhide HB).2.1 (unhide HB).2.2 (by rw [← unhide HF]; exact (unhide HPQ).1.take 32) hl1 ((unhide HPQ).2.take 32) hl2 hmax)
      have H2 := hide h2
      clear h2 hl2
      generalize q.drop 33 = N2 at *
      generalize hT : q.take 32 = T at *
      have HT := hide hT
      clear hT
      go_wp2_with fail
      refine (unhide HR).mono ?_
      rintro e w3 ⟨v3, rfl, ho3, hb3⟩
      have HE : Hid (RewIs w p q B (.returned (.tuple #[v3, .int .i64 ((plcs B F 0).length : Int), .int .i64 0])) w3) := by
        refine ⟨(unhide HB2).trans (hb3.mono hz2), .inl ⟨unhide H1, unhide H2, v3, by rw [unhide HF], ?_⟩⟩
        rw [unhide HF, unhide HT]; exact ownR_mono ho3 hz2
      generalize (plcs B F 0).length = k at *
      clear ho3 hb3 HR
      go_wp2_with fail
      go_ret3
      exact unhide HE
    · simp only [splitV, Bool.false_eq_true, if_false] at he
      subst he
      have HE : Hid (RewIs w p q B (.returned (.tuple #[.slice none 0 0, .int .i64 0, .int .i64 3])) w2) := ⟨unhide HB2, .inr ⟨fun h => h2 h.2, rfl⟩⟩
      clear h2
      go_wp2_with fail
      go_ret3
      exact unhide HE
  · simp only [splitV, Bool.false_eq_true, if_false] at he
    subst he
    have H1 := hide h1
    clear h1
    go_wp2_with fail
    refine (unhide HQ _).mono ?_
    rintro e w2 ⟨hb2, h2⟩
    have HE : Hid (RewIs w p q B (.returned (.tuple #[.slice none 0 0, .int .i64 0, .int .i64 3])) w2) := ⟨(unhide HB1).trans (hb2.mono hz1), .inr ⟨fun h => unhide H1 h.1, rfl⟩⟩
    clear hb2 HQ
    obtain ⟨x2, y2, z2, rfl⟩ : ∃ (x y : ByteArray) (z : Int), e = .returned (.tuple #[.string x, .string y, .int .i64 z]) := by
      rcases h2 with ⟨_, he⟩ | ⟨_, he⟩
      · exact ⟨_, _, _, he⟩
      · exact ⟨_, _, _, he⟩
    clear h2
    go_wp2_with fail
    go_ret3
    exact unhide HE
end Go.Proofs.YtlbfcneboaihnaaGreatDoor
