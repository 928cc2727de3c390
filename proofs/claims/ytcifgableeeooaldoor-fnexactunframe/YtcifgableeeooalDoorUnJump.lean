/- A scope in which the run jumps to several labels, forward and back. -/
import Derived.Test.YtcifgableeeooalDoorUnRestI
import Derived.WalkMore
import Derived.ScopeJumps
namespace Go.Proofs.YtcifgableeeooalDoor
namespace Pk

/-- As Q; by a goto to a label: what holds at that label. -/
def Jumps (J : Nat → Act → World → Prop) (Q : Exit → Act → World → Prop) : Exit → Act → World → Prop
  | .goto l, a, w => J l a w
  | e, a, w => Q e a w

theorem Jumps.mono {J J' : Nat → Act → World → Prop} {Q : Exit → Act → World → Prop} (h : ∀ l a w, J l a w → J' l a w) : ∀ e a w, Jumps J Q e a w → Jumps J' Q e a w := by
  intro e a w hj
  cases e with
  | goto l => exact h l a w hj
  | normal => exact hj
  | exit id => exact hj
  | ret => exact hj
  | panic ch => exact hj
  | outgrown => exact hj

theorem scope_many {P : Program} {c : Code} {a : Act} {w : World} {Q : Exit → Act → World → Prop} (J : Nat → Act → World → Prop) (μ : Nat → Act → World → Nat)
    (pass : ∀ l a w, J l a w → ∃ r, findLabel c l = some (Code.skip.seq r) ∧ r.wp P (Jumps (fun l' a' w' => J l' a' w' ∧ μ l' a' w' < μ l a w) Q) a w)
    (first : (∀ l r a w, findLabel c l = some (Code.skip.seq r) → J l a w → r.wp P (Jumps J Q) a w) → c.wp P (Jumps J Q) a w) : (Code.scope c).wp P Q a w := by
  have fall : ∀ l r a w, findLabel c l = some (Code.skip.seq r) → J l a w → r.wp P (Jumps J Q) a w := by
    intro l r a w hr hJ
    obtain ⟨r', hr', hp⟩ := pass l a w hJ
    cases hr.symm.trans hr'
    exact wp_mono hp (Jumps.mono fun _ _ _ h => h.1)
  have pass : ∀ l a w, J l a w → ∃ r, findLabel c l = some r ∧ r.wp P (Jumps (fun l' a' w' => J l' a' w' ∧ μ l' a' w' < μ l a w) Q) a w := fun l a w h => by
    obtain ⟨r, hr, hp⟩ := pass l a w h
    exact ⟨_, hr, wp_seq (wp_skip hp)⟩
  intro b k cs
  have key : ∀ n l r a w, μ l a w = n → J l a w → findLabel c l = some r → ∃ e a' w', Q e a' w' ∧ Arrives P (lone (b.at a (.code r :: .inScope c :: k)) cs w) b k cs e a' w' := by
    intro n
    induction n using Nat.strongRecOn with
    | _ n ih =>
      intro l r a w hn hJ hr
      obtain ⟨r', hr', hp⟩ := pass l a w hJ
      cases hr.symm.trans hr'
      obtain ⟨e, a₁, w₁, hq, harr⟩ := hp b (.inScope c :: k) cs
      cases e with
      | normal => exact ⟨.normal, a₁, w₁, hq, Steps.trans harr (.one step_inScope)⟩
      | exit id => exact ⟨.exit id, a₁, w₁, hq, fun k' hk => harr k' (by simp [exitTo, hk])⟩
      | goto l' =>
        obtain ⟨hJ', hlt⟩ := hq
        obtain ⟨r2, hr2, _⟩ := pass l' a₁ w₁ hJ'
        obtain ⟨e₂, a₂, w₂, hq₂, harr₂⟩ := ih _ (by omega) l' r2 a₁ w₁ rfl hJ' hr2
        have hg : gotoIn l' (.inScope c :: k) = some (.code r2 :: .inScope c :: k) := by simp [gotoIn, hr2]
        exact ⟨e₂, a₂, w₂, hq₂, .of_steps (harr _ hg) harr₂⟩
      | ret => exact ⟨_, a₁, w₁, hq, harr⟩
      | panic ch => exact ⟨_, a₁, w₁, hq, harr⟩
      | outgrown => exact ⟨_, a₁, w₁, hq, harr⟩
  obtain ⟨e, a₁, w₁, hq, harr⟩ := first fall b (.inScope c :: k) cs
  cases e with
  | normal => exact ⟨.normal, a₁, w₁, hq, .head step_scope (Steps.trans harr (.one step_inScope))⟩
  | exit id => exact ⟨.exit id, a₁, w₁, hq, fun k' hk => .head step_scope (harr k' (by simp [exitTo, hk]))⟩
  | goto l' =>
    obtain ⟨r2, hr2, _⟩ := pass l' a₁ w₁ hq
    obtain ⟨e₂, a₂, w₂, hq₂, harr₂⟩ := key _ l' r2 a₁ w₁ rfl hq hr2
    have hg : gotoIn l' (.inScope c :: k) = some (.code r2 :: .inScope c :: k) := by simp [gotoIn, hr2]
    exact ⟨e₂, a₂, w₂, hq₂, .of_steps (.head step_scope (harr _ hg)) harr₂⟩
  | ret => exact ⟨_, a₁, w₁, hq, .of_steps (.one step_scope) harr⟩
  | panic ch => exact ⟨_, a₁, w₁, hq, .of_steps (.one step_scope) harr⟩
  | outgrown => exact ⟨_, a₁, w₁, hq, .of_steps (.one step_scope) harr⟩

end Pk
end Go.Proofs.YtcifgableeeooalDoor
