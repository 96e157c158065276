/-
  A child's own steps in the machine.
-/
import Derived.Test.YtlndinigbppafaaMcE
namespace Go.Proofs.Ytlndinigbppafaa
open Go.Sim Go.Conc

/-- What a plain step may list, in the trace's words. -/
theorem touch_evC {O Rd : Nat → Prop} {e : Event} {a : Touch} (h : EvC O Rd e) (ht : (MemAct.ofEvent e).touch? = some a) : ∃ b, blockOf a.loc = some b ∧ a.kind = .plain ∧ (O b ∨ (Rd b ∧ a.write = false)) := by
  obtain ⟨loc, wr, sy⟩ := e
  rcases h with h | ⟨h0, b, hb, hw⟩
  · simp only at h
    subst h
    simp [MemAct.ofEvent, MemAct.touch?] at ht
  · simp only at h0 hb hw
    subst h0
    rcases hb with ⟨A, rfl, rfl⟩ | rfl
    · simp [MemAct.ofEvent, MemAct.touch?] at ht
      subst ht
      exact ⟨_, rfl, rfl, hw⟩
    · have : MemAct.ofEvent ⟨.obj b, wr, false⟩ = .access ⟨.obj b, wr, false⟩ := by cases wr <;> rfl
      rw [this] at ht
      simp [MemAct.touch?] at ht
      subst ht
      exact ⟨_, rfl, rfl, hw⟩
theorem mark_evC {O Rd : Nat → Prop} {e : Event} {m : Mark} (h : EvC O Rd e) (ht : MemAct.ofEvent e = .mark m) : Neutral m := by
  obtain ⟨loc, wr, sy⟩ := e
  rcases h with h | ⟨h0, b, hb, hw⟩
  · simp only at h
    subst h
    simp [MemAct.ofEvent] at ht
    exact ht.symm
  · simp only at h0 hb hw
    subst h0
    rcases hb with ⟨A, rfl, rfl⟩ | rfl
    · simp [MemAct.ofEvent] at ht
    · cases wr <;> simp [MemAct.ofEvent] at ht
theorem wordless_evC {O Rd : Nat → Prop} {es : Array Event} (h : ∀ e ∈ es, EvC O Rd e) (g : Nat) (fn : FuncId) (pos : String) : Wordless (MemOp.ofEvents g fn pos es) := by
  intro op hop m hm
  obtain ⟨e, he, rfl⟩ := Go.Conc.mem_ofEvents hop
  exact mark_evC (h e he) hm
theorem g_ofEvents {g : Nat} {fn : FuncId} {pos : String} {es : Array Event} : ∀ op ∈ MemOp.ofEvents g fn pos es, op.g = g := fun op hop => by
  obtain ⟨e, _, rfl⟩ := Go.Conc.mem_ofEvents hop
  rfl

section
variable {B0 : Nat} {W0 : World} {Post : Nat → Value → World → Prop} {s : St} {PB : Nat → Prop} {kids : List Kid} {gs : Array Goroutine} {w w' : World} {t u : Trace} {k cur : Nat} {x x' : Kid}

theorem kidMap_some {d : Nat} {y : KidT} (h : kidMap cur kids d = some y) : ∃ l z, d = l + 1 ∧ ¬ l < cur ∧ kids[l]? = some z ∧ y = z.kt := by
  unfold kidMap at h
  split at h
  · cases h
  · rename_i hd
    obtain ⟨z, hz, rfl⟩ := Option.map_eq_some_iff.1 h
    exact ⟨d - 1, z, by omega, by omega, hz, rfl⟩
theorem kidMap_at (hk : kids[k]? = some x) (hc : ¬ k < cur) : kidMap cur kids (k + 1) = some x.kt := by
  unfold kidMap
  rw [if_neg (by omega)]
  simp [hk]
theorem kidMap_set (hk : kids[k]? = some x) (hc : ¬ k < cur) : kidMap cur (kids.set k x') = fun d => if d = k + 1 then some x'.kt else kidMap cur kids d := by
  have hlen : k < kids.length := (List.getElem?_eq_some_iff.1 hk).1
  funext d
  unfold kidMap
  by_cases hd : d = k + 1
  · subst hd
    rw [if_neg (by omega), if_pos rfl]
    simp [hlen]
  · rw [if_neg hd]
    by_cases h0 : d ≤ cur
    · rw [if_pos h0, if_pos h0]
    · rw [if_neg h0, if_neg h0, List.getElem?_set_ne (by omega)]
theorem kidMap_same (hk : kids[k]? = some x) (he : x'.kt = x.kt) : kidMap cur (kids.set k x') = kidMap cur kids := by
  have hlen : k < kids.length := (List.getElem?_eq_some_iff.1 hk).1
  funext d
  unfold kidMap
  by_cases h0 : d ≤ cur
  · rw [if_pos h0, if_pos h0]
  · rw [if_neg h0, if_neg h0, List.getElem?_set]
    split
    · rename_i e
      subst e
      rw [hk]
      simp [he]
    · rfl

theorem Inv.rely_kid (h : Inv B0 W0 Post s PB kids gs w t) (hk : kids[k]? = some x) (hsz : w.heap.size ≤ w'.heap.size) (hkeep : ∀ b, b < w.heap.size → ¬ x.O b → b ≠ x.c → w'.heap[b]? = w.heap[b]?) : RelyC PB s.rd w w' := by
  refine ⟨hsz, fun b hb => ?_⟩
  rcases hb with hb | ⟨p, hp, rfl⟩
  · obtain ⟨_, p2, p3⟩ := h.pb b hb
    have := p3 k x hk
    exact hkeep b p2 (fun q => this (.inl q)) fun q => this (.inr (.inr q))
  · rw [h.link] at hp
    obtain ⟨y, hy, rfl⟩ := List.mem_map.1 hp
    obtain ⟨l, hl⟩ := List.getElem?_of_mem hy
    have hyb : y.all y.bc := .inr (.inl (.inl rfl))
    have hlt := ((h.kid l y hl).2.lo _ hyb).2
    by_cases e : l = k
    · subst e
      rw [hk] at hl
      cases hl
      refine hkeep _ hlt (fun q => ((h.kid l x hk).2.self _ q).1 (.inl rfl)) fun q => (h.kid l x hk).2.selfc (.inl q.symm)
    · have := h.apart l k y x _ hl hk e hyb
      exact hkeep _ hlt (fun q => this (.inl q)) fun q => this (.inr (.inr q))

theorem woken_rf' {P : Program} {g g' b : Goroutine} {w' : World} (h : b.status = .running ∨ b.status = .finished) : woken P g g' w' b = b := by
  unfold woken
  split
  · exact again_running _ h
  · rfl

/-- The others' records behind an own step of number i. -/
theorem Inv.gs_go (h : Inv B0 W0 Post s PB kids gs w t) {i : Nat} {g g' : Goroutine} {w2 : World} (hi : i < gs.size) :
    ((gs.map (woken Try.prog g g' w2)).setIfInBounds i g').size = gs.size ∧ ((gs.map (woken Try.prog g g' w2)).setIfInBounds i g')[i]? = some g' ∧ (∀ j, j + 1 ≠ i → ((gs.map (woken Try.prog g g' w2)).setIfInBounds i g')[j + 1]? = gs[j + 1]?) ∧
      (∀ a, i ≠ 0 → gs[0]? = some a → ((gs.map (woken Try.prog g g' w2)).setIfInBounds i g')[0]? = some (woken Try.prog g g' w2 a)) := by
  refine ⟨by simp, by rw [Array.getElem?_setIfInBounds_self_of_lt (by simpa using hi)], fun j hj => ?_, fun a hne ha => ?_⟩
  · rw [Array.getElem?_setIfInBounds_ne (Ne.symm hj), Array.getElem?_map]
    by_cases hjl : j < kids.length
    · have := (h.kid j _ (List.getElem?_eq_getElem hjl))
      rw [this.1]
      simp [woken_rf' this.2.status]
    · have : gs.size ≤ j + 1 := by rw [h.size]; omega
      rw [Array.getElem?_eq_none this]
      rfl
  · rw [Array.getElem?_setIfInBounds_ne hne, Array.getElem?_map, ha]
    rfl

/-- The trace behind a plain step of a child's. -/
theorem Inv.tr_plain (h : Inv B0 W0 Post s PB kids gs w t) (hk : kids[k]? = some x) (hcur : ¬ k < s.cur) {O' : Nat → Prop} (hx' : x'.kt = ⟨O', x.rd, x.c⟩) (hO : ∀ b, x.O b → O' b) (hnew : ∀ b, O' b → ¬ x.O b → w.heap.size ≤ b)
    {es : Array Event} (hes : ∀ e ∈ es, EvC O' x.rd e) (fn : FuncId) (pos : String) : TrI (t ++ MemOp.ofEvents (k + 1) fn pos es) (kidMap s.cur (kids.set k x')) := by
  have hX := (h.kid k x hk).2
  have lt : ∀ {l : Nat} {y : Kid} {b : Nat}, kids[l]? = some y → y.all b → b < w.heap.size := fun hl hb => ((h.kid _ _ hl).2.lo _ hb).2
  have nc : ∀ b, (O' b ∨ x.rd b) → ∀ d y, kidMap s.cur kids d = some y → b ≠ y.c := by
    intro b hb d y hd e
    obtain ⟨l, z, rfl, hl, hz, rfl⟩ := kidMap_some hd
    have hzb : z.all b := .inr (.inr e)
    by_cases hlk : l = k
    · subst hlk
      rw [hk] at hz; cases hz
      rcases hb with hb | hb
      · by_cases hxO : x.O b
        · exact (hX.self b hxO).2 e
        · have := hnew b hb hxO
          have := lt hk hzb
          omega
      · have e' : b = x.c := e
        rw [e'] at hb
        exact hX.selfc hb
    · rcases hb with hb | hb
      · by_cases hxO : x.O b
        · exact h.apart k l x z b hk hz (Ne.symm hlk) (.inl hxO) hzb
        · have := hnew b hb hxO
          have := lt hz hzb
          omega
      · exact h.apart k l x z b hk hz (Ne.symm hlk) (.inr (.inl hb)) hzb
  refine h.tr.ownK (γ := k + 1) (x := x.kt) (O' := O') (kidMap_at hk hcur) ?_ g_ofEvents (wordless_evC hes _ _ _) hO (fun b hb hxb => ⟨fun i a ha hbl => ?_, fun d y hd => ?_⟩) (fun op ho a ha _ => ?_) fun d y hd hne => ?_
  · rw [kidMap_set hk hcur, hx']; rfl
  · have := hnew b hb hxb
    have := h.low i a b ha hbl
    omega
  · obtain ⟨l, z, rfl, hl, hz, rfl⟩ := kidMap_some hd
    have := hnew b hb hxb
    refine ⟨fun q => ?_, fun q => ?_, fun q => ?_⟩
    · have := lt (b := b) hz (.inl q); omega
    · have := lt (b := b) hz (.inr (.inl q)); omega
    · have := lt (b := b) hz (.inr (.inr q)); omega
  · obtain ⟨e, he, rfl⟩ := Go.Conc.mem_ofEvents ho
    obtain ⟨b, b1, b2, b3⟩ := touch_evC (hes e he) ha
    exact .inl ⟨b, b1, b2, b3, nc b (b3.imp id fun q => q.1)⟩
  · obtain ⟨l, z, rfl, hl, hz, rfl⟩ := kidMap_some hd
    have hlk : l ≠ k := fun e => hne (by rw [e])
    have := h.apart k l x z x.c hk hz (Ne.symm hlk) (.inr (.inr rfl))
    exact ⟨fun q => this (.inl q), fun q => this (.inr (.inl q)), fun q => this (.inr (.inr q.symm))⟩
end
end Go.Proofs.Ytlndinigbppafaa
