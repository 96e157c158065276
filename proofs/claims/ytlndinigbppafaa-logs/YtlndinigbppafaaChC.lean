/-
  A child of Proofs, from its birth to its send, on.
-/
import Derived.Test.YtlndinigbppafaaChB
namespace Go.Proofs.Ytlndinigbppafaa
open Go.Sim Go.Conc

section
variable {bc bv bi bn c : Nat} {ver : Value} {i n : Int} {listed : Array Bool} {tm : Array Value} {W : World} {rest : List Nat}

theorem step_call (h : TmpsOK bc bv bi bn c ver i n listed tm) (h1 : listed.getD 1 true = true) (h2 : listed.getD 2 true = true) (h3 : listed.getD 3 true = true) :
    stepG Try.prog false (G (fr80 tm (4 :: rest)) [bot Try.prog]) W = .go (G (Frame.enter Try.prog 45 #[ver, .int .i64 i, .int .i64 n] .normal) [fr80 tm (4 :: rest), bot Try.prog]) W #[] := by
  have e5 : tm.getD 5 undef = ver := h.t5 h1
  have e6 : tm.getD 6 undef = .int .i64 i := h.t6 h2
  have e7 : tm.getD 7 undef = .int .i64 n := h.t7 h3
  have ev : (callFunc 45 #[ver, .int .i64 i, .int .i64 n]).events Try.prog W #[] = #[] := by simp [callFunc, Try.func45, Try.f45]
  simp [stepG, stepG.exec, stepG.oper, stepG.apply, G, fr80, Frame.at, b80, ops80, Region.wanted, Frame.oper?, execOp, resolve, Frame.eval, Deferred.ofValue, invoke, e5, e6, e7, GStep.after, seen, ev]

theorem step_sendAt (h : TmpsOK bc bv bi bn c ver i n listed tm) (h0 : listed.getD 0 true = true) :
    stepG Try.prog false (G (fr80 tm (5 :: rest)) [bot Try.prog]) W = .comm (G (fr80 tm (5 :: rest)) [bot Try.prog]) #[scase c (tm.getD 8 undef) (.tuple #[])] true .send W #[] := by
  have e4 : tm.getD 4 undef = .chan (some c) := h.t4 h0
  simp [stepG, stepG.exec, stepG.oper, stepG.apply, G, fr80, Frame.at, b80, ops80, Region.wanted, Frame.oper?, execOp, Frame.eval, e4, GStep.after, seen, scase]

theorem fin4 (V : Value) : (fr80 tm (4 :: rest)).finish V = fr80 (tm.setIfInBounds 8 V) rest := by
  unfold fr80
  rw [Frame.finish_at]
  rfl
theorem served5 : Go.Conc.served (G (fr80 tm (5 :: rest)) [bot Try.prog]) undef = G (fr80 tm rest) [bot Try.prog] := by
  simp [Go.Conc.served, G, fr80, Frame.finish, Frame.at, b80, ops80]
end

/-- How many are not done. -/
def nf (l : Array Bool) : Nat := (if l.getD 0 true then 0 else 1) + (if l.getD 1 true then 0 else 1) + (if l.getD 2 true then 0 else 1) + (if l.getD 3 true then 0 else 1) + (if l.getD 4 true then 0 else 1) + (if l.getD 5 true then 0 else 1)
theorem nf_set {l : Array Bool} {d : Nat} (hs : l.size = 6) (hd : d < 6) (h : l.getD d true = false) : nf (l.setIfInBounds d true) + 1 = nf l := by
  unfold nf
  simp only [getL_set (l := l) (d := d) (by omega)]
  have : d = 0 ∨ d = 1 ∨ d = 2 ∨ d = 3 ∨ d = 4 ∨ d = 5 := by omega
  rcases this with rfl | rfl | rfl | rfl | rfl | rfl <;> simp [h] <;> omega

theorem at4 : ∃ o, ops80[4]? = some o ∧ o.after = #[{ on := 1, ground := .data }, { on := 2, ground := .data }, { on := 3, ground := .data }] := ⟨_, rfl, rfl⟩
theorem at5 : ∃ o, ops80[5]? = some o ∧ o.after = #[{ on := 0, ground := .data }, { on := 4, ground := .data }, { on := 4, ground := .chain }] := ⟨_, rfl, rfl⟩
theorem at0 {j : Nat} (h : j < 4) : ∃ o, ops80[j]? = some o ∧ o.after = #[] := by
  have : j = 0 ∨ j = 1 ∨ j = 2 ∨ j = 3 := by omega
  rcases this with rfl | rfl | rfl | rfl <;> exact ⟨_, rfl, rfl⟩
theorem ready4 {l : Array Bool} (h : 4 ∈ Region.ready .any ops80 l) : l.getD 1 true = true ∧ l.getD 2 true = true ∧ l.getD 3 true = true := by
  obtain ⟨_, o, ho, h⟩ := mem_ready.1 h
  obtain ⟨o', ho', ha⟩ := at4
  rw [ho'] at ho
  cases ho
  rw [ha] at h
  refine ⟨getD_ft (h { on := 1, ground := .data } ?_ rfl), getD_ft (h { on := 2, ground := .data } ?_ rfl), getD_ft (h { on := 3, ground := .data } ?_ rfl)⟩ <;> simp
theorem ready5 {l : Array Bool} (h : 5 ∈ Region.ready .any ops80 l) : l.getD 0 true = true ∧ l.getD 4 true = true := by
  obtain ⟨_, o, ho, h⟩ := mem_ready.1 h
  obtain ⟨o', ho', ha⟩ := at5
  rw [ho'] at ho
  cases ho
  rw [ha] at h
  refine ⟨getD_ft (h { on := 0, ground := .data } ?_ rfl), getD_ft (h { on := 4, ground := .data } ?_ rfl)⟩ <;> simp
theorem getD_tf {l : Array Bool} {x : Nat} (hx : x < l.size) (h : l.getD x true = true) : l.getD x false = true := by
  rw [Array.getD_eq_getD_getElem?, Array.getElem?_eq_getElem hx] at h ⊢
  exact h
theorem ready_some {l : Array Bool} (hs : l.size = 6) (h5 : l.getD 5 true = false) : Region.ready .any ops80 l ≠ [] := by
  have pick : ∀ j, j ∈ Region.ready .any ops80 l → Region.ready .any ops80 l ≠ [] := fun j hj e => by rw [e] at hj; cases hj
  have b : ∀ x, l.getD x true = true ∨ l.getD x true = false := fun x => by cases l.getD x true <;> simp
  rcases b 0 with h0 | h0
  · rcases b 1 with h1 | h1
    · rcases b 2 with h2 | h2
      · rcases b 3 with h3 | h3
        · rcases b 4 with h4 | h4
          · obtain ⟨o, ho, ha⟩ := at5
            refine pick 5 (mem_ready.2 ⟨h5, o, ho, fun e he _ => ?_⟩)
            rw [ha] at he
            simp at he
            rcases he with rfl | rfl | rfl
            · exact getD_tf (by rw [hs]; decide) h0
            · exact getD_tf (by rw [hs]; decide) h4
            · exact getD_tf (by rw [hs]; decide) h4
          · obtain ⟨o, ho, ha⟩ := at4
            refine pick 4 (mem_ready.2 ⟨h4, o, ho, fun e he _ => ?_⟩)
            rw [ha] at he
            simp at he
            rcases he with rfl | rfl | rfl
            · exact getD_tf (by rw [hs]; decide) h1
            · exact getD_tf (by rw [hs]; decide) h2
            · exact getD_tf (by rw [hs]; decide) h3
        · (obtain ⟨o, ho, ha⟩ := at0 (j := 3) (by omega); exact pick 3 (mem_ready.2 ⟨h3, o, ho, fun e he => by rw [ha] at he; simp at he⟩))
      · (obtain ⟨o, ho, ha⟩ := at0 (j := 2) (by omega); exact pick 2 (mem_ready.2 ⟨h2, o, ho, fun e he => by rw [ha] at he; simp at he⟩))
    · (obtain ⟨o, ho, ha⟩ := at0 (j := 1) (by omega); exact pick 1 (mem_ready.2 ⟨h1, o, ho, fun e he => by rw [ha] at he; simp at he⟩))
  · (obtain ⟨o, ho, ha⟩ := at0 (j := 0) (by omega); exact pick 0 (mem_ready.2 ⟨h0, o, ho, fun e he => by rw [ha] at he; simp at he⟩))

/-- Behind its send: the channel's box is what it still reads. -/
def Sent (bc : Nat) (g : Goroutine) : Prop := ∃ tm : Array Value, tm.size = 10 ∧ tm.getD 0 undef = .pointer (some ⟨bc, 0, none⟩) ∧ g = G (fr80 tm []) [bot Try.prog]
def PostAt (Post : Value → World → Prop) (O : Nat → Prop) (V : Value) (W : World) : Prop := ∀ W', (∀ b, O b → W'.heap[b]? = W.heap[b]?) → Post V W'
end Go.Proofs.Ytlndinigbppafaa
