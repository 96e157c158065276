/-
  A child of Proofs behind its send: it reads its channel's box, closes the channel, and leaves.
-/
import Derived.Test.YtlndinigbppafaaChE
import Derived.Conc.QuitsD
import Derived.Conc.Quits
namespace Go.Proofs.Ytlndinigbppafaa
open Go.Sim Go.Conc

/-- How far it is behind its send: 3 .. 0 steps ahead of the close. -/
def Aft (bc c : Nat) : Nat → Goroutine → Prop
  | 3, g => Sent bc g
  | 2, g => ∃ tm : Array Value, tm.size = 10 ∧ tm.getD 0 undef = .pointer (some ⟨bc, 0, none⟩) ∧ g = G (b80.at ⟨tm, []⟩ k80) [bot Try.prog]
  | 1, g => ∃ tm : Array Value, tm.size = 10 ∧ tm.getD 0 undef = .pointer (some ⟨bc, 0, none⟩) ∧ g = G (b80.at ⟨tm, []⟩ [.inRegion ops81 [0, 1]]) [bot Try.prog]
  | 0, g => ∃ tm : Array Value, tm.size = 10 ∧ tm.getD 9 undef = .chan (some c) ∧ g = G (b80.at ⟨tm, []⟩ [.inRegion ops81 [1]]) [bot Try.prog]
  | _, _ => False

theorem Aft.running {bc c k : Nat} {g : Goroutine} (h : Aft bc c k g) : g.status = .running := by
  match k, h with
  | 3, ⟨_, _, _, e⟩ => rw [e]; rfl
  | 2, ⟨_, _, _, e⟩ => rw [e]; rfl
  | 1, ⟨_, _, _, e⟩ => rw [e]; rfl
  | 0, ⟨_, _, _, e⟩ => rw [e]; rfl
  | _ + 4, h => exact h.elim

theorem aft_step {bc c k : Nat} {g : Goroutine} {W : World} (h : Aft bc c (k + 1) g) (hb : W.heap[bc]? = some (.cells #[.chan (some c)] 121)) :
    ∃ g' es, stepG Try.prog false g W = .go g' W es ∧ Aft bc c k g' ∧ ∀ x ∈ es, x = ⟨.cell ⟨bc, 0, none⟩, false, false⟩ := by
  match k, h with
  | 2, ⟨tm, h1, h2, e⟩ => exact ⟨_, #[], by rw [e]; unfold fr80; rw [stepG_region_end], ⟨tm, h1, h2, rfl⟩, by simp⟩
  | 1, ⟨tm, h1, h2, e⟩ => exact ⟨_, #[], by rw [e]; unfold k80; rw [stepG_region]; rfl, ⟨tm, h1, h2, rfl⟩, by simp⟩
  | 0, ⟨tm, h1, h2, e⟩ =>
    have he : Act.eval ⟨tm, []⟩ (.tmp 0) = .pointer (some ⟨bc, 0, none⟩) := h2
    have ha : (isAgg 121).run Try.prog W = .ok false W := by simp
    obtain ⟨o, ho⟩ : ∃ o, ops81[0]? = some o ∧ o.op = .load 121 (.tmp 0) ∧ o.guard = none ∧ o.dst = some 9 := ⟨_, rfl, rfl, rfl, rfl⟩
    have hr : (execOp (Act.eval ⟨tm, []⟩) o).run Try.prog W = .ok (.value (.chan (some c))) W := by
      unfold execOp
      rw [ho.2.1]
      dsimp only
      rw [he, Sem.run_bind, run_loadBox ha hb]
      rfl
    have hev : (execOp (Act.eval ⟨tm, []⟩) o).events Try.prog W #[] = #[⟨.cell ⟨bc, 0, none⟩, false, false⟩] := by
      unfold execOp
      rw [ho.2.1]
      dsimp only
      rw [he, Sem.events_bind, run_loadBox ha hb, ev_loadBox ha hb]
      rfl
    refine ⟨_, _, by rw [e, stepG_value ho.1 (by simp [Region.wanted, ho.2.2.1]) (by simp [b80]) hr, ho.2.2.2]; rfl, ⟨tm.setIfInBounds 9 (.chan (some c)), by simpa using h1, by rw [getD_set (by omega), if_pos rfl], rfl⟩, fun x hx => ?_⟩
    have := mem_seen hx
    rw [hev] at this
    simpa using this
  | _ + 3, h => exact h.elim

theorem quits80 (tm : Array Value) : QuitsIn Try.prog 4 (G (b80.at ⟨tm, []⟩ [.inRegion ops81 []]) [bot Try.prog]) := by
  refine QuitsIn.ctl rfl (fun w => stepG_region_end) ?_
  refine QuitsIn.ctl rfl (fun w => stepG_end) ?_
  refine QuitsIn.ctl (g' := G (bot Try.prog) []) rfl (fun w => ?_) ?_
  · simp [stepG, G, Frame.at, b80, unwind, doReturn, results, Try.func80, Try.results80, bot, seen, GStep.after]
    rfl
  · refine QuitsIn.ctl (g' := { frame := bot Try.prog, callers := [], status := .finished, dying := none }) rfl (fun w => ?_) ?_
    · simp [stepG, G, unwind, bot, Frame.catches, goexitEntry]
      rfl
    · exact rfl

theorem close_run {c cap s r : Nat} {buf : Array Value} {tm' : Bool} {W : World} (ts : Array TypeId) (ty : TypeId) (hc : W.heap[c]? = some (.chan cap buf false s r tm')) :
    (Builtin.close_ ts ty #[.chan (some c)]).run Try.prog W = .ok (.tuple #[]) (W.setChan c cap buf true s r tm') ∧ (Builtin.close_ ts ty #[.chan (some c)]).events Try.prog W #[] = #[⟨.obj c, false, true⟩, ⟨.obj c, true, true⟩] := by
  have g1 : (getObj c).run Try.prog W = .ok (.chan cap buf false s r tm') W := by simp [getObj, Sem.run, hc]
  have g2 : (getObj c).events Try.prog W #[] = #[⟨.obj c, false, true⟩] := by
    show ((Sem.getObj c Sem.pure).runT Try.prog W #[]).2 = _
    rw [Sem.runT, hc]
    rfl
  have s1 : (setObj c (.chan cap buf true s r tm')).run Try.prog W = .ok () (W.setChan c cap buf true s r tm') := by simp [setObj, Sem.run, hc, World.setChan]
  have s2 : (setObj c (.chan cap buf true s r tm')).events Try.prog W #[⟨.obj c, false, true⟩] = #[⟨.obj c, false, true⟩, ⟨.obj c, true, true⟩] := by
    show ((Sem.setObj c (.chan cap buf true s r tm') (Sem.pure ())).runT Try.prog W #[⟨.obj c, false, true⟩]).2 = _
    rw [Sem.runT, hc]
    rfl
  constructor
  · show (getObj c >>= _ : Sem Value).run Try.prog W = _
    rw [Sem.run_bind, g1]
    show (setObj c (.chan cap buf true s r tm') >>= _ : Sem Value).run Try.prog W = _
    rw [Sem.run_bind, s1]
    rfl
  · show (getObj c >>= _ : Sem Value).events Try.prog W #[] = _
    rw [Sem.events_bind, g1, g2]
    show (setObj c (.chan cap buf true s r tm') >>= _ : Sem Value).events Try.prog W #[⟨.obj c, false, true⟩] = _
    rw [Sem.events_bind, s1, s2]
    rfl

theorem aft_close {bc c cap s r : Nat} {buf : Array Value} {tm' : Bool} {g : Goroutine} {W : World} (h : Aft bc c 0 g) (hc : W.heap[c]? = some (.chan cap buf false s r tm')) :
    ∃ g', stepG Try.prog false g W = .go g' (W.setChan c cap buf true s r tm') #[⟨.obj c, false, true⟩, ⟨.obj c, true, true⟩] ∧ QuitsIn Try.prog 4 g' ∧ g'.status = .running ∧ mayWake Try.prog g = true := by
  obtain ⟨tm, h1, h2, e⟩ := h
  have he : Act.eval ⟨tm, []⟩ (.tmp 9) = .chan (some c) := h2
  obtain ⟨o, ho⟩ : ∃ o, ops81[1]? = some o ∧ o.op = .call { callee := .builtin .close, args := #[.tmp 9], argTypes := #[121] } ∧ o.guard = none ∧ o.dst = none := ⟨_, rfl, rfl, rfl, rfl⟩
  obtain ⟨c1, c2⟩ := close_run #[121] o.type hc
  have hx : execOp (Act.eval ⟨tm, []⟩) o = (do pure (.value (← Builtin.close_ #[121] o.type #[.chan (some c)]))) := by
    have hm : (#[Operand.tmp 9]).map (Act.eval ⟨tm, []⟩) = #[.chan (some c)] := by simp [he]
    unfold execOp
    rw [ho.2.1]
    show (resolve (Act.eval ⟨tm, []⟩) { callee := .builtin .close, args := #[.tmp 9], argTypes := #[121] } o.type >>= fun d => invoke d.target d.args) = _
    unfold resolve
    simp only [hm]
    rfl
  have hr : (execOp (Act.eval ⟨tm, []⟩) o).run Try.prog W = .ok (.value (.tuple #[])) (W.setChan c cap buf true s r tm') := by
    rw [hx, Sem.run_bind, c1]; rfl
  have hev : (execOp (Act.eval ⟨tm, []⟩) o).events Try.prog W #[] = #[⟨.obj c, false, true⟩, ⟨.obj c, true, true⟩] := by
    rw [hx, Sem.events_bind, c1, c2]; rfl
  refine ⟨_, ?_, quits80 tm, rfl, by rw [e]; rfl⟩
  rw [e, stepG_value ho.1 (by simp [Region.wanted, ho.2.2.1]) (by simp [b80]) hr, ho.2.2.2]
  unfold listed
  rw [hev]
  have : seen Try.prog b80.fn #[⟨.obj c, false, true⟩, ⟨.obj c, true, true⟩] = #[⟨.obj c, false, true⟩, ⟨.obj c, true, true⟩] := by simp [seen]
  rw [this]
  rfl
end Go.Proofs.Ytlndinigbppafaa
