/-
  A child of Proofs, from its birth to its send: the region that reads its four boxes and calls member, in whatever order.
-/
import Derived.Test.YtlndinigbppafaaChA
import Derived.Test.YtlndinigbppafaaProg
import Derived.Conc.Own2
import Derived.Orders
namespace Go.Proofs.Ytlndinigbppafaa
open Go.Sim Go.Conc

def ops80 : Array Oper :=
  #[{ dst := some 4, op := .load 121 (.tmp 0), type := 121, pos := "log.go:143", after := #[], guard := none },
    { dst := some 5, op := .load 84 (.tmp 1), type := 84, pos := "log.go:143", after := #[], guard := none },
    { dst := some 6, op := .load 3 (.tmp 2), type := 3, pos := "log.go:143", after := #[], guard := none },
    { dst := some 7, op := .load 3 (.tmp 3), type := 3, pos := "log.go:143", after := #[], guard := none },
    { dst := some 8, op := .call { callee := .value (.func 45), args := #[.tmp 5, .tmp 6, .tmp 7], argTypes := #[84, 3, 3] }, type := 24, pos := "log.go:143",
      after := #[{ on := 1, ground := .data }, { on := 2, ground := .data }, { on := 3, ground := .data }], guard := none },
    { dst := none, op := .send (.tmp 4) (.tmp 8), type := 0, pos := "log.go:143", after := #[{ on := 0, ground := .data }, { on := 4, ground := .data }, { on := 4, ground := .chain }], guard := none }]
def ops81 : Array Oper :=
  #[{ dst := some 9, op := .load 121 (.tmp 0), type := 121, pos := "log.go:144", after := #[], guard := none },
    { dst := none, op := .call { callee := .builtin .close, args := #[.tmp 9], argTypes := #[121] }, type := 0, pos := "log.go:144", after := #[{ on := 0, ground := .data }], guard := none }]
theorem body80 : Try.f80.body = some (.seq (.region 0 ops80 true) (.region 1 ops81 false)) := rfl

/-- The frame beneath a goroutine's function. -/
def bot (P : Program) : Frame := { (default : Frame) with fn := P.funcs.size, defers := [], mode := .panicking [goexitEntry] }
def b80 : Frame := { fn := 80, tmps := #[], todo := [], defers := [], mode := .run, kind := .deferred }
def k80 : List Item := [.code (.region 1 ops81 false)]

/-- The four variables that a child has caught. -/
structure Boxes (bc bv bi bn c : Nat) (ver : Value) (i n : Int) (W : World) : Prop where
  hc : W.heap[bc]? = some (.cells #[.chan (some c)] 121)
  hv : W.heap[bv]? = some (.cells #[ver] 84)
  hi : W.heap[bi]? = some (.cells #[.int .i64 i] 3)
  hn : W.heap[bn]? = some (.cells #[.int .i64 n] 3)
def RdB (bc bv bi bn : Nat) (b : Nat) : Prop := b = bc ∨ b = bv ∨ b = bi ∨ b = bn
theorem Boxes.rely {bc bv bi bn c : Nat} {ver : Value} {i n : Int} {O : Nat → Prop} {W W₁ : World} (h : Boxes bc bv bi bn c ver i n W) (hr : RelyC O (RdB bc bv bi bn) W W₁) : Boxes bc bv bi bn c ver i n W₁ := by
  refine ⟨?_, ?_, ?_, ?_⟩
  · rw [hr.keep bc (.inr (.inl rfl))]; exact h.hc
  · rw [hr.keep bv (.inr (.inr (.inl rfl)))]; exact h.hv
  · rw [hr.keep bi (.inr (.inr (.inr (.inl rfl))))]; exact h.hi
  · rw [hr.keep bn (.inr (.inr (.inr (.inr rfl))))]; exact h.hn

theorem run_loadBox {W : World} {b e : Nat} {v : Value} {t : TypeId} (ha : (isAgg t).run Try.prog W = .ok false W) (hb : W.heap[b]? = some (.cells #[v] e)) :
    (Instr.loadAt t (.pointer (some ⟨b, 0, none⟩))).run Try.prog W = .ok v W := by
  unfold Instr.loadAt loadVar Instr.sureAddr
  simp only [Sem.run_bind]
  rw [show (pure (⟨b, 0, none⟩ : Addr) : Sem Addr).run Try.prog W = .ok ⟨b, 0, none⟩ W from rfl]
  simp only [Result.andThen_ok]
  rw [ha]
  simp [load, Sem.run, World.cell?, hb]
theorem ev_loadBox {W : World} {b e : Nat} {v : Value} {t : TypeId} (ha : (isAgg t).run Try.prog W = .ok false W) (hb : W.heap[b]? = some (.cells #[v] e)) :
    (Instr.loadAt t (.pointer (some ⟨b, 0, none⟩))).events Try.prog W #[] = #[⟨.cell ⟨b, 0, none⟩, false, false⟩] := by
  unfold Instr.loadAt loadVar Instr.sureAddr
  rw [Sem.events_bind]
  rw [show (pure (⟨b, 0, none⟩ : Addr) : Sem Addr).run Try.prog W = .ok ⟨b, 0, none⟩ W from rfl]
  simp only [Result.evThen_ok, Sem.events_pure]
  rw [Sem.events_bind, ha]
  simp [events_load, World.cell?, hb]

theorem guar_read {O Rd : Nat → Prop} {W : World} {b : Nat} (hb : Rd b) {es : Array Event} (he : ∀ e ∈ es, e = ⟨.cell ⟨b, 0, none⟩, false, false⟩) : GuarC O Rd W W es :=
  ⟨Nat.le_refl _, fun _ _ _ => rfl, rfl, rfl, rfl, fun e h => by rw [he e h]; exact .inr ⟨rfl, b, .inl ⟨_, rfl, rfl⟩, .inr ⟨hb, rfl⟩⟩⟩
theorem guar_none {O Rd : Nat → Prop} {W W' : World} (h1 : W'.heap = W.heap) (h2 : W'.tape = W.tape) (h3 : W'.os = W.os) (h4 : W'.output = W.output) : GuarC O Rd W W' #[] :=
  ⟨by rw [h1]; exact Nat.le_refl _, fun _ _ _ => by rw [h1], h2, h3, h4, fun e h => by simp at h⟩
theorem grow_same {O : Nat → Prop} {W W' : World} (h : W'.heap = W.heap) : grow O W W' = O := by
  funext b
  unfold grow
  rw [h]
  apply propext
  constructor
  · rintro (h | h)
    · exact h
    · omega
  · exact .inl

/-- The order that is left, where 'listed' are done. -/
def lin (fuel t : Nat) (listed : Array Bool) : List Nat := Region.linearise.go .any ops80 fuel t listed []
theorem lin_succ (fuel t : Nat) (listed : Array Bool) : lin (fuel + 1) t listed = match (Region.ready .any ops80 listed)[t % (Region.ready .any ops80 listed).length]? with
    | some i => i :: lin fuel (t / (Region.ready .any ops80 listed).length) (listed.setIfInBounds i true)
    | none => [] := by
  unfold lin
  rw [Region.linearise.go]
  show (match (Region.ready .any ops80 listed)[t % (Region.ready .any ops80 listed).length]? with
    | some i => Region.linearise.go .any ops80 fuel (t / (Region.ready .any ops80 listed).length) (listed.setIfInBounds i true) [i]
    | none => []) = _
  split
  · rw [linearise_go_acc]; rfl
  · rfl

/-- What the temporaries hold where 'listed' are done. -/
structure TmpsOK (bc bv bi bn c : Nat) (ver : Value) (i n : Int) (listed : Array Bool) (tm : Array Value) : Prop where
  size : tm.size = 10
  lsize : listed.size = 6
  t0 : tm.getD 0 undef = .pointer (some ⟨bc, 0, none⟩)
  t1 : tm.getD 1 undef = .pointer (some ⟨bv, 0, none⟩)
  t2 : tm.getD 2 undef = .pointer (some ⟨bi, 0, none⟩)
  t3 : tm.getD 3 undef = .pointer (some ⟨bn, 0, none⟩)
  t4 : listed.getD 0 true = true → tm.getD 4 undef = .chan (some c)
  t5 : listed.getD 1 true = true → tm.getD 5 undef = ver
  t6 : listed.getD 2 true = true → tm.getD 6 undef = .int .i64 i
  t7 : listed.getD 3 true = true → tm.getD 7 undef = .int .i64 n
  no5 : listed.getD 5 true = false

theorem getD_set {tm : Array Value} {d x : Nat} {v u : Value} (hd : d < tm.size) : (tm.setIfInBounds d v).getD x u = if d = x then v else tm.getD x u := by
  rw [Array.getD_eq_getD_getElem?, Array.getElem?_setIfInBounds]
  split
  · rename_i h; subst h; rfl
  · rw [← Array.getD_eq_getD_getElem?]
theorem getL_set {l : Array Bool} {d x : Nat} (hd : d < l.size) : (l.setIfInBounds d true).getD x true = if d = x then true else l.getD x true := by
  rw [Array.getD_eq_getD_getElem?, Array.getElem?_setIfInBounds]
  split
  · rename_i h; subst h; rfl
  · rw [← Array.getD_eq_getD_getElem?]
theorem getD_ft {l : Array Bool} {x : Nat} (h : l.getD x false = true) : l.getD x true = true := by
  rw [Array.getD_eq_getD_getElem?] at h ⊢
  cases hx : l[x]? with
  | none => rw [hx] at h; cases h
  | some b => rw [hx] at h; simpa using h

section
variable {bc bv bi bn c : Nat} {ver : Value} {i n : Int} {listed : Array Bool} {tm : Array Value}
theorem TmpsOK.load0 (h : TmpsOK bc bv bi bn c ver i n listed tm) : TmpsOK bc bv bi bn c ver i n (listed.setIfInBounds 0 true) (tm.setIfInBounds 4 (.chan (some c))) := by
  have s := h.size; have l := h.lsize
  constructor <;> simp (config := { decide := true }) only [Array.size_setIfInBounds, getD_set (tm := tm) (d := 4) (by omega), getL_set (l := listed) (d := 0) (by omega), if_false, if_true, s, l, h.t0, h.t1, h.t2, h.t3, h.no5] <;> first | exact h.t5 | exact h.t6 | exact h.t7 | (intros; trivial)
theorem TmpsOK.load1 (h : TmpsOK bc bv bi bn c ver i n listed tm) : TmpsOK bc bv bi bn c ver i n (listed.setIfInBounds 1 true) (tm.setIfInBounds 5 ver) := by
  have s := h.size; have l := h.lsize
  constructor <;> simp (config := { decide := true }) only [Array.size_setIfInBounds, getD_set (tm := tm) (d := 5) (by omega), getL_set (l := listed) (d := 1) (by omega), if_false, if_true, s, l, h.t0, h.t1, h.t2, h.t3, h.no5] <;> first | exact h.t4 | exact h.t6 | exact h.t7 | (intros; trivial)
theorem TmpsOK.load2 (h : TmpsOK bc bv bi bn c ver i n listed tm) : TmpsOK bc bv bi bn c ver i n (listed.setIfInBounds 2 true) (tm.setIfInBounds 6 (.int .i64 i)) := by
  have s := h.size; have l := h.lsize
  constructor <;> simp (config := { decide := true }) only [Array.size_setIfInBounds, getD_set (tm := tm) (d := 6) (by omega), getL_set (l := listed) (d := 2) (by omega), if_false, if_true, s, l, h.t0, h.t1, h.t2, h.t3, h.no5] <;> first | exact h.t4 | exact h.t5 | exact h.t7 | (intros; trivial)
theorem TmpsOK.load3 (h : TmpsOK bc bv bi bn c ver i n listed tm) : TmpsOK bc bv bi bn c ver i n (listed.setIfInBounds 3 true) (tm.setIfInBounds 7 (.int .i64 n)) := by
  have s := h.size; have l := h.lsize
  constructor <;> simp (config := { decide := true }) only [Array.size_setIfInBounds, getD_set (tm := tm) (d := 7) (by omega), getL_set (l := listed) (d := 3) (by omega), if_false, if_true, s, l, h.t0, h.t1, h.t2, h.t3, h.no5] <;> first | exact h.t4 | exact h.t5 | exact h.t6 | (intros; trivial)
theorem TmpsOK.call4 (h : TmpsOK bc bv bi bn c ver i n listed tm) (V : Value) : TmpsOK bc bv bi bn c ver i n (listed.setIfInBounds 4 true) (tm.setIfInBounds 8 V) := by
  have s := h.size; have l := h.lsize
  constructor <;> simp (config := { decide := true }) only [Array.size_setIfInBounds, getD_set (tm := tm) (d := 8) (by omega), getL_set (l := listed) (d := 4) (by omega), if_false, s, l, h.t0, h.t1, h.t2, h.t3, h.no5] <;> first | exact h.t4 | exact h.t5 | exact h.t6 | exact h.t7
end

/-- The frame in its region. -/
def fr80 (tm : Array Value) (L : List Nat) : Frame := b80.at ⟨tm, []⟩ (.inRegion ops80 L :: k80)
theorem step_load {tm : Array Value} {j b e : Nat} {rest : List Nat} {o : Oper} {v : Value} {t d : Nat} {W : World} (ho : ops80[j]? = some o) (hop : o.op = .load t (.tmp j)) (hg : o.guard = none) (hd : o.dst = some d) (hp : tm.getD j undef = .pointer (some ⟨b, 0, none⟩))
    (ha : (isAgg t).run Try.prog W = .ok false W) (hb : W.heap[b]? = some (.cells #[v] e)) :
    ∃ es, stepG Try.prog false (G (fr80 tm (j :: rest)) [bot Try.prog]) W = .go (G (fr80 (tm.setIfInBounds d v) rest) [bot Try.prog]) W es ∧ ∀ x ∈ es, x = ⟨.cell ⟨b, 0, none⟩, false, false⟩ := by
  have he : Act.eval ⟨tm, []⟩ (.tmp j) = .pointer (some ⟨b, 0, none⟩) := hp
  have hr : (execOp (Act.eval ⟨tm, []⟩) o).run Try.prog W = .ok (.value v) W := by
    unfold execOp
    rw [hop]
    dsimp only
    rw [he, Sem.run_bind, run_loadBox ha hb]
    rfl
  have hev : (execOp (Act.eval ⟨tm, []⟩) o).events Try.prog W #[] = #[⟨.cell ⟨b, 0, none⟩, false, false⟩] := by
    unfold execOp
    rw [hop]
    dsimp only
    rw [he, Sem.events_bind, run_loadBox ha hb, ev_loadBox ha hb]
    rfl
  refine ⟨_, by unfold fr80; rw [stepG_value ho (by simp [Region.wanted, hg]) (by simp [b80]) hr, hd]; rfl, fun x hx => ?_⟩
  have := mem_seen hx
  rw [hev] at this
  simpa using this
end Go.Proofs.Ytlndinigbppafaa
