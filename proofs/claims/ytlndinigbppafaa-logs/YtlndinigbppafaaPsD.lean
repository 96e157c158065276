/-
  startMember: the walk.
-/
import Derived.Test.YtlndinigbppafaaPsC
namespace Go.Proofs.Ytlndinigbppafaa
open Go.Sim Go.Conc

theorem run_v {m : Sem Value} {w w' : World} {v : Value} (h : m.run Try.prog w = .ok v w') : (do pure (Next.value (← m)) : Sem Next).run Try.prog w = .ok (.value v) w' := by rw [Sem.run_bind, h]; rfl
theorem ev_v {m : Sem Value} {w w' : World} {v : Value} (h : m.run Try.prog w = .ok v w') : (do pure (Next.value (← m)) : Sem Next).events Try.prog w #[] = m.events Try.prog w #[] := by rw [Sem.events_bind, h]; rfl

section
variable {ver : Value} {N : Nat} {Fin : St → (Nat → Prop) → Goroutine → World → Prop} {s : St} {PB : Nat → Prop} {F F' : World → Prop} {b b₀ : Frame} {a a₀ : Act} {k : List Item} {cs : List Frame} {ops : Array Oper} {i j : Nat} {rest : List Nat} {o : Oper} {g : Goroutine}

theorem AtP.mono (h : ∀ w, F' w → F w) (hA : AtP ver N Fin s PB F g) : AtP ver N Fin s PB F' g := fun w hw => hA w (h w hw)

theorem AtP.box {t : TypeId} {x : Operand} {v : Value} (hO : Ok PB s F) (hk : b.kind ≠ .early) (ho : ops[i]? = some o) (hg : o.guard = none) (hop : o.op = .box t x) (hx : a.eval x = v) (hc : v.cells = #[v])
    (hK : ∀ r, ¬ PB r → ¬ s.rd r → AtP ver N Fin s (fun b => PB b ∨ b = r) (And1 F r (.cells #[v] t)) (G (b.at (a.put o.dst (.pointer (some ⟨r, 0, none⟩))) (.inRegion ops rest :: k)) cs)) :
    AtP ver N Fin s PB F (G (b.at a (.inRegion ops (i :: rest) :: k)) cs) := by
  refine AtP.alloc (v := fun r => .pointer (some ⟨r, 0, none⟩)) hO hk ho hg (fun w _ => ?_) hK
  obtain ⟨h1, h2⟩ := box_run t v w
  rw [hc] at h1
  unfold execOp
  simp only [hop, hx]
  exact ⟨run_v h1, fun e he => by rw [ev_v h1, h2] at he; simp at he⟩

theorem Ok.add {r : Nat} {ob : Obj} (h : Ok PB s F) : Ok (fun b => PB b ∨ b = r) s (And1 F r ob) := h.and1 (fun _ q => .inl q) (.inr rfl) fun _ q => q

theorem rd_more {c bc : Nat} {x : Nat} : (s.more c bc).rd x ↔ s.rd x ∨ x = bc := by
  unfold St.rd St.more
  constructor
  · rintro ⟨p, hp, rfl⟩
    rcases List.mem_append.1 hp with hp | hp
    · exact .inl ⟨p, hp, rfl⟩
    · simp at hp; subst hp; exact .inr rfl
  · rintro (⟨p, hp, rfl⟩ | rfl)
    · exact ⟨p, List.mem_append_left _ hp, rfl⟩
    · exact ⟨(c, x), by simp, rfl⟩

/-- The frame at the go statement. -/
def a64 (ver : Value) (i n : Nat) (bv bi bn c bc : Nat) : Act :=
  ⟨#[ver, .int .i64 i, .int .i64 n, .pointer (some ⟨bv, 0, none⟩), .pointer (some ⟨bi, 0, none⟩), .pointer (some ⟨bn, 0, none⟩), .chan none, .pointer (some ⟨bc, 0, none⟩), .chan (some c), .func (.func 80) #[] #[.pointer (some ⟨bc, 0, none⟩), .pointer (some ⟨bv, 0, none⟩), .pointer (some ⟨bi, 0, none⟩), .pointer (some ⟨bn, 0, none⟩)], undef], []⟩

/-- STARTMEMBER. -/
theorem start_at (hO : Ok PB s F) (hi : s.cs.length < N) (hver : ver.cells = #[ver])
    (hK : ∀ c bc, ¬ PB bc → AtP ver N Fin (s.more c bc) PB (And1 F bc (.cells #[.chan (some c)] 121)) (G (b₀.at (a₀.put ((ops[j]?).bind (·.dst)) (.chan (some c))) (.inRegion ops rest :: k)) cs)) :
    AtP ver N Fin s PB F (G ((base 64).at { tmps := #[ver, .int .i64 s.cs.length, .int .i64 N, undef, undef, undef, undef, undef, undef, undef, undef], defers := [] } [.code c64]) (b₀.at a₀ (.inRegion ops (j :: rest) :: k) :: cs)) := by
  have hkd : (base 64).kind ≠ .early := by intro h; cases h
  refine AtP.seq hO.stab (AtP.into hO.stab ?_)
  refine AtP.box hO hkd (o := r64_0[0]) rfl rfl rfl rfl hver fun bv n1 m1 => ?_
  show AtP _ _ _ _ _ _ (G ((base 64).at (⟨#[ver, .int .i64 s.cs.length, .int .i64 N, .pointer (some ⟨bv, 0, none⟩), undef, undef, undef, undef, undef, undef, undef], []⟩ : Act) _) _)
  have O1 := hO.add (r := bv) (ob := .cells #[ver] 84)
  refine AtP.box O1 hkd (o := r64_0[1]) (v := .int .i64 s.cs.length) rfl rfl rfl rfl rfl fun bi n2 m2 => ?_
  show AtP _ _ _ _ _ _ (G ((base 64).at (⟨#[ver, .int .i64 s.cs.length, .int .i64 N, .pointer (some ⟨bv, 0, none⟩), .pointer (some ⟨bi, 0, none⟩), undef, undef, undef, undef, undef, undef], []⟩ : Act) _) _)
  have O2 := O1.add (r := bi) (ob := .cells #[.int .i64 s.cs.length] 3)
  refine AtP.box O2 hkd (o := r64_0[2]) (v := .int .i64 N) rfl rfl rfl rfl rfl fun bn n3 m3 => ?_
  show AtP _ _ _ _ _ _ (G ((base 64).at (⟨#[ver, .int .i64 s.cs.length, .int .i64 N, .pointer (some ⟨bv, 0, none⟩), .pointer (some ⟨bi, 0, none⟩), .pointer (some ⟨bn, 0, none⟩), undef, undef, undef, undef, undef], []⟩ : Act) _) _)
  have O3 := O2.add (r := bn) (ob := .cells #[.int .i64 N] 3)
  refine AtP.pures (l := [3]) (rest := []) (a' := ⟨#[ver, .int .i64 s.cs.length, .int .i64 N, .pointer (some ⟨bv, 0, none⟩), .pointer (some ⟨bi, 0, none⟩), .pointer (some ⟨bn, 0, none⟩), .chan none, undef, undef, undef, undef], []⟩) O3.stab hkd rfl (AtP.out O3.stab ?_)
  refine AtP.seq O3.stab (AtP.into O3.stab ?_)
  refine AtP.alloc (ob := .chan 1 #[] false 0 0 false) (v := fun r => .chan (some r)) O3 hkd (o := r64_1[0]) rfl rfl (fun w _ => ?_) fun c n4 m4 => ?_
  · obtain ⟨h1, h2⟩ := makeChan_run w
    exact ⟨run_v h1, fun e he => by
      have he' : e ∈ (do pure (Next.value (← Instr.makeChan 121 (.int .i64 1))) : Sem Next).events Try.prog w #[] := he
      rw [ev_v h1, h2] at he'; simp at he'⟩
  show AtP _ _ _ _ _ _ (G ((base 64).at (⟨#[ver, .int .i64 s.cs.length, .int .i64 N, .pointer (some ⟨bv, 0, none⟩), .pointer (some ⟨bi, 0, none⟩), .pointer (some ⟨bn, 0, none⟩), .chan none, undef, .chan (some c), undef, undef], []⟩ : Act) _) _)
  have O4 := O3.add (r := c) (ob := .chan 1 #[] false 0 0 false)
  refine AtP.alloc (ob := .cells #[.chan none] 121) (v := fun r => .pointer (some ⟨r, 0, none⟩)) O4 hkd (o := r64_1[1]) rfl rfl (fun w _ => ?_) fun bc n5 m5 => ?_
  · obtain ⟨h1, h2⟩ := alloc_run Try.zero121 w
    exact ⟨run_v h1, fun e he => by
      have he' : e ∈ (do pure (Next.value (← Instr.alloc 121 true (.tuple #[]))) : Sem Next).events Try.prog w #[] := he
      rw [ev_v h1, h2] at he'; simp at he'⟩
  show AtP _ _ _ _ _ _ (G ((base 64).at (⟨#[ver, .int .i64 s.cs.length, .int .i64 N, .pointer (some ⟨bv, 0, none⟩), .pointer (some ⟨bi, 0, none⟩), .pointer (some ⟨bn, 0, none⟩), .chan none, .pointer (some ⟨bc, 0, none⟩), .chan (some c), undef, undef], []⟩ : Act) _) _)
  have O5 := O4.add (r := bc) (ob := .cells #[.chan none] 121)
  refine AtP.store (r := bc) (off := 0) (v := .chan (some c)) (fun w w₁ hw hR => O4.stab w w₁ hw ⟨hR.size, fun b hb => hR.keep b (hb.imp (fun q => ⟨.inl q, fun e => n5 (e ▸ q)⟩) id)⟩) O5.stab hkd (o := r64_1[2]) rfl rfl rfl (.inr rfl) m5 rfl rfl Try.size121 rfl rfl (by simp) ?_
  show AtP _ _ _ _ _ _ (G ((base 64).at (⟨#[ver, .int .i64 s.cs.length, .int .i64 N, .pointer (some ⟨bv, 0, none⟩), .pointer (some ⟨bi, 0, none⟩), .pointer (some ⟨bn, 0, none⟩), .chan none, .pointer (some ⟨bc, 0, none⟩), .chan (some c), undef, undef], []⟩ : Act) _) _)
  have O6 := O4.add (r := bc) (ob := .cells #[.chan (some c)] 121)
  refine AtP.out O6.stab (AtP.seq O6.stab (AtP.into O6.stab ?_))
  refine AtP.pures (l := [0]) (rest := [1]) (a' := a64 ver s.cs.length N bv bi bn c bc) O6.stab hkd (by simp [pureOps, pv, r64_2, a64, Act.put, Act.eval]) ?_
  -- the go statement
  show AtP ver N Fin s (fun x => ((((PB x ∨ x = bv) ∨ x = bi) ∨ x = bn) ∨ x = c) ∨ x = bc) (And1 (And1 (And1 (And1 (And1 F bv (.cells #[ver] 84)) bi (.cells #[.int .i64 s.cs.length] 3)) bn (.cells #[.int .i64 N] 3)) c (.chan 1 #[] false 0 0 false)) bc (.cells #[.chan (some c)] 121))
    (G ((base 64).at (a64 ver s.cs.length N bv bi bn c bc) [.inRegion r64_2 [1], .code (.seq (.region 3 r64_3 false) .ret)]) (b₀.at a₀ (.inRegion ops (j :: rest) :: k) :: cs))
  intro w hw
  have hnotc : ¬ RdB bc bv bi bn c := by
    rintro (q | q | q | q)
    · exact n5 (.inr q.symm)
    · exact n4 (.inl (.inl (.inr q)))
    · exact n4 (.inl (.inr q))
    · exact n4 (.inr q)
  have hPB : (fun x => (((((PB x ∨ x = bv) ∨ x = bi) ∨ x = bn) ∨ x = c) ∨ x = bc) ∧ ¬ Give bc bv bi bn c x) = PB := by
    funext x
    apply propext
    constructor
    · rintro ⟨q, hn⟩
      unfold Give RdB at hn
      rcases q with ((((q | q) | q) | q) | q) | q
      · exact q
      all_goals exact absurd (by simp [q]) hn
    · intro q
      refine ⟨.inl (.inl (.inl (.inl (.inl q)))), ?_⟩
      rintro ((e | e | e | e) | e)
      · exact n5 (.inl (.inl (.inl (.inl (e ▸ q)))))
      · exact n1 (e ▸ q)
      · exact n2 (.inl (e ▸ q))
      · exact n3 (.inl (.inl (e ▸ q)))
      · exact n4 (.inl (.inl (.inl (e ▸ q))))
  obtain ⟨⟨⟨⟨⟨hF, hbv⟩, hbi⟩, hbn⟩, hc⟩, hbc⟩ := hw
  refine PS.spawn (g' := G ((base 64).at (a64 ver s.cs.length N bv bi bn c bc) [.inRegion r64_2 [], .code (.seq (.region 3 r64_3 false) .ret)]) (b₀.at a₀ (.inRegion ops (j :: rest) :: k) :: cs)) bc bv bi bn c false rfl (fun x hx => ?_) hnotc hi (fun w₁ _ => ?_) ⟨hbc, hbv, hbi, hbn⟩ hc ?_
  · rcases hx with (e | e | e | e) | e
    · exact .inr e
    · exact .inl (.inl (.inl (.inl (.inr e))))
    · exact .inl (.inl (.inl (.inr e)))
    · exact .inl (.inl (.inr e))
    · exact .inl (.inr e)
  · rw [stepG_spawn (o := r64_2[1]) (d := childD bc bv bi bn) (w' := w₁) rfl rfl hkd (by simp [r64_2, execOp, resolve, Deferred.ofValue, a64, Act.eval, childD]) rfl]
    have : listed Try.prog (base 64).fn (a64 ver s.cs.length N bv bi bn c bc) r64_2[1] w₁ = #[] := by
      unfold listed
      rw [show (execOp (a64 ver s.cs.length N bv bi bn c bc).eval r64_2[1]).events Try.prog w₁ #[] = #[] by simp [r64_2, execOp, resolve, Deferred.ofValue, a64, Act.eval], seen_none]
    rw [this]
    rfl
  · rw [hPB]
    have O7 : Ok PB (s.more c bc) (And1 F bc (.cells #[.chan (some c)] 121)) := by
      refine ⟨fun w w₁ hw hR => ⟨hO.stab w w₁ hw.1 ⟨hR.size, fun x hx => hR.keep x (hx.imp id fun q => rd_more.2 (.inl q))⟩, ?_⟩, fun w hw x hx => ?_⟩
      · rw [hR.keep bc (.inr (rd_more.2 (.inr rfl)))]; exact hw.2
      · rcases hx with hx | hx
        · exact hO.low w hw.1 x (.inl hx)
        · rcases rd_more.1 hx with hx | rfl
          · exact hO.low w hw.1 x (.inr hx)
          · exact (Array.getElem?_eq_some_iff.1 hw.2).1
    have fin : AtP ver N Fin (s.more c bc) PB (And1 F bc (.cells #[.chan (some c)] 121)) (G ((base 64).at (a64 ver s.cs.length N bv bi bn c bc) [.inRegion r64_2 [], .code (.seq (.region 3 r64_3 false) .ret)]) (b₀.at a₀ (.inRegion ops (j :: rest) :: k) :: cs)) := by
      refine AtP.out O7.stab (AtP.seq O7.stab (AtP.into O7.stab ?_))
      refine AtP.load (r := bc) (off := 0) (v := .chan (some c)) (o := r64_3[0]) O7.stab hkd rfl rfl rfl (.inr (rd_more.2 (.inr rfl))) rfl (fun w => by simp) (fun w hw => hw.2) rfl ?_
      refine AtP.pures (l := [1]) (rest := []) O7.stab hkd rfl (AtP.out O7.stab (AtP.ret O7.stab ?_))
      exact AtP.leave1 O7.stab rfl rfl Try.func64 rfl (hK c bc fun q => n5 (.inl (.inl (.inl (.inl q)))))
    exact fin w ⟨hF, hbc⟩
end
end Go.Proofs.Ytlndinigbppafaa
