/-
  proofs: its second loop.
-/
import Derived.Test.YtlndinigbppafaaPsF
namespace Go.Proofs.Ytlndinigbppafaa
open Go.Sim Go.Conc

section
variable {ver : Value} {N : Nat} {Fin : St → (Nat → Prop) → Goroutine → World → Prop} {s : St} {PB : Nat → Prop} {F : World → Prop} {b : Frame} {a : Act} {k : List Item} {cs : List Frame} {ops : Array Oper} {i c bc : Nat} {rest : List Nat} {o : Oper} {x : Operand} {ch ga : Nat}

theorem served_G (fr : Frame) (cs : List Frame) (v : Value) : Go.Conc.served (G fr cs) v = G (fr.finish v) cs := rfl

theorem step_recv (hk : b.kind ≠ .early) (ho : ops[i]? = some o) (hg : o.guard = none) (hop : o.op = .recv 107 x true) (hx : a.eval x = .chan (some c)) (w : World) :
    stepG Try.prog true (G (b.at a (.inRegion ops (i :: rest) :: k)) cs) w = .comm (G (b.at a (.inRegion ops (i :: rest) :: k)) cs) #[rcase c (.slice none 0 0)] true (.recv true) w #[] := by
  obtain ⟨h1, h2⟩ := recv_run hop hx w
  rw [stepG_comm ho (wanted_of hg) hk h1]
  unfold listed
  rw [h2, seen_none]

theorem At.recv (hS : Stab PB s F) (hk : b.kind ≠ .early) (ho : ops[i]? = some o) (hg : o.guard = none) (hop : o.op = .recv 107 x true) (hx : a.eval x = .chan (some c)) (hcs : s.cs[s.cur]? = some (c, bc)) (hgot : s.got = false)
    (hK : ∀ V, Sl V → At ver N Fin (s.take V) PB F (G (b.at (a.put o.dst (.tuple #[V, .bool true])) (.inRegion ops rest :: k)) cs)) : At ver N Fin s PB F (G (b.at a (.inRegion ops (i :: rest) :: k)) cs) := by
  intro w hw
  refine PS.recv c bc (.slice none 0 0) rfl hcs hgot (fun w₁ _ => step_recv hk ho hg hop hx w₁) fun V w₁ hV hR => ?_
  have := hK V hV w₁ (hS w w₁ hw hR)
  rw [served_G, Frame.finish_at, ho]
  exact this
theorem At.shut (hS : Stab PB s F) (hk : b.kind ≠ .early) (ho : ops[i]? = some o) (hg : o.guard = none) (hop : o.op = .recv 107 x true) (hx : a.eval x = .chan (some c)) (hcs : s.cs[s.cur]? = some (c, bc)) (hgot : s.got = true)
    (hK : At ver N Fin s.next PB F (G (b.at (a.put o.dst (.tuple #[.slice none 0 0, .bool false])) (.inRegion ops rest :: k)) cs)) : At ver N Fin s PB F (G (b.at a (.inRegion ops (i :: rest) :: k)) cs) := by
  intro w hw
  refine PS.shut c bc (.slice none 0 0) rfl hcs hgot (fun w₁ _ => step_recv hk ho hg hop hx w₁) fun w₁ hR => ?_
  have := hK w₁ (hS w w₁ hw hR)
  rw [served_G, Frame.finish_at, ho]
  exact this

/-- The blocks are there. -/
def FB2 (PB : Nat → Prop) (s : St) (w : World) : Prop := ∀ b, PB b ∨ s.rd b → b < w.heap.size
theorem fb2_stab {PB PB' : Nat → Prop} : Stab PB' s (FB2 PB s) := fun _ _ h hR b hb => Nat.lt_of_lt_of_le (h b hb) hR.size

theorem ok2 (hch : PB ch) (hga : PB ga) {o1 o2 : Obj} : Ok PB s (And1 (And1 (FB2 PB s) ch o1) ga o2) :=
  ⟨fun w w₁ hw hR => ⟨⟨fb2_stab w w₁ hw.1.1 hR, by rw [hR.keep ch (.inl hch)]; exact hw.1.2⟩, by rw [hR.keep ga (.inl hga)]; exact hw.2⟩, fun _ hw b hb => hw.1.1 b hb⟩

theorem chArr_get {cs : List (Nat × Nat)} {N j c bc : Nat} (h : cs[j]? = some (c, bc)) : (chArr cs N)[j]? = some (.chan (some c)) := by
  have hlt := (List.getElem?_eq_some_iff.1 h).1
  unfold chArr
  rw [List.getElem?_toArray, List.getElem?_append_left (by simpa using hlt), List.getElem?_map, h]
  rfl

/-- The append in place. -/
theorem At.append {tb m : Nat} {vs : List Value} {V : Value} {x y : Operand} (hV : Sl V) (hga : PB ga) (htb : PB tb) (hne : ch ≠ ga) (hm : vs.length = m) (hmN : m < N) (hk : b.kind ≠ .early) (ho : ops[i]? = some o) (hg : o.guard = none)
    (hop : o.op = .call { callee := .builtin .append, args := #[x, y], argTypes := #[23, 23] }) (hty : o.type = 23) (hx : a.eval x = .slice (some ⟨ga, 0, none⟩) m N) (hy : a.eval y = .slice (some ⟨tb, 0, none⟩) 1 1)
    (hS : Stab PB s (And1 (And1 (And1 (FB2 PB s) ch (.cells (chArr s.cs N) 107)) ga (.cells (gaArr vs N) 24)) tb (.cells #[V] 24)))
    (hK : At ver N Fin s PB (And1 (And1 (FB2 PB s) ch (.cells (chArr s.cs N) 107)) ga (.cells (gaArr (vs ++ [V]) N) 24)) (G (b.at (a.put o.dst (.slice (some ⟨ga, 0, none⟩) (m + 1) N)) (.inRegion ops rest :: k)) cs)) :
    At ver N Fin s PB (And1 (And1 (And1 (FB2 PB s) ch (.cells (chArr s.cs N) 107)) ga (.cells (gaArr vs N) 24)) tb (.cells #[V] 24)) (G (b.at a (.inRegion ops (i :: rest) :: k)) cs) := by
  refine At.op hS hk ho hg fun w hw => ?_
  obtain ⟨⟨⟨hfb, hwch⟩, hwga⟩, hwtb⟩ := hw
  obtain ⟨h1, h2⟩ := append_run (m := m) hV hmN (gaArr_size (by omega)) hwga hwtb
  have hex : execOp a.eval o = (Builtin.append_ #[23, 23] 23 #[.slice (some ⟨ga, 0, none⟩) m N, .slice (some ⟨tb, 0, none⟩) 1 1] >>= fun v => Pure.pure (Next.value v)) := by
    unfold execOp
    simp [hop, resolve, invoke, builtin, hx, hy, hty]
  have e2 : ∀ ev ∈ listed Try.prog b.fn a o w, ev = ⟨.cell ⟨tb, 0, none⟩, false, false⟩ ∨ ev = ⟨.cell ⟨ga, m, none⟩, true, false⟩ := by
    intro ev hev
    have := mem_seen hev
    rw [hex, ev_v h1, h2] at this
    simpa using this
  refine ⟨_, _, by rw [hex]; exact run_v h1, ⟨⟨Nat.le_of_eq setCell_size.symm, fun b' hb' hn => setCell_other fun e => hn (by rw [e]; exact hga), rfl, rfl, rfl, fun ev hev => ?_⟩, fun ev hev b' q => ?_⟩, ?_⟩
  · rcases e2 ev hev with rfl | rfl
    · exact .inr ⟨rfl, tb, .inl ⟨_, rfl, rfl⟩, .inl (.inl htb)⟩
    · exact .inr ⟨rfl, ga, .inl ⟨_, rfl, rfl⟩, .inl (.inl hga)⟩
  · rcases e2 ev hev with rfl | rfl <;> cases q
  · have hg' : grow PB w (w.setCell ⟨ga, m, none⟩ V) = PB := by
      funext b'
      unfold grow
      rw [setCell_size]
      apply propext
      constructor
      · rintro (q | q)
        · exact q
        · omega
      · exact .inl
    rw [hg']
    refine hK _ ⟨⟨fun b' hb' => by rw [setCell_size]; exact hfb b' hb', by rw [setCell_other hne]; exact hwch⟩, ?_⟩
    rw [setCell_at hwga, ← gaArr_set (by omega), hm]

/-- THE SECOND LOOP: each child is heard out. -/
theorem loop2 (hne : ch ≠ ga) (hN : N < 2 ^ 40)
    (hK : ∀ (s : St) (PB : Nat → Prop) (x6 x15 x16 x17 x18 x19 x20 x21 x22 x23 x24 x25 y9 y10 y31 y32 y33 y34 y35 y36 y37 y38 y39 y40 y41 y42 : Value), s.cs.length = N → s.cur = N → s.got = false → s.vs.length = N → PB ch → PB ga → At ver N Fin s PB (And1 (And1 (FB2 PB s) ch (.cells (chArr s.cs N) 107)) ga (.cells (gaArr s.vs N) 24)) (G ((base 46).at (aL2 ver N ch ga (N) (N) x6 x15 x16 x17 x18 x19 x20 x21 x22 x23 x24 x25 y9 y10 y31 y32 y33 y34 y35 y36 y37 y38 y39 y40 y41 y42) k) cs)) :
    ∀ (r : Nat) (s : St) (PB : Nat → Prop) (x6 x15 x16 x17 x18 x19 x20 x21 x22 x23 x24 x25 y9 y10 y31 y32 y33 y34 y35 y36 y37 y38 y39 y40 y41 y42 : Value), s.cur + r = N → s.cs.length = N → s.got = false → s.vs.length = s.cur → PB ch → PB ga →
      At ver N Fin s PB (And1 (And1 (FB2 PB s) ch (.cells (chArr s.cs N) 107)) ga (.cells (gaArr s.vs N) 24)) (G ((base 46).at (aL2 ver N ch ga (s.cur) (s.cur) x6 x15 x16 x17 x18 x19 x20 x21 x22 x23 x24 x25 y9 y10 y31 y32 y33 y34 y35 y36 y37 y38 y39 y40 y41 y42) (.code L2 :: .inLoop L2 :: .inBlock 2 :: k)) cs) := by
  intro r
  induction r with
  | zero =>
    intro s PB x6 x15 x16 x17 x18 x19 x20 x21 x22 x23 x24 x25 y9 y10 y31 y32 y33 y34 y35 y36 y37 y38 y39 y40 y41 y42 hr hcs hgot hvs hch hga
    have O := ok2 (s := s) (o1 := .cells (chArr s.cs N) 107) (o2 := .cells (gaArr s.vs N) 24) hch hga
    have hN' : s.cur = N := by omega
    refine At.seq O.stab (At.region (a' := (aL2 ver N ch ga (s.cur) (s.cur) x6 x15 x16 x17 x18 x19 x20 x21 x22 x23 x24 x25 y9 y10 (.bool (decide ((s.cur : Int) < (N : Int)))) y32 y33 y34 y35 y36 y37 y38 y39 y40 y41 y42)) O.stab hk46 rfl ?_)
    rw [show decide ((s.cur : Int) < (N : Int)) = false by simp; omega]
    refine At.seq O.stab (At.cond (t := false) O.stab rfl ?_)
    refine At.exit (k' := k) O.stab rfl ?_
    rw [hN']
    exact hK s PB _ _ _ _ _ _ _ _ _ _ _ _ _ _ _ _ _ _ _ _ _ _ _ _ _ _ hcs hN' hgot (by omega) hch hga
  | succ r ih =>
    intro s PB x6 x15 x16 x17 x18 x19 x20 x21 x22 x23 x24 x25 y9 y10 y31 y32 y33 y34 y35 y36 y37 y38 y39 y40 y41 y42 hr hcs hgot hvs hch hga
    have O := ok2 (s := s) (o1 := .cells (chArr s.cs N) 107) (o2 := .cells (gaArr s.vs N) 24) hch hga
    have hlt : s.cur < N := by omega
    obtain ⟨⟨c, bc⟩, hcc⟩ : ∃ p, s.cs[s.cur]? = some p := ⟨_, List.getElem?_eq_getElem (by omega)⟩
    refine At.seq O.stab (At.region (a' := (aL2 ver N ch ga (s.cur) (s.cur) x6 x15 x16 x17 x18 x19 x20 x21 x22 x23 x24 x25 y9 y10 (.bool (decide ((s.cur : Int) < (N : Int)))) y32 y33 y34 y35 y36 y37 y38 y39 y40 y41 y42)) O.stab hk46 rfl ?_)
    rw [show decide ((s.cur : Int) < (N : Int)) = true by simp; omega]
    refine At.seq O.stab (At.cond (t := true) O.stab rfl (At.skip O.stab ?_))
    refine At.seq O.stab (At.block O.stab (At.seq O.stab (At.into O.stab ?_)))
    refine At.val (o := r46_10[0]) (v := .pointer (some ⟨ch, s.cur, none⟩)) O.stab hk46 rfl rfl (fun w => ?_) ?_
    · obtain ⟨q1, q2⟩ := indexAt_run (r := ch) hlt w
      exact ⟨run_v q1, (ev_v q1).trans q2⟩
    show At _ _ _ _ _ _ (G ((base 46).at (aL2 ver N ch ga (s.cur) (s.cur) x6 x15 x16 x17 x18 x19 x20 x21 x22 x23 x24 x25 y9 y10 (.bool true) (.pointer (some ⟨ch, s.cur, none⟩)) y33 y34 y35 y36 y37 y38 y39 y40 y41 y42) _) _)
    refine At.load (o := r46_10[1]) (r := ch) (off := s.cur) (v := .chan (some c)) O.stab hk46 rfl rfl rfl (.inl hch) rfl (fun w => by simp) (fun w hw => hw.1.2) (chArr_get hcc) ?_
    show At _ _ _ _ _ _ (G ((base 46).at (aL2 ver N ch ga (s.cur) (s.cur) x6 x15 x16 x17 x18 x19 x20 x21 x22 x23 x24 x25 y9 y10 (.bool true) (.pointer (some ⟨ch, s.cur, none⟩)) (.chan (some c)) y34 y35 y36 y37 y38 y39 y40 y41 y42) _) _)
    refine At.pures (l := [2]) (rest := []) (a' := (aL2 ver N ch ga (s.cur) (s.cur) x6 x15 x16 x17 x18 x19 x20 x21 x22 x23 x24 x25 (.chan (some c)) y10 (.bool true) (.pointer (some ⟨ch, s.cur, none⟩)) (.chan (some c)) y34 y35 y36 y37 y38 y39 y40 y41 y42)) O.stab hk46 rfl (At.out O.stab ?_)
    refine At.seq O.stab (At.region (a' := (aL2 ver N ch ga (s.cur) (s.cur) x6 x15 x16 x17 x18 x19 x20 x21 x22 x23 x24 x25 (.chan (some c)) y10 (.bool true) (.pointer (some ⟨ch, s.cur, none⟩)) (.chan (some c)) (.chan (some c)) y35 y36 y37 y38 y39 y40 y41 y42)) O.stab hk46 rfl ?_)
    refine At.block O.stab (At.loop O.stab (At.seq O.stab (At.into O.stab ?_)))
    -- the value
    refine At.recv (o := r46_12[0]) (bc := bc) O.stab hk46 rfl rfl rfl rfl hcc hgot fun V hV => ?_
    have Ot := ok2 (s := s.take V) (o1 := .cells (chArr s.cs N) 107) (o2 := .cells (gaArr s.vs N) 24) hch hga
    show At ver N Fin (s.take V) PB (And1 (And1 (FB2 PB (s.take V)) ch (.cells (chArr s.cs N) 107)) ga (.cells (gaArr s.vs N) 24)) (G ((base 46).at (aL2 ver N ch ga (s.cur) (s.cur) x6 x15 x16 x17 x18 x19 x20 x21 x22 x23 x24 x25 (.chan (some c)) y10 (.bool true) (.pointer (some ⟨ch, s.cur, none⟩)) (.chan (some c)) (.chan (some c)) (.tuple #[V, .bool true]) y36 y37 y38 y39 y40 y41 y42) (.inRegion r46_12 [1] :: _)) _)
    refine At.pures (l := [1]) (rest := []) (a' := (aL2 ver N ch ga (s.cur) (s.cur) x6 x15 x16 x17 x18 x19 x20 x21 x22 x23 x24 x25 (.chan (some c)) y10 (.bool true) (.pointer (some ⟨ch, s.cur, none⟩)) (.chan (some c)) (.chan (some c)) (.tuple #[V, .bool true]) (.bool true) y37 y38 y39 y40 y41 y42)) Ot.stab hk46 rfl (At.out Ot.stab ?_)
    refine At.seq Ot.stab (At.cond (t := true) Ot.stab rfl (At.skip Ot.stab ?_))
    refine At.block Ot.stab (At.seq Ot.stab ?_)
    refine At.region (a' := (aL2 ver N ch ga (s.cur) (s.cur) x6 x15 x16 x17 x18 x19 x20 x21 x22 x23 x24 x25 (.chan (some c)) V (.bool true) (.pointer (some ⟨ch, s.cur, none⟩)) (.chan (some c)) (.chan (some c)) (.tuple #[V, .bool true]) (.bool true) V y38 y39 y40 y41 y42)) Ot.stab hk46 rfl ?_
    refine At.into Ot.stab (At.pures (l := [0, 1]) (rest := [2, 3, 4]) (a' := (aL2 ver N ch ga (s.cur) (s.cur) x6 x15 x16 x17 x18 x19 x20 x21 x22 x23 x24 x25 (.chan (some c)) V (.bool true) (.pointer (some ⟨ch, s.cur, none⟩)) (.chan (some c)) (.chan (some c)) (.tuple #[V, .bool true]) (.bool true) V (.slice (some ⟨ga, 0, none⟩) s.cur N) V y40 y41 y42)) Ot.stab hk46 rfl ?_)
    refine At.alloc (o := r46_14[2]) (ob := .cells #[V] 24) (v := fun r => .slice (some ⟨r, 0, none⟩) 1 1) Ot hk46 rfl rfl (fun w _ => ?_) fun tb n1 m1 => ?_
    · obtain ⟨q1, q2⟩ := buildSlice_run hV w
      have hex : execOp (aL2 ver N ch ga (s.cur) (s.cur) x6 x15 x16 x17 x18 x19 x20 x21 x22 x23 x24 x25 (.chan (some c)) V (.bool true) (.pointer (some ⟨ch, s.cur, none⟩)) (.chan (some c)) (.chan (some c)) (.tuple #[V, .bool true]) (.bool true) V (.slice (some ⟨ga, 0, none⟩) s.cur N) V y40 y41 y42).eval r46_14[2] = (do pure (Next.value (← Instr.buildSlice 23 1 #[(0, V)])) : Sem Next) := by simp [execOp, r46_14, aL2, Act.eval]
      rw [hex]
      exact ⟨run_v q1, fun e he => by rw [ev_v q1, q2] at he; simp at he⟩
    show At _ _ _ _ _ _ (G ((base 46).at (aL2 ver N ch ga (s.cur) (s.cur) x6 x15 x16 x17 x18 x19 x20 x21 x22 x23 x24 x25 (.chan (some c)) V (.bool true) (.pointer (some ⟨ch, s.cur, none⟩)) (.chan (some c)) (.chan (some c)) (.tuple #[V, .bool true]) (.bool true) V (.slice (some ⟨ga, 0, none⟩) s.cur N) V (.slice (some ⟨tb, 0, none⟩) 1 1) y41 y42) _) _)
    have hch' : (fun b => PB b ∨ b = tb) ch := .inl hch
    have hga' : (fun b => PB b ∨ b = tb) ga := .inl hga
    have Oa : Ok (fun b => PB b ∨ b = tb) (s.take V) (And1 (And1 (And1 (FB2 (fun b => PB b ∨ b = tb) (s.take V)) ch (.cells (chArr (s.take V).cs N) 107)) ga (.cells (gaArr s.vs N) 24)) tb (.cells #[V] 24)) :=
      (ok2 (PB := fun b => PB b ∨ b = tb) hch' hga').and1 (fun _ q => q) (.inr rfl) fun _ q => .inl q
    refine At.mono (F := And1 (And1 (And1 (FB2 (fun b => PB b ∨ b = tb) (s.take V)) ch (.cells (chArr (s.take V).cs N) 107)) ga (.cells (gaArr s.vs N) 24)) tb (.cells #[V] 24)) (fun w hw => ⟨⟨⟨fun b hb => ?_, hw.1.1.2⟩, hw.1.2⟩, hw.2⟩) ?_
    · rcases hb with (hb | rfl) | hb
      · exact hw.1.1.1 b (.inl hb)
      · exact (Array.getElem?_eq_some_iff.1 hw.2).1
      · exact hw.1.1.1 b (.inr hb)
    refine At.append (o := r46_14[3]) (m := s.cur) hV hga' (.inr rfl) hne hvs hlt hk46 rfl rfl rfl rfl rfl rfl Oa.stab ?_
    show At ver N Fin (s.take V) (fun b => PB b ∨ b = tb) (And1 (And1 (FB2 (fun b => PB b ∨ b = tb) (s.take V)) ch (.cells (chArr (s.take V).cs N) 107)) ga (.cells (gaArr (s.take V).vs N) 24)) (G ((base 46).at (aL2 ver N ch ga (s.cur) (s.cur) x6 x15 x16 x17 x18 x19 x20 x21 x22 x23 x24 x25 (.chan (some c)) V (.bool true) (.pointer (some ⟨ch, s.cur, none⟩)) (.chan (some c)) (.chan (some c)) (.tuple #[V, .bool true]) (.bool true) V (.slice (some ⟨ga, 0, none⟩) s.cur N) V (.slice (some ⟨tb, 0, none⟩) 1 1) (.slice (some ⟨ga, 0, none⟩) (s.cur + 1) N) y42) _) _)
    have Ob := ok2 (PB := fun b => PB b ∨ b = tb) (s := s.take V) (o1 := .cells (chArr (s.take V).cs N) 107) (o2 := .cells (gaArr (s.take V).vs N) 24) hch' hga'
    refine At.pures (l := [4]) (rest := []) (a' := (aL2 ver N ch ga (s.cur + 1) (s.cur) x6 x15 x16 x17 x18 x19 x20 x21 x22 x23 x24 x25 (.chan (some c)) V (.bool true) (.pointer (some ⟨ch, s.cur, none⟩)) (.chan (some c)) (.chan (some c)) (.tuple #[V, .bool true]) (.bool true) V (.slice (some ⟨ga, 0, none⟩) s.cur N) V (.slice (some ⟨tb, 0, none⟩) 1 1) (.slice (some ⟨ga, 0, none⟩) (s.cur + 1) N) y42)) Ob.stab hk46 rfl (At.out Ob.stab ?_)
    refine At.inBlock Ob.stab (At.inLoop Ob.stab (At.seq Ob.stab (At.into Ob.stab ?_)))
    -- the close
    refine At.shut (o := r46_12[0]) (bc := bc) Ob.stab hk46 rfl rfl rfl rfl hcc rfl ?_
    have Oc := ok2 (PB := fun b => PB b ∨ b = tb) (s := (s.take V).next) (o1 := .cells (chArr (s.take V).cs N) 107) (o2 := .cells (gaArr (s.take V).vs N) 24) hch' hga'
    show At ver N Fin (s.take V).next (fun b => PB b ∨ b = tb) (And1 (And1 (FB2 (fun b => PB b ∨ b = tb) (s.take V).next) ch (.cells (chArr (s.take V).cs N) 107)) ga (.cells (gaArr (s.take V).vs N) 24)) (G ((base 46).at (aL2 ver N ch ga (s.cur + 1) (s.cur) x6 x15 x16 x17 x18 x19 x20 x21 x22 x23 x24 x25 (.chan (some c)) V (.bool true) (.pointer (some ⟨ch, s.cur, none⟩)) (.chan (some c)) (.chan (some c)) (.tuple #[.slice none 0 0, .bool false]) (.bool true) V (.slice (some ⟨ga, 0, none⟩) s.cur N) V (.slice (some ⟨tb, 0, none⟩) 1 1) (.slice (some ⟨ga, 0, none⟩) (s.cur + 1) N) y42) (.inRegion r46_12 [1] :: _)) _)
    refine At.pures (l := [1]) (rest := []) (a' := (aL2 ver N ch ga (s.cur + 1) (s.cur) x6 x15 x16 x17 x18 x19 x20 x21 x22 x23 x24 x25 (.chan (some c)) V (.bool true) (.pointer (some ⟨ch, s.cur, none⟩)) (.chan (some c)) (.chan (some c)) (.tuple #[.slice none 0 0, .bool false]) (.bool false) V (.slice (some ⟨ga, 0, none⟩) s.cur N) V (.slice (some ⟨tb, 0, none⟩) 1 1) (.slice (some ⟨ga, 0, none⟩) (s.cur + 1) N) y42)) Oc.stab hk46 rfl (At.out Oc.stab ?_)
    refine At.seq Oc.stab (At.cond (t := false) Oc.stab rfl ?_)
    refine At.exit (k' := .inBlock 3 :: .code (.region 15 r46_15 false) :: .inLoop L2 :: .inBlock 2 :: k) Oc.stab rfl (At.inBlock Oc.stab ?_)
    refine At.region (a' := (aL2 ver N ch ga (s.cur + 1) (IntKind.i64.wrap ((s.cur : Int) + 1)) x6 x15 x16 x17 x18 x19 x20 x21 x22 x23 x24 x25 (.chan (some c)) V (.bool true) (.pointer (some ⟨ch, s.cur, none⟩)) (.chan (some c)) (.chan (some c)) (.tuple #[.slice none 0 0, .bool false]) (.bool false) V (.slice (some ⟨ga, 0, none⟩) s.cur N) V (.slice (some ⟨tb, 0, none⟩) 1 1) (.slice (some ⟨ga, 0, none⟩) (s.cur + 1) N) (.int .i64 (IntKind.i64.wrap ((s.cur : Int) + 1))))) Oc.stab hk46 rfl (At.inLoop Oc.stab ?_)
    rw [wrap_nat (by omega)]
    have hcur : (s.take V).next.cur = s.cur + 1 := rfl
    exact ih (s.take V).next (fun b => PB b ∨ b = tb) _ _ _ _ _ _ _ _ _ _ _ _ _ _ _ _ _ _ _ _ _ _ _ _ _ _ (by rw [hcur]; omega) hcs rfl (by show (s.vs ++ [V]).length = s.cur + 1; simp [hvs]) hch' hga'
end
end Go.Proofs.Ytlndinigbppafaa
