/-
  proofs: the whole.
-/
import Derived.Test.YtlndinigbppafaaPsG
namespace Go.Proofs.Ytlndinigbppafaa
open Go.Sim Go.Conc

/-- proofs stands at its return: what it has gathered. -/
def FinP (N : Nat) (cs : List Frame) (s : St) (PB : Nat → Prop) (g : Goroutine) (w : World) : Prop :=
  s.vs.length = N ∧ s.cs.length = N ∧ ∃ ga a, g = G { (base 46).at a [.code .ret] with mode := .returning } cs ∧ a.defers = [] ∧ a.tmps.getD 4 undef = .slice (some ⟨ga, 0, none⟩) N N ∧ PB ga ∧ w.heap[ga]? = some (.cells s.vs.toArray 24)

def s0 : St := ⟨[], 0, false, []⟩
theorem rd_s0 {b : Nat} : ¬ s0.rd b := by rintro ⟨p, hp, _⟩; cases hp

section
variable {ver : Value} {N : Nat} {Fin : St → (Nat → Prop) → Goroutine → World → Prop} {cs : List Frame} {ch ga : Nat}

/-- Behind the second loop. -/
theorem tail46 {s : St} {PB : Nat → Prop} {F : World → Prop} {a : Act} (hS : Stab PB s F) (h1 : s.vs.length = N) (h2 : s.cs.length = N) (h3 : s.cur = N) (h4 : s.got = false) (hga : PB ga) (hd : a.defers = []) (hsz : a.tmps.size = 44) (h7 : a.tmps.getD 7 undef = .slice (some ⟨ga, 0, none⟩) N N)
    (hF : ∀ w, F w → w.heap[ga]? = some (.cells (gaArr s.vs N) 24)) : At ver N (FinP N cs) s PB F (G ((base 46).at a [.code (.seq (.region 16 r46_16 false) .ret)]) cs) := by
  refine At.seq hS (At.region (a' := (a.put (some 43) (.slice (some ⟨ga, 0, none⟩) N N)).put (some 4) (.slice (some ⟨ga, 0, none⟩) N N)) hS hk46 ?_ (At.ret hS ?_))
  · have e : a.eval (.tmp 7) = .slice (some ⟨ga, 0, none⟩) N N := h7
    have e2 : (a.put (some 43) (.slice (some ⟨ga, 0, none⟩) N N)).eval (.tmp 43) = .slice (some ⟨ga, 0, none⟩) N N := by
      simp [Act.put, Act.eval, Array.getD_eq_getD_getElem?, hsz]
    have hr : List.range r46_16.size = [0, 1] := rfl
    rw [hr]
    simp only [pureOps, r46_16]
    simp [pv, e, e2]
  · intro w hw
    refine PS.fin rfl (by omega) h4 fun w₁ hR => ⟨h1, h2, ga, _, rfl, ?_, ?_, hga, ?_⟩
    · simp [Act.put, hd]
    · simp [Act.put, Array.getD_eq_getD_getElem?, hsz]
    · rw [hF w₁ (hS w w₁ hw hR)]
      simp [gaArr, h1]

/-- Between the loops. -/
theorem mid46 {s : St} {PB : Nat → Prop} (hch : PB ch) (hPB : ∀ b, PB b → b = ch) (hN : N < 2 ^ 40) (h1 : s.cs.length = N) (h2 : s.cur = 0) (h3 : s.got = false) (h4 : s.vs = []) (x6 x16 x17 x18 x19 x20 x21 x22 x23 x24 x25 : Value) :
    At ver N (FinP N cs) s PB (And1 (FB s) ch (.cells (chArr s.cs N) 107)) (G ((base 46).at (aL1 ver N ch (N : Int) x6 x16 x17 x18 x19 x20 x21 x22 x23 x24 x25) [.code (.seq (.region 7 r46_7 false) (.seq (.seq (.region 8 r46_8 false) (.block 2 (.loop L2))) (.seq (.region 16 r46_16 false) .ret)))]) cs) := by
  have O := ok_ch (s := s) (ob := .cells (chArr s.cs N) 107) hch hPB
  refine At.seq O.stab (At.into O.stab (At.pures (l := [0]) (rest := [1, 2]) (a' := (⟨#[ver, .int .i64 N, undef, undef, .slice none 0 0, .slice (some ⟨ch, 0, none⟩) N N, x6, undef, undef, undef, undef, .int .i64 N, .slice (some ⟨ch, 0, none⟩) N N, .slice (some ⟨ch, 0, none⟩) N N, .int .i64 N, .int .i64 N, x16, x17, x18, x19, x20, x21, x22, x23, x24, x25, .int .i64 N, undef, undef, undef, undef, undef, undef, undef, undef, undef, undef, undef, undef, undef, undef, undef, undef, undef], []⟩ : Act)) O.stab hk46 rfl ?_))
  refine At.alloc (o := r46_7[1]) (ob := .cells (Array.replicate N (.slice none 0 0)) 24) (v := fun r => .slice (some ⟨r, 0, none⟩) 0 N) O hk46 rfl rfl (fun w _ => ?_) fun ga n1 m1 => ?_
  · obtain ⟨q1, q2⟩ := makeSlice_run (l := 0) (n := N) Try.und23 Try.zero24 rfl Try.size24 Try.bytes24 (by omega) (by omega) (by omega) w
    exact ⟨run_v q1, fun e he => q2 e (by
      have he' : e ∈ (do pure (Next.value (← Instr.makeSlice 23 (.int .i64 ((0 : Nat) : Int)) (.int .i64 N))) : Sem Next).events Try.prog w #[] := he
      rwa [ev_v q1] at he')⟩
  have hne : ch ≠ ga := fun e => n1 (e ▸ hch)
  have hchP : (fun b => PB b ∨ b = ga) ch := .inl hch
  have hgaP : (fun b => PB b ∨ b = ga) ga := .inr rfl
  have O2 := ok2 (PB := fun b => PB b ∨ b = ga) (s := s) (o1 := .cells (chArr s.cs N) 107) (o2 := .cells (gaArr s.vs N) 24) hchP hgaP
  refine At.mono (F := And1 (And1 (FB2 (fun b => PB b ∨ b = ga) s) ch (.cells (chArr s.cs N) 107)) ga (.cells (gaArr s.vs N) 24)) (fun w hw => ⟨⟨fun b hb => ?_, hw.1.2⟩, by rw [h4, gaArr_nil]; exact hw.2⟩) ?_
  · rcases hb with (hb | rfl) | hb
    · rw [hPB b hb]; exact (Array.getElem?_eq_some_iff.1 hw.1.2).1
    · exact (Array.getElem?_eq_some_iff.1 hw.2).1
    · exact hw.1.1 b hb
  show At _ _ _ _ _ _ (G ((base 46).at (⟨#[ver, .int .i64 N, undef, undef, .slice none 0 0, .slice (some ⟨ch, 0, none⟩) N N, x6, undef, undef, undef, undef, .int .i64 N, .slice (some ⟨ch, 0, none⟩) N N, .slice (some ⟨ch, 0, none⟩) N N, .int .i64 N, .int .i64 N, x16, x17, x18, x19, x20, x21, x22, x23, x24, x25, .int .i64 N, .slice (some ⟨ga, 0, none⟩) 0 N, undef, undef, undef, undef, undef, undef, undef, undef, undef, undef, undef, undef, undef, undef, undef, undef], []⟩ : Act) _) _)
  refine At.pures (l := [2]) (rest := []) (a' := (⟨#[ver, .int .i64 N, undef, undef, .slice none 0 0, .slice (some ⟨ch, 0, none⟩) N N, x6, .slice (some ⟨ga, 0, none⟩) 0 N, undef, undef, undef, .int .i64 N, .slice (some ⟨ch, 0, none⟩) N N, .slice (some ⟨ch, 0, none⟩) N N, .int .i64 N, .int .i64 N, x16, x17, x18, x19, x20, x21, x22, x23, x24, x25, .int .i64 N, .slice (some ⟨ga, 0, none⟩) 0 N, undef, undef, undef, undef, undef, undef, undef, undef, undef, undef, undef, undef, undef, undef, undef, undef], []⟩ : Act)) O2.stab hk46 rfl (At.out O2.stab ?_)
  refine At.seq O2.stab (At.seq O2.stab (At.into O2.stab (At.pures (l := [0]) (rest := [1, 2]) (a' := (⟨#[ver, .int .i64 N, undef, undef, .slice none 0 0, .slice (some ⟨ch, 0, none⟩) N N, x6, .slice (some ⟨ga, 0, none⟩) 0 N, undef, undef, undef, .int .i64 N, .slice (some ⟨ch, 0, none⟩) N N, .slice (some ⟨ch, 0, none⟩) N N, .int .i64 N, .int .i64 N, x16, x17, x18, x19, x20, x21, x22, x23, x24, x25, .int .i64 N, .slice (some ⟨ga, 0, none⟩) 0 N, .slice (some ⟨ch, 0, none⟩) N N, undef, undef, undef, undef, undef, undef, undef, undef, undef, undef, undef, undef, undef, undef, undef], []⟩ : Act)) O2.stab hk46 rfl ?_)))
  refine At.val (o := r46_8[1]) (v := .int .i64 N) O2.stab hk46 rfl rfl (fun w => len_run rfl rfl w) ?_
  show At _ _ _ _ _ _ (G ((base 46).at (⟨#[ver, .int .i64 N, undef, undef, .slice none 0 0, .slice (some ⟨ch, 0, none⟩) N N, x6, .slice (some ⟨ga, 0, none⟩) 0 N, undef, undef, undef, .int .i64 N, .slice (some ⟨ch, 0, none⟩) N N, .slice (some ⟨ch, 0, none⟩) N N, .int .i64 N, .int .i64 N, x16, x17, x18, x19, x20, x21, x22, x23, x24, x25, .int .i64 N, .slice (some ⟨ga, 0, none⟩) 0 N, .slice (some ⟨ch, 0, none⟩) N N, .int .i64 N, undef, undef, undef, undef, undef, undef, undef, undef, undef, undef, undef, undef, undef, undef], []⟩ : Act) _) _)
  refine At.pures (l := [2]) (rest := []) (a' := aL2 ver N ch ga 0 0 x6 (.int .i64 N) x16 x17 x18 x19 x20 x21 x22 x23 x24 x25 undef undef undef undef undef undef undef undef undef undef undef undef undef undef) O2.stab hk46 rfl (At.out O2.stab ?_)
  refine At.block O2.stab (At.loop O2.stab ?_)
  have L := loop2 (ver := ver) (Fin := FinP N cs) (k := [.code (.seq (.region 16 r46_16 false) .ret)]) (cs := cs) hne hN (fun s PB x6 x15 x16 x17 x18 x19 x20 x21 x22 x23 x24 x25 y9 y10 y31 y32 y33 y34 y35 y36 y37 y38 y39 y40 y41 y42 q1 q2 q3 q4 q5 q6 => tail46 (ok2 (s := s) q5 q6).stab q4 q1 q2 q3 q6 rfl rfl rfl fun w hw => hw.2) N s (fun b => PB b ∨ b = ga) x6 (.int .i64 N) x16 x17 x18 x19 x20 x21 x22 x23 x24 x25 undef undef undef undef undef undef undef undef undef undef undef undef undef undef (by omega) h1 h3 (by rw [h4, h2]; rfl) hchP hgaP
  rw [h2] at L
  exact L

/-- ████ PROOFS ████ -/
theorem proofs_at (hver : ver.cells = #[ver]) (hN : N < 2 ^ 40) :
    At ver N (FinP N cs) s0 (fun _ => False) (fun _ => True) (G ((base 46).at (⟨#[ver, .int .i64 N, undef, undef, undef, undef, undef, undef, undef, undef, undef, undef, undef, undef, undef, undef, undef, undef, undef, undef, undef, undef, undef, undef, undef, undef, undef, undef, undef, undef, undef, undef, undef, undef, undef, undef, undef, undef, undef, undef, undef, undef, undef, undef], []⟩ : Act) [.code c46]) cs) := by
  have O : Ok (fun _ => False) s0 (fun _ => True) := ⟨fun _ _ _ _ => trivial, fun _ _ _ hb => (hb.elim False.elim fun q => rd_s0 q).elim⟩
  refine At.seq O.stab (At.region (a' := (⟨#[ver, .int .i64 N, undef, undef, .slice none 0 0, undef, undef, undef, undef, undef, undef, undef, undef, undef, undef, undef, undef, undef, undef, undef, undef, undef, undef, undef, undef, undef, undef, undef, undef, undef, undef, undef, undef, undef, undef, undef, undef, undef, undef, undef, undef, undef, undef, undef], []⟩ : Act)) O.stab hk46 rfl ?_)
  refine At.seq O.stab (At.into O.stab (At.pures (l := [0]) (rest := [1, 2]) (a' := (⟨#[ver, .int .i64 N, undef, undef, .slice none 0 0, undef, undef, undef, undef, undef, undef, .int .i64 N, undef, undef, undef, undef, undef, undef, undef, undef, undef, undef, undef, undef, undef, undef, undef, undef, undef, undef, undef, undef, undef, undef, undef, undef, undef, undef, undef, undef, undef, undef, undef, undef], []⟩ : Act)) O.stab hk46 rfl ?_))
  refine At.alloc (o := r46_1[1]) (ob := .cells (Array.replicate N (.chan none)) 107) (v := fun r => .slice (some ⟨r, 0, none⟩) N N) O hk46 rfl rfl (fun w _ => ?_) fun ch n1 m1 => ?_
  · obtain ⟨q1, q2⟩ := makeSlice_run (l := N) (n := N) Try.und106 Try.zero107 rfl Try.size107 Try.bytes107 (Nat.le_refl _) (by omega) (by omega) w
    exact ⟨run_v q1, fun e he => q2 e (by
      have he' : e ∈ (do pure (Next.value (← Instr.makeSlice 106 (.int .i64 N) (.int .i64 N))) : Sem Next).events Try.prog w #[] := he
      rwa [ev_v q1] at he')⟩
  have hch : (fun b => False ∨ b = ch) ch := .inr rfl
  have hPB : ∀ b, (fun b => False ∨ b = ch) b → b = ch := fun b hb => hb.elim False.elim id
  have O1 := ok_ch (PB := fun b => False ∨ b = ch) (s := s0) (ob := .cells (chArr s0.cs N) 107) hch hPB
  refine At.mono (F := And1 (FB s0) ch (.cells (chArr s0.cs N) 107)) (fun w hw => ⟨fun b hb => absurd hb rd_s0, by rw [show s0.cs = [] from rfl, chArr_nil]; exact hw.2⟩) ?_
  show At _ _ _ _ _ _ (G ((base 46).at (⟨#[ver, .int .i64 N, undef, undef, .slice none 0 0, undef, undef, undef, undef, undef, undef, .int .i64 N, .slice (some ⟨ch, 0, none⟩) N N, undef, undef, undef, undef, undef, undef, undef, undef, undef, undef, undef, undef, undef, undef, undef, undef, undef, undef, undef, undef, undef, undef, undef, undef, undef, undef, undef, undef, undef, undef, undef], []⟩ : Act) _) _)
  refine At.pures (l := [2]) (rest := []) (a' := (⟨#[ver, .int .i64 N, undef, undef, .slice none 0 0, .slice (some ⟨ch, 0, none⟩) N N, undef, undef, undef, undef, undef, .int .i64 N, .slice (some ⟨ch, 0, none⟩) N N, undef, undef, undef, undef, undef, undef, undef, undef, undef, undef, undef, undef, undef, undef, undef, undef, undef, undef, undef, undef, undef, undef, undef, undef, undef, undef, undef, undef, undef, undef, undef], []⟩ : Act)) O1.stab hk46 rfl (At.out O1.stab ?_)
  refine At.seq O1.stab (At.seq O1.stab (At.into O1.stab (At.pures (l := [0]) (rest := [1, 2]) (a' := (⟨#[ver, .int .i64 N, undef, undef, .slice none 0 0, .slice (some ⟨ch, 0, none⟩) N N, undef, undef, undef, undef, undef, .int .i64 N, .slice (some ⟨ch, 0, none⟩) N N, .slice (some ⟨ch, 0, none⟩) N N, undef, undef, undef, undef, undef, undef, undef, undef, undef, undef, undef, undef, undef, undef, undef, undef, undef, undef, undef, undef, undef, undef, undef, undef, undef, undef, undef, undef, undef, undef], []⟩ : Act)) O1.stab hk46 rfl ?_)))
  refine At.val (o := r46_2[1]) (v := .int .i64 N) O1.stab hk46 rfl rfl (fun w => len_run rfl rfl w) ?_
  show At _ _ _ _ _ _ (G ((base 46).at (⟨#[ver, .int .i64 N, undef, undef, .slice none 0 0, .slice (some ⟨ch, 0, none⟩) N N, undef, undef, undef, undef, undef, .int .i64 N, .slice (some ⟨ch, 0, none⟩) N N, .slice (some ⟨ch, 0, none⟩) N N, .int .i64 N, undef, undef, undef, undef, undef, undef, undef, undef, undef, undef, undef, undef, undef, undef, undef, undef, undef, undef, undef, undef, undef, undef, undef, undef, undef, undef, undef, undef, undef], []⟩ : Act) _) _)
  refine At.pures (l := [2]) (rest := []) (a' := aL1 ver N ch 0 undef undef undef undef undef undef undef undef undef undef undef) O1.stab hk46 rfl (At.out O1.stab ?_)
  refine At.block O1.stab (At.loop O1.stab ?_)
  exact loop1 hch hPB hver hN (fun s x6 x16 x17 x18 x19 x20 x21 x22 x23 x24 x25 q1 q2 q3 q4 _ => mid46 hch hPB hN q1 q2 q3 q4 x6 x16 x17 x18 x19 x20 x21 x22 x23 x24 x25) N s0 undef undef undef undef undef undef undef undef undef undef undef (by show 0 + N = N; omega) rfl rfl rfl rd_s0
end
end Go.Proofs.Ytlndinigbppafaa
