/-
  Pruned trees as trees, what is worked out of them, and what an auditor takes: plain mathematics.
-/
import Derived.Test.YtlndinigbppafaaGreatDec
namespace Go.Proofs.YtlndinigbppafaaGreat

/-- A pruned tree. -/
inductive PT where
  | stub (g : Int)
  | leaf (e : ByteArray)
  | two (l r : PT)
  | alone (c : PT)

/-- Its nodes, each ahead of its own. -/
def PT.flat : PT → List PN
  | .stub g => [⟨0, g, ByteArray.empty⟩]
  | .leaf e => [⟨1, 0, e⟩]
  | .two l r => ⟨2, 0, ByteArray.empty⟩ :: (l.flat ++ r.flat)
  | .alone c => ⟨3, 0, ByteArray.empty⟩ :: c.flat

/-- Its shape, by which nodes a proof leaves out. -/
inductive PT.Sh (k M N : Int) : Nat → Nat → PT → Prop
  | stub (d p : Nat) (g : Int) : kindOf k M N p d = 0 → 0 ≤ g → g ≤ 65535 → PT.Sh k M N d p (.stub g)
  | leaf (p : Nat) (e : ByteArray) : kindOf k M N p 0 = 1 → e.size ≤ 50 → PT.Sh k M N 0 p (.leaf e)
  | two (d p : Nat) (l r : PT) : kindOf k M N p (d + 1) = 2 → PT.Sh k M N d p l → PT.Sh k M N d (p + pw d) r → PT.Sh k M N (d + 1) p (.two l r)
  | alone (d p : Nat) (c : PT) : kindOf k M N p (d + 1) = 3 → PT.Sh k M N d p c → PT.Sh k M N (d + 1) p (.alone c)

theorem Shp.tree {k M N : Int} {d p : Nat} {l : List PN} (h : Shp k M N d p l) : ∃ t, PT.Sh k M N d p t ∧ l = t.flat := by
  induction h with
  | stub d p g hk h0 h1 => exact ⟨_, .stub d p g hk h0 h1, rfl⟩
  | leaf p e hk he => exact ⟨_, .leaf p e hk he, rfl⟩
  | two d p a b hk _ _ iha ihb =>
    obtain ⟨ta, ha, rfl⟩ := iha
    obtain ⟨tb, hb, rfl⟩ := ihb
    exact ⟨_, .two d p ta tb hk ha hb, rfl⟩
  | alone d p a hk _ iha =>
    obtain ⟨ta, ha, rfl⟩ := iha
    exact ⟨_, .alone d p ta hk ha, rfl⟩

/-- The tree that a list of nodes begins with, and what stands behind it. -/
def par : Nat → List PN → PT × List PN
  | _, [] => (.stub 0, [])
  | 0, x :: r => if x.kind = 0 then (.stub x.dig, r) else (.leaf x.ev, r)
  | d + 1, x :: r => if x.kind = 0 then (.stub x.dig, r) else if x.kind = 1 then (.leaf x.ev, r) else
      if x.kind = 3 then (.alone (par d r).1, (par d r).2) else (.two (par d r).1 (par d (par d r).2).1, (par d (par d r).2).2)

theorem par_flat {k M N : Int} {d p : Nat} {t : PT} (h : PT.Sh k M N d p t) : ∀ r, par d (t.flat ++ r) = (t, r) := by
  induction h with
  | stub d p g _ _ _ => intro r; cases d <;> simp [PT.flat, par]
  | leaf p e _ _ => intro r; simp [PT.flat, par]
  | two d p a b _ _ _ iha ihb => intro r; simp [PT.flat, par, iha, ihb]
  | alone d p a _ _ iha => intro r; simp [PT.flat, par, iha]

/-- The digest, as one for version n, of the node at p of depth d. -/
def PT.dg (n : Int) : PT → Nat → Nat → Int
  | .stub g, _, _ => g
  | .leaf e, _, _ => sm (0 :: e.data.toList)
  | .alone c, d, p => sm (2 :: two8 (c.dg n (d - 1) p))
  | .two l r, d, p => if (p : Int) + pw (d - 1) < n then sm (1 :: (two8 (l.dg n (d - 1) p) ++ two8 (r.dg n (d - 1) (p + pw (d - 1))))) else sm (2 :: two8 (l.dg n (d - 1) p))
/-- The preimages that are worked out on the way, in the order of the document. -/
def PT.tx (n : Int) : PT → Nat → Nat → List (List UInt8)
  | .stub _, _, _ => []
  | .leaf e, _, _ => [0 :: e.data.toList]
  | .alone c, d, p => c.tx n (d - 1) p ++ [2 :: two8 (c.dg n (d - 1) p)]
  | .two l r, d, p => if (p : Int) + pw (d - 1) < n then l.tx n (d - 1) p ++ (r.tx n (d - 1) (p + pw (d - 1)) ++ [1 :: (two8 (l.dg n (d - 1) p) ++ two8 (r.dg n (d - 1) (p + pw (d - 1))))]) else l.tx n (d - 1) p ++ [2 :: two8 (l.dg n (d - 1) p)]

theorem PT.dg_bd {k M N : Int} {d p : Nat} {t : PT} (h : PT.Sh k M N d p t) (n : Int) : 0 ≤ t.dg n d p ∧ t.dg n d p ≤ 65535 := by
  have hs : ∀ l, 0 ≤ sm l ∧ sm l ≤ 65535 := fun l => by have := sm_bd l; omega
  cases h with
  | stub d p g _ h0 h1 => exact ⟨h0, h1⟩
  | leaf p e _ _ => exact hs _
  | two d p a b _ _ _ => unfold PT.dg; split <;> exact hs _
  | alone d p a _ _ => exact hs _

/-- The k-th left one. -/
def PT.left : Nat → PT → PT
  | 0, t => t
  | k + 1, .two l _ => l.left k
  | _ + 1, t => t

/-- A message's tree. -/
def Msg.pt (x : Msg) : PT := (par (dep x.n.toNat) x.tree).1
/-- The digest of a message's tree as one for version n, and the preimages. -/
def wk (x : Msg) (n : Int) : Int := (x.pt.left (dep x.n.toNat - dep n.toNat)).dg n (dep n.toNat) 0
def wkT (x : Msg) (n : Int) : List (List UInt8) := (x.pt.left (dep x.n.toNat - dep n.toNat)).tx n (dep n.toNat) 0

theorem ValidM.pt {x : Msg} (h : ValidM x) (hk : x.kind ≠ 1) : PT.Sh x.kind x.m x.n (dep x.n.toNat) 0 x.pt ∧ x.tree = x.pt.flat := by
  obtain ⟨t, ht, e⟩ := (h.t hk).tree
  have : x.pt = t := by
    unfold Msg.pt
    rw [e, show t.flat = t.flat ++ [] by simp, par_flat ht]
  rw [this]
  exact ⟨ht, e⟩

/-- The versions that are known once these messages were taken. -/
def versL (ts : List Msg) : List (Int × Int) := ts.filterMap fun x => if x.kind = 1 ∨ (x.kind = 2 ∧ x.m < x.n) then some (x.n, x.root) else none
theorem versL_snoc (ts : List Msg) (x : Msg) : versL (ts ++ [x]) = versL ts ++ (if x.kind = 1 ∨ (x.kind = 2 ∧ x.m < x.n) then [(x.n, x.root)] else []) := by
  unfold versL
  rw [List.filterMap_append]
  congr 1
  by_cases h : x.kind = 1 ∨ (x.kind = 2 ∧ x.m < x.n)
  · simp [h]
  · simp [h]
/-- The root of a version that is known. -/
def rootOf (vs : List (Int × Int)) (n : Int) : Option Int := (vs.find? (fun v => v.1 == n)).map (·.2)
theorem rootOf_mem {vs : List (Int × Int)} {n r : Int} (h : rootOf vs n = some r) : (n, r) ∈ vs := by
  unfold rootOf at h
  cases hf : vs.find? (fun v => v.1 == n) with
  | none => rw [hf] at h; cases h
  | some v =>
    rw [hf] at h
    simp at h
    have h1 := List.find?_some hf
    have h2 := List.mem_of_find?_eq_some hf
    simp at h1
    rw [← h1, ← h]
    exact h2

/-- What is answered to a message that is one. -/
def acc (ts : List Msg) (x : Msg) : Int :=
  if x.kind = 1 then (if versL ts = [] then 0 else 8)
  else if x.kind = 2 then
    match (versL ts).getLast? with
    | none => 8
    | some v => if v.1 ≠ x.m then 8 else if wk x x.m ≠ v.2 ∨ wk x x.n ≠ x.root then 9 else 0
  else
    match rootOf (versL ts) x.n with
    | none => 8
    | some r => if wk x x.n ≠ r then 9 else 0
/-- What Take answers, and what was taken then. -/
def tkE (ts : List Msg) (s : List UInt8) : Int :=
  match decS s with
  | .error e => e.1
  | .ok x => if 300 ≤ ts.length then 3 else acc ts x
def tkL (ts : List Msg) (s : List UInt8) : List Msg :=
  match decS s with
  | .error _ => ts
  | .ok x => if 300 ≤ ts.length ∨ acc ts x ≠ 0 then ts else ts ++ [x]

/-- Messages that were taken, in this order. -/
inductive Took : List Msg → Prop
  | nil : Took []
  | snoc (ts : List Msg) (x : Msg) : Took ts → ValidM x → acc ts x = 0 → ts.length < 300 → Took (ts ++ [x])

theorem Took.take {ts : List Msg} (h : Took ts) (s : List UInt8) : Took (tkL ts s) := by
  unfold tkL
  cases hd : decS s with
  | error e => exact h
  | ok x =>
    simp only
    split
    · exact h
    · rename_i hn
      exact .snoc ts x h (decS_ok hd).1 (by omega) (by omega)

/-- The events of leaves. -/
def lvs (l : List PN) : List ByteArray := l.filterMap fun x => if x.kind = 1 then some x.ev else none
theorem lvs_append (a b : List PN) : lvs (a ++ b) = lvs a ++ lvs b := by unfold lvs; rw [List.filterMap_append]
theorem lvs_two (l : List PN) : lvs (⟨2, 0, ByteArray.empty⟩ :: l) = lvs l := by simp [lvs]
theorem lvs_alone (l : List PN) : lvs (⟨3, 0, ByteArray.empty⟩ :: l) = lvs l := by simp [lvs]
/-- All preimages. -/
def txM (x : Msg) : List (List UInt8) := if x.kind = 1 then [] else wkT x x.n ++ (if x.kind = 2 then wkT x x.m else [])
def txL (ts : List Msg) : List (List UInt8) := (ts.map txM).flatten
theorem txL_snoc (ts : List Msg) (x : Msg) : txL (ts ++ [x]) = txL ts ++ txM x := by
  unfold txL; rw [List.map_append, List.flatten_append]; simp
end Go.Proofs.YtlndinigbppafaaGreat
