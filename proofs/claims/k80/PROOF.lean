import PyProof.Rows.All
import HandS.ForMost
import HandS.Walk
import HandS.IsInst
import HandS.Deep
import HandS.Style
import HandS.TupLe
import HandS.More
import HandS.NoneIn
import KE.GoesMore
import HandS.ReplaceLit
import HandS.ReplaceDef
import PyProof.SliceStr2
import PyProof.Rows.StrStrike
import PySem.Challenge.RW_gapsalike_k80_whole_every_context
set_option Elab.async false
set_option linter.all false
set_option maxRecDepth 100000
set_option maxHeartbeats 4000000
/-! Den: data as trees, the relation of trees to the abstract heap, and what code is worth over trees. -/
namespace Den
open PySem PySem.Spec PyProof.Rows L2

/-- data: lst a tracked list that nothing changes any more, rd one that is only read, own one that its place alone holds -/
inductive D where
  | non
  | bl (b : Bool)
  | int (i : Int)
  | str (s : List Nat)
  | ty (n : String)
  | lst (ds : List D)
  | tup (ds : List D)
  | rd (ds : List D)
  | own (ds : List D)
  deriving Inhabited

abbrev Tp := Addr → Prop
abbrev Em : Tp := fun _ => False

mutual
def Rep (K : PySem.W.Frag) (G H : Hp) : D → V → Tp → Prop
  | .non, v, _ => v = .non
  | .bl b, v, _ => v = .bl b
  | .int i, v, _ => v = .int i
  | .str s, v, _ => v = .str ⟨s.toArray⟩
  | .ty n, v, _ => v = .ty n
  | .lst ds, v, _ => ∃ a vs, v = .ref a ∧ G a = some (.lst vs) ∧ Reps K G H ds vs Em
  | .tup ds, v, _ => ∃ a vs, v = .ref a ∧ SqT K G a vs ∧ Reps K G H ds vs Em
  | .rd ds, v, _ => ∃ a vs, v = .ref a ∧ SqL K G a vs ∧ Reps K G H ds vs Em
  | .own ds, v, T => ∃ a vs U, v = .ref a ∧ H a = some (.lst vs) ∧ T a ∧ (∀ b, U b → T b ∧ b ≠ a) ∧ Reps K G H ds vs U
def Reps (K : PySem.W.Frag) (G H : Hp) : List D → List V → Tp → Prop
  | [], vs, _ => vs = []
  | d :: ds, vs, T => ∃ v r U W, vs = v :: r ∧ (∀ b, U b → T b) ∧ (∀ b, W b → T b) ∧ (∀ b, U b → W b → False) ∧ Rep K G H d v U ∧ Reps K G H ds r W
end

section
variable {K : PySem.W.Frag} {G G' H H' : Hp}

theorem same_sqT {a : Addr} {xs : List V} (e : Same H H') (h : SqT K H a xs) : SqT K H' a xs := by
  rcases h with (h | ⟨o, h⟩) | h
  · exact .inl (.inl (e _ _ h))
  · exact .inl (.inr ⟨o, e _ _ h⟩)
  · exact .inr h

mutual
theorem Rep.mono : ∀ (d : D) (v : V) (T T' : Tp), (∀ a, T a → T' a) → Rep K G H d v T → Rep K G H d v T'
  | .non, _, _, _, _, h => h
  | .bl _, _, _, _, _, h => h
  | .int _, _, _, _, _, h => h
  | .str _, _, _, _, _, h => h
  | .ty _, _, _, _, _, h => h
  | .lst _, _, _, _, _, h => h
  | .tup _, _, _, _, _, h => h
  | .rd _, _, _, _, _, h => h
  | .own ds, v, T, T', m, h => by
    obtain ⟨a, vs, U, e, ha, ta, hu, hr⟩ := h
    exact ⟨a, vs, U, e, ha, m _ ta, fun b hb => ⟨m _ (hu b hb).1, (hu b hb).2⟩, hr⟩
end

mutual
theorem Rep.frame : ∀ (d : D) (v : V) (T : Tp), Same G G' → (∀ a o, T a → H a = some o → H' a = some o) → Rep K G H d v T → Rep K G' H' d v T
  | .non, _, _, _, _, h => h
  | .bl _, _, _, _, _, h => h
  | .int _, _, _, _, _, h => h
  | .str _, _, _, _, _, h => h
  | .ty _, _, _, _, _, h => h
  | .lst ds, v, T, g, k, h => by
    obtain ⟨a, vs, e, ha, hr⟩ := h
    exact ⟨a, vs, e, g _ _ ha, Reps.frame ds vs Em g (fun _ _ z => z.elim) hr⟩
  | .tup ds, v, T, g, k, h => by
    obtain ⟨a, vs, e, ha, hr⟩ := h
    exact ⟨a, vs, e, same_sqT g ha, Reps.frame ds vs Em g (fun _ _ z => z.elim) hr⟩
  | .rd ds, v, T, g, k, h => by
    obtain ⟨a, vs, e, ha, hr⟩ := h
    exact ⟨a, vs, e, g.seq ha, Reps.frame ds vs Em g (fun _ _ z => z.elim) hr⟩
  | .own ds, v, T, g, k, h => by
    obtain ⟨a, vs, U, e, ha, ta, hu, hr⟩ := h
    exact ⟨a, vs, U, e, k _ _ ta ha, ta, hu, Reps.frame ds vs U g (fun b o hb => k b o (hu b hb).1) hr⟩
theorem Reps.frame : ∀ (ds : List D) (vs : List V) (T : Tp), Same G G' → (∀ a o, T a → H a = some o → H' a = some o) → Reps K G H ds vs T → Reps K G' H' ds vs T
  | [], _, _, _, _, h => h
  | d :: ds, vs, T, g, k, h => by
    obtain ⟨v, r, U, W, e, hu, hw, hd, h1, h2⟩ := h
    exact ⟨v, r, U, W, e, hu, hw, hd, Rep.frame d v U g (fun b o hb => k b o (hu b hb)) h1, Reps.frame ds r W g (fun b o hb => k b o (hw b hb)) h2⟩
end

theorem Reps.mono : ∀ (ds : List D) (vs : List V) (T T' : Tp), (∀ a, T a → T' a) → Reps K G H ds vs T → Reps K G H ds vs T'
  | [], _, _, _, _, h => h
  | d :: ds, vs, T, T', m, h => by
    obtain ⟨v, r, U, W, e, hu, hw, hd, h1, h2⟩ := h
    exact ⟨v, r, U, W, e, fun b x => m _ (hu b x), fun b x => m _ (hw b x), hd, h1, h2⟩

/-- the head is no object of its place -/
def D.flat : D → Bool
  | .own _ => false
  | _ => true
theorem Rep.flat {d : D} {v : V} {T T' : Tp} (f : d.flat = true) (h : Rep K G H d v T) : Rep K G H d v T' := by
  cases d with
  | own ds => exact absurd f Bool.false_ne_true
  | _ => exact h
/-- what is not its place's own stands whatever the heap -/
theorem Rep.shared {d : D} {v : V} (g : Same G G') (h : Rep K G H d v Em) : Rep K G' H' d v Em := Rep.frame d v Em g (fun _ _ z => z.elim) h
theorem Reps.shared {ds : List D} {vs : List V} (g : Same G G') (h : Reps K G H ds vs Em) : Reps K G' H' ds vs Em := Reps.frame ds vs Em g (fun _ _ z => z.elim) h

theorem Reps.len : ∀ {ds : List D} {vs : List V} {T : Tp}, Reps K G H ds vs T → vs.length = ds.length
  | [], _, _, h => by rw [show _ = [] from h]; rfl
  | d :: ds, vs, T, h => by
    obtain ⟨v, r, U, W, rfl, hu, hw, hd, h1, h2⟩ := h
    rw [List.length_cons, List.length_cons, Reps.len h2]
theorem Reps.get : ∀ {ds : List D} {vs : List V} {T : Tp} {i : Nat} {d : D}, Reps K G H ds vs T → ds[i]? = some d → ∃ v, vs[i]? = some v ∧ Rep K G H d v T
  | [], _, _, i, d, h, e => by simp at e
  | x :: ds, vs, T, i, d, h, e => by
    obtain ⟨v, r, U, W, rfl, hu, hw, hd, h1, h2⟩ := h
    cases i with
    | zero =>
      have e1 : x = d := by simpa using e
      subst e1
      exact ⟨v, rfl, Rep.mono _ _ _ _ hu h1⟩
    | succ i =>
      obtain ⟨v', q1, q2⟩ := Reps.get (i := i) h2 (by simpa using e)
      exact ⟨v', by simpa using q1, Rep.mono _ _ _ _ hw q2⟩
theorem Reps.get' {ds : List D} {vs : List V} {T : Tp} {i : Nat} {v : V} (h : Reps K G H ds vs T) (e : vs[i]? = some v) : ∃ d, ds[i]? = some d ∧ Rep K G H d v T := by
  have hl := h.len
  obtain ⟨hi, _⟩ := List.getElem?_eq_some_iff.mp e
  have e2 : ds[i]? = some ds[i] := List.getElem?_eq_getElem (by omega)
  obtain ⟨v', q1, q2⟩ := h.get e2
  rw [e] at q1
  cases q1
  exact ⟨_, e2, q2⟩
theorem Reps.app : ∀ {ds es : List D} {vs ws : List V} {U W T : Tp}, Reps K G H ds vs U → Reps K G H es ws W → (∀ b, U b → T b) → (∀ b, W b → T b) → (∀ b, U b → W b → False) → Reps K G H (ds ++ es) (vs ++ ws) T
  | [], es, vs, ws, U, W, T, h, h', hu, hw, hd => by
    rw [show vs = [] from h]
    exact Reps.mono _ _ _ _ hw h'
  | d :: ds, es, vs, ws, U, W, T, h, h', hu, hw, hd => by
    obtain ⟨v, r, U1, W1, rfl, hu1, hw1, hd1, h1, h2⟩ := h
    refine ⟨v, r ++ ws, U1, fun b => W1 b ∨ W b, rfl, fun b x => hu b (hu1 b x), fun b x => x.elim (fun y => hu b (hw1 b y)) (fun y => hw b y), fun b x y => y.elim (fun z => hd1 b x z) (fun z => hd b (hu1 b x) z), h1, ?_⟩
    exact Reps.app h2 h' (fun b x => .inl x) (fun b x => .inr x) (fun b x y => hd b (hw1 b x) y)
theorem Reps.appE {ds es : List D} {vs ws : List V} (h : Reps K G H ds vs Em) (h' : Reps K G H es ws Em) : Reps K G H (ds ++ es) (vs ++ ws) Em :=
  Reps.app h h' (fun _ z => z) (fun _ z => z) (fun _ z _ => z)
theorem Reps.one {d : D} {v : V} {T : Tp} (h : Rep K G H d v T) : Reps K G H [d] [v] T := ⟨v, [], T, Em, rfl, fun _ z => z, fun _ z => z.elim, fun _ _ z => z, h, rfl⟩
theorem Reps.take : ∀ {ds : List D} {vs : List V} {T : Tp} (n : Nat), Reps K G H ds vs T → Reps K G H (ds.take n) (vs.take n) T
  | [], vs, T, n, h => by
    rw [show vs = [] from h]
    simp [Reps]
  | d :: ds, vs, T, 0, h => by simp [Reps]
  | d :: ds, vs, T, n + 1, h => by
    obtain ⟨v, r, U, W, rfl, hu, hw, hd, h1, h2⟩ := h
    exact ⟨v, r.take n, U, W, rfl, hu, hw, hd, h1, Reps.take n h2⟩
theorem Reps.drop : ∀ {ds : List D} {vs : List V} {T : Tp} (n : Nat), Reps K G H ds vs T → Reps K G H (ds.drop n) (vs.drop n) T
  | [], vs, T, n, h => by
    rw [show vs = [] from h]
    simp [Reps]
  | d :: ds, vs, T, 0, h => h
  | d :: ds, vs, T, n + 1, h => by
    obtain ⟨v, r, U, W, rfl, hu, hw, hd, h1, h2⟩ := h
    exact Reps.mono _ _ _ _ hw (Reps.drop n h2)
theorem Reps.set : ∀ {ds : List D} {vs : List V} {U W T : Tp} {d : D} {v : V} (n : Nat), Reps K G H ds vs U → Rep K G H d v W → (∀ b, U b → T b) → (∀ b, W b → T b) → (∀ b, U b → W b → False) → Reps K G H (ds.set n d) (vs.set n v) T
  | [], vs, U, W, T, d, v, n, h, h', hu, hw, hd => by
    rw [show vs = [] from h]
    simp [Reps]
  | x :: ds, vs, U, W, T, d, v, 0, h, h', hu, hw, hd => by
    obtain ⟨y, r, U1, W1, rfl, hu1, hw1, hd1, h1, h2⟩ := h
    exact ⟨v, r, W, W1, rfl, hw, fun b x => hu b (hw1 b x), fun b x y => hd b (hw1 b y) x, h', h2⟩
  | x :: ds, vs, U, W, T, d, v, n + 1, h, h', hu, hw, hd => by
    obtain ⟨y, r, U1, W1, rfl, hu1, hw1, hd1, h1, h2⟩ := h
    refine ⟨y, r.set n v, U1, fun b => W1 b ∨ W b, rfl, fun b x => hu b (hu1 b x), fun b x => x.elim (fun z => hu b (hw1 b z)) (fun z => hw b z), fun b x z => z.elim (fun q => hd1 b x q) (fun q => hd b (hu1 b x) q), h1, ?_⟩
    exact Reps.set n h2 h' (fun b x => .inl x) (fun b x => .inr x) (fun b x z => hd b (hw1 b x) z)
end

/-! ### freezing -/
mutual
def fz : D → D
  | .own ds => .lst (fzs ds)
  | .non => .non
  | .bl b => .bl b
  | .int i => .int i
  | .str s => .str s
  | .ty n => .ty n
  | .lst ds => .lst ds
  | .tup ds => .tup ds
  | .rd ds => .rd ds
def fzs : List D → List D
  | [] => []
  | d :: ds => fz d :: fzs ds
end
theorem fzs_map : ∀ ds : List D, fzs ds = ds.map fz
  | [] => rfl
  | d :: ds => by rw [fzs, fzs_map ds]; rfl
/-- what is frozen: at T as the heap has it, else as before -/
noncomputable def frzH (G H : Hp) (T : Tp) : Hp := fun a => by
  classical
  exact if T a then H a else G a
theorem frzH_in {G H : Hp} {T : Tp} {a : Addr} (h : T a) : frzH G H T a = H a := by
  unfold frzH
  simp [h]
theorem frzH_out {G H : Hp} {T : Tp} {a : Addr} (h : ¬ T a) : frzH G H T a = G a := by
  unfold frzH
  simp [h]
theorem frzH_same {G H : Hp} {T : Tp} (hT : ∀ a, T a → G a = none) : Same G (frzH G H T) := fun a o e => by
  have h : ¬ T a := fun z => by
    rw [hT a z] at e
    cases e
  rw [frzH_out h]
  exact e
section
variable {K : PySem.W.Frag} {G G' H H' : Hp}
mutual
theorem Rep.fz : ∀ (d : D) (v : V) (T : Tp), Same G G' → (∀ a o, T a → H a = some o → G' a = some o) → Rep K G H d v T → Rep K G' H' (fz d) v Em
  | .non, _, _, _, _, h => by unfold Den.fz; exact h
  | .bl _, _, _, _, _, h => by unfold Den.fz; exact h
  | .int _, _, _, _, _, h => by unfold Den.fz; exact h
  | .str _, _, _, _, _, h => by unfold Den.fz; exact h
  | .ty _, _, _, _, _, h => by unfold Den.fz; exact h
  | .lst ds, v, T, g, k, h => by
    unfold Den.fz
    exact Rep.shared g (Rep.flat (T' := Em) rfl h)
  | .tup ds, v, T, g, k, h => by
    unfold Den.fz
    exact Rep.shared g (Rep.flat (T' := Em) rfl h)
  | .rd ds, v, T, g, k, h => by
    unfold Den.fz
    exact Rep.shared g (Rep.flat (T' := Em) rfl h)
  | .own ds, v, T, g, k, h => by
    obtain ⟨a, vs, U, e, ha, ta, hu, hr⟩ := h
    unfold Den.fz
    exact ⟨a, vs, e, k _ _ ta ha, Reps.fz ds vs U g (fun b o hb => k b o (hu b hb).1) hr⟩
theorem Reps.fz : ∀ (ds : List D) (vs : List V) (T : Tp), Same G G' → (∀ a o, T a → H a = some o → G' a = some o) → Reps K G H ds vs T → Reps K G' H' (fzs ds) vs Em
  | [], _, _, _, _, h => h
  | d :: ds, vs, T, g, k, h => by
    obtain ⟨v, r, U, W, e, hu, hw, hd, h1, h2⟩ := h
    exact ⟨v, r, Em, Em, e, fun _ z => z, fun _ z => z, fun _ z _ => z, Rep.fz d v U g (fun b o hb => k b o (hu b hb)) h1, Reps.fz ds r W g (fun b o hb => k b o (hw b hb)) h2⟩
end
end

/-! ### the state -/
abbrev Env := List (Option D)
inductive R where
  | v (d : D)
  | own (d : D)
  | at (i : Nat)

structure Sim (K : PySem.W.Frag) (G : Hp) (F : Nat → Tp) (H : Hp) (ρ : Env) (σ : L2.St) : Prop where
  len : ρ.length = σ.length
  gh : Same G H
  dis : ∀ i j a, F i a → F j a → i = j
  fg : ∀ i a, F i a → G a = none
  fh : ∀ i a, F i a → H a ≠ none
  slot : ∀ (i : Nat) (d : D), ρ[i]? = some (some d) → ∃ v, σ[i]? = some (some v) ∧ Rep K G H d v (F i)

structure Fr (G : Hp) (F : Nat → Tp) (H : Hp) (G' : Hp) (F' : Nat → Tp) (H' : Hp) (T : Tp) : Prop where
  g : Same G G'
  keep : ∀ a o, H a = some o → (∀ i, ¬ F i a) → H' a = some o
  live : ∀ a, H a ≠ none → H' a ≠ none
  nf : ∀ i a, F' i a → (∃ j, F j a) ∨ H a = none
  nt : ∀ a, T a → (∃ j, F j a) ∨ H a = none
  ng : ∀ a, G' a ≠ none → G a ≠ none ∨ (∃ j, F j a) ∨ H a = none
  tf : ∀ a i, T a → ¬ F' i a
  tg : ∀ a, T a → G' a = none
  th : ∀ a, T a → H' a ≠ none

theorem Fr.refl (G : Hp) (F : Nat → Tp) (H : Hp) : Fr G F H G F H Em :=
  ⟨Same.refl _, fun _ _ h _ => h, fun _ h => h, fun i _ h => .inl ⟨i, h⟩, fun _ z => z.elim, fun _ h => .inl h, fun _ _ z => z.elim, fun _ z => z.elim, fun _ z => z.elim⟩
section
variable {K : PySem.W.Frag} {G G1 G2 H H1 H2 : Hp} {F F1 F2 : Nat → Tp} {T T1 T2 : Tp} {ρ ρ1 : Env} {σ : L2.St} {d : D} {v : V}
/-- a value that its holder has in hand stays through what runs beside it -/
theorem Fr.temp (b : Fr G1 F1 H1 G2 F2 H2 T2) (tf : ∀ a i, T1 a → ¬ F1 i a) (tg : ∀ a, T1 a → G1 a = none) (th : ∀ a, T1 a → H1 a ≠ none) :
    (∀ a i, T1 a → ¬ F2 i a) ∧ (∀ a, T1 a → G2 a = none) ∧ (∀ a, T1 a → H2 a ≠ none) ∧ (∀ a, T1 a → ¬ T2 a) ∧ ∀ a o, T1 a → H1 a = some o → H2 a = some o := by
  refine ⟨fun a i t f => ?_, fun a t => ?_, fun a t => b.live a (th a t), fun a t t2 => ?_, fun a o t e => b.keep a o e fun i f => tf a i t f⟩
  · rcases b.nf i a f with ⟨j, z⟩ | z
    · exact tf a j t z
    · exact th a t z
  · cases e : G2 a with
    | none => rfl
    | some o =>
      rcases b.ng a (by rw [e]; exact fun z => nomatch z) with z | ⟨j, z⟩ | z
      · exact absurd (tg a t) z
      · exact absurd z (tf a j t)
      · exact absurd z (th a t)
  · rcases b.nt a t2 with ⟨j, z⟩ | z
    · exact tf a j t z
    · exact th a t z
theorem Fr.trans (a : Fr G F H G1 F1 H1 T1) (b : Fr G1 F1 H1 G2 F2 H2 T2) : Fr G F H G2 F2 H2 (fun x => T1 x ∨ T2 x) := by
  obtain ⟨p1, p2, p3, p4, p5⟩ := b.temp a.tf a.tg a.th
  have back : ∀ x, (∃ j, F1 j x) ∨ H1 x = none → (∃ j, F j x) ∨ H x = none := fun x h => by
    rcases h with ⟨j, z⟩ | z
    · exact a.nf j x z
    · right
      cases e : H x with
      | none => rfl
      | some o => exact absurd z (a.live x (by rw [e]; exact fun q => nomatch q))
  refine ⟨a.g.trans b.g, fun x o e n => ?_, fun x h => b.live x (a.live x h), fun i x h => back x (b.nf i x h), fun x h => ?_, fun x h => ?_, fun x i h => ?_, fun x h => ?_, fun x h => ?_⟩
  · refine b.keep x o (a.keep x o e n) fun i f => ?_
    rcases a.nf i x f with ⟨j, z⟩ | z
    · exact n j z
    · rw [e] at z
      cases z
  · rcases h with h | h
    · exact a.nt x h
    · exact back x (b.nt x h)
  · rcases b.ng x h with z | z
    · rcases a.ng x z with y | y
      · exact .inl y
      · exact .inr y
    · exact .inr (back x z)
  · rcases h with h | h
    · exact p1 x i h
    · exact b.tf x i h
  · rcases h with h | h
    · exact p2 x h
    · exact b.tg x h
  · rcases h with h | h
    · exact p3 x h
    · exact b.th x h
theorem Fr.less (a : Fr G F H G1 F1 H1 T1) (h : ∀ x, T x → T1 x) : Fr G F H G1 F1 H1 T :=
  ⟨a.g, a.keep, a.live, a.nf, fun x t => a.nt x (h x t), a.ng, fun x i t => a.tf x i (h x t), fun x t => a.tg x (h x t), fun x t => a.th x (h x t)⟩
theorem Fr.em (a : Fr G F H G1 F1 H1 T1) : Fr G F H G1 F1 H1 Em := a.less fun _ z => z.elim
/-- both without anything in hand -/
theorem Fr.seq (a : Fr G F H G1 F1 H1 T1) (b : Fr G1 F1 H1 G2 F2 H2 T2) : Fr G F H G2 F2 H2 T2 := (a.trans b).less fun _ z => .inr z

/-- one object more that nothing changes -/
theorem Fr.new {p : Addr} {o : HO} (gh : Same G H) (fh : ∀ i a, F i a → H a ≠ none) (hp : H p = none) : Fr G F H (upd G p o) F (upd H p o) Em := by
  have gp : G p = Option.none := gh.free hp
  refine ⟨fun b u e => ?_, fun b u e _ => ?_, fun b e => ?_, fun i b h => .inl ⟨i, h⟩, fun _ z => z.elim, fun b e => ?_, fun _ _ z => z.elim, fun _ z => z.elim, fun _ z => z.elim⟩
  · rw [upd_ne (ne_of_none e gp)]
    exact e
  · rw [upd_ne (ne_of_none e hp)]
    exact e
  · by_cases hb : b = p
    · rw [hb, upd_same]
      exact fun z => nomatch z
    · rw [upd_ne hb]
      exact e
  · by_cases hb : b = p
    · rw [hb]
      exact .inr (.inr hp)
    · rw [upd_ne hb] at e
      exact .inl e
theorem same_new {p : Addr} {o : HO} (hp : H p = none) : Same H (upd H p o) := fun b u e => by
  rw [upd_ne (ne_of_none e hp)]
  exact e
theorem same_both {p : Addr} {o : HO} (gh : Same G H) (hp : H p = none) : Same (upd G p o) (upd H p o) := fun b u e => by
  by_cases hb : b = p
  · rw [hb, upd_same] at e ⊢
    exact e
  · rw [upd_ne hb] at e ⊢
    exact gh b u e
theorem Sim.new {p : Addr} {o : HO} (S : Sim K G F H ρ σ) (hp : H p = none) : Sim K (upd G p o) F (upd H p o) ρ σ := by
  have gp : G p = Option.none := S.gh.free hp
  have f := Fr.new (o := o) S.gh S.fh hp
  refine ⟨S.len, same_both S.gh hp, S.dis, fun i a h => ?_, fun i a h => f.live a (S.fh i a h), fun i d e => ?_⟩
  · rw [upd_ne (fun z => S.fh i a h (by rw [z]; exact hp))]
    exact S.fg i a h
  · obtain ⟨v, q1, q2⟩ := S.slot i d e
    exact ⟨v, q1, Rep.frame d v _ f.g (fun a u _ e => same_new hp a u e) q2⟩
end
end Den

namespace Den
open PySem PySem.Spec PyProof.Rows L2

def RepR (K : PySem.W.Frag) (G H : Hp) (σ : L2.St) (T : Tp) : R → V → Prop
  | .v d, v => Rep K G H d v Em
  | .own d, v => Rep K G H d v T
  | .at i, v => σ[i]? = some (some v)
def RepRs (K : PySem.W.Frag) (G H : Hp) (σ : L2.St) : Tp → List R → List V → Prop
  | _, [], vs => vs = []
  | T, r :: rs, vs => ∃ v ws U W, vs = v :: ws ∧ (∀ b, U b → T b) ∧ (∀ b, W b → T b) ∧ (∀ b, U b → W b → False) ∧ RepR K G H σ U r v ∧ RepRs K G H σ W rs ws

abbrev Ex := Env → Option (R × Env)
abbrev Ea := Env → Option (List R × Env)
abbrev Et := Env → Option (Bool × Env)

def GoodE (K : PySem.W.Frag) (t : TE) (f : Ex) : Prop := ∀ ρ r ρ', f ρ = some (r, ρ') → ∀ G F H σ, Sim K G F H ρ σ →
  ∀ Q : VK, (∀ v G' F' H' T, Sim K G' F' H' ρ' σ → Fr G F H G' F' H' T → RepR K G' H' σ T r v → Q v H') → t σ H Q
def GoodA (K : PySem.W.Frag) (t : TA) (f : Ea) : Prop := ∀ ρ rs ρ', f ρ = some (rs, ρ') → ∀ G F H σ, Sim K G F H ρ σ →
  ∀ Q : List V → Hp → Prop, (∀ vs G' F' H' T, Sim K G' F' H' ρ' σ → Fr G F H G' F' H' T → RepRs K G' H' σ T rs vs → Q vs H') → t σ H Q
def GoodT (K : PySem.W.Frag) (t : TT) (f : Et) : Prop := ∀ ρ b ρ', f ρ = some (b, ρ') → ∀ G F H σ, Sim K G F H ρ σ →
  ∀ Q : Bool → Hp → Prop, (∀ G' F' H', Sim K G' F' H' ρ' σ → Fr G F H G' F' H' Em → Q b H') → t σ H Q
structure AE (X : Cx) (e : Expr) (f : Ex) : Prop where
  ex : ∃ t, PE X e t ∧ GoodE X.K t f
structure AA (X : Cx) (es : List Expr) (f : Ea) : Prop where
  ex : ∃ t, PA X es t ∧ GoodA X.K t f
structure AT (X : Cx) (e : Expr) (f : Et) : Prop where
  ex : ∃ t, PT X e t ∧ GoodT X.K t f

section
variable {K : PySem.W.Frag} {G G1 G2 H H1 H2 : Hp} {F F1 F2 : Nat → Tp} {T T1 T2 : Tp} {ρ ρ1 : Env} {σ : L2.St} {d : D} {v : V} {r : R} {rs : List R} {vs : List V}

theorem RepR.frame (g : Same G H) (gg : Same G G1) (k : ∀ a o, T a → H a = some o → H1 a = some o) (h : RepR K G H σ T r v) : RepR K G1 H1 σ T r v := by
  cases r with
  | v d => exact Rep.shared gg h
  | own d => exact Rep.frame _ _ _ gg k h
  | «at» i => exact h
theorem RepR.mono (m : ∀ a, T a → T1 a) (h : RepR K G H σ T r v) : RepR K G H σ T1 r v := by
  cases r with
  | v d => exact h
  | own d => exact Rep.mono _ _ _ _ m h
  | «at» i => exact h
theorem RepRs.frame (gg : Same G G1) : ∀ {rs : List R} {vs : List V} {T : Tp}, (∀ a o, T a → H a = some o → H1 a = some o) → RepRs K G H σ T rs vs → RepRs K G1 H1 σ T rs vs
  | [], _, _, _, h => h
  | r :: rs, vs, T, k, h => by
    obtain ⟨v, ws, U, W, e, hu, hw, hd, h1, h2⟩ := h
    refine ⟨v, ws, U, W, e, hu, hw, hd, ?_, RepRs.frame gg (fun a o x => k a o (hw a x)) h2⟩
    cases r with
    | v d => exact Rep.shared gg h1
    | own d => exact Rep.frame _ _ _ gg (fun a o x => k a o (hu a x)) h1
    | «at» i => exact h1

/-- what stands in a place -/
def gt (ρ : Env) (i : Nat) : Option D := (ρ[i]?).bind id
theorem gt_some {i : Nat} (h : gt ρ i = some d) : ρ[i]? = some (some d) := by
  unfold gt at h
  obtain ⟨x, e1, e2⟩ := Option.bind_eq_some_iff.mp h
  have e3 : x = some d := e2
  rw [e1, e3]
/-- the datum that a result stands for -/
def dr (ρ : Env) : R → Option D
  | .v d => some d
  | .own d => some d
  | .at i => gt ρ i
theorem dr_ok (S : Sim K G F H ρ σ) (h : RepR K G H σ T r v) (e : dr ρ r = some d) : ∃ U, Rep K G H d v U := by
  cases r with
  | v x =>
    have e1 : x = d := Option.some.inj e
    subst e1
    exact ⟨_, h⟩
  | own x =>
    have e1 : x = d := Option.some.inj e
    subst e1
    exact ⟨_, h⟩
  | «at» i =>
    obtain ⟨w, q1, q2⟩ := S.slot i d (gt_some e)
    have h' : σ[i]? = some (some v) := h
    rw [h'] at q1
    cases q1
    exact ⟨_, q2⟩

/-! ### at most one new object -/
def Ext1 (G H G' H' : Hp) : Prop := (G' = G ∧ H' = H) ∨ ∃ p o, H p = none ∧ G' = upd G p o ∧ H' = upd H p o
def Out (K : PySem.W.Frag) (G H : Hp) (z : D) (Q : VK) : Prop := ∀ v G' H', Ext1 G H G' H' → Rep K G' H' z v Em → Q v H'
theorem Out.here {z : D} {Q : VK} (q : Out K G H z Q) (h : Rep K G H z v Em) : Q v H := q v G H (.inl ⟨rfl, rfl⟩) h
theorem Out.new {z : D} {Q : VK} {p : Addr} {o : HO} (q : Out K G H z Q) (hp : H p = none) (h : Rep K (upd G p o) (upd H p o) z v Em) : Q v (upd H p o) := q v _ _ (.inr ⟨p, o, hp, rfl, rfl⟩) h
theorem Out.lst {ds : List D} {Q : VK} {p : Addr} {vs : List V} (q : Out K G H (.lst ds) Q) (gh : Same G H) (hp : H p = none) (h : Reps K G H ds vs Em) : Q (.ref p) (upd H p (.lst vs)) :=
  q.new hp ⟨p, vs, rfl, upd_same, Reps.shared (same_new (gh.free hp)) h⟩
theorem Out.tup {ds : List D} {Q : VK} {p : Addr} {vs : List V} (q : Out K G H (.tup ds) Q) (gh : Same G H) (hp : H p = none) (h : Reps K G H ds vs Em) : Q (.ref p) (upd H p (.tup vs)) :=
  q.new hp ⟨p, vs, rfl, .inl (.inl upd_same), Reps.shared (same_new (gh.free hp)) h⟩
theorem Sim.ext1 (S : Sim K G F H ρ σ) (x : Ext1 G H G1 H1) : Sim K G1 F H1 ρ σ ∧ Fr G F H G1 F H1 Em := by
  rcases x with ⟨rfl, rfl⟩ | ⟨p, o, hp, rfl, rfl⟩
  · exact ⟨S, Fr.refl _ _ _⟩
  · exact ⟨S.new hp, Fr.new S.gh S.fh hp⟩

/-! ### operations on values -/
def GoodR (K : PySem.W.Frag) (r : R2) (o : D → D → Option D) : Prop := ∀ x y z, o x y = some z → ∀ G H vx vy Tx Ty, Same G H → Rep K G H x vx Tx → Rep K G H y vy Ty → ∀ Q : VK, Out K G H z Q → r vx vy H Q
def GoodU (K : PySem.W.Frag) (r : V → Hp → VK → Prop) (o : D → Option D) : Prop := ∀ x z, o x = some z → ∀ G H vx Tx, Same G H → Rep K G H x vx Tx → ∀ Q : VK, Out K G H z Q → r vx H Q
def RepAny (K : PySem.W.Frag) (G H : Hp) : List D → List V → Prop := Paired fun d v => ∃ T, Rep K G H d v T
def GoodC (K : PySem.W.Frag) (r : List V → Hp → VK → Prop) (o : List D → Option D) : Prop := ∀ xs z, o xs = some z → ∀ G H vs, Same G H → RepAny K G H xs vs → ∀ Q : VK, Out K G H z Q → r vs H Q
def GoodM (K : PySem.W.Frag) (r : V → List V → Hp → VK → Prop) (o : D → List D → Option D) : Prop := ∀ x xs z, o x xs = some z → ∀ G H vx vs Tx, Same G H → Rep K G H x vx Tx → RepAny K G H xs vs → ∀ Q : VK, Out K G H z Q → r vx vs H Q
theorem GoodR.or {r r' : R2} {o o' : D → D → Option D} (h : GoodR K r o) (h' : GoodR K r' o') : GoodR K (fun x y H Q => r x y H Q ∨ r' x y H Q) (fun x y => (o x y).orElse fun _ => o' x y) := by
  intro x y z e G H vx vy Tx Ty gh hx hy Q q
  dsimp only at e
  cases e1 : o x y with
  | some w =>
    rw [e1] at e
    have e2 : w = z := Option.some.inj e
    subst e2
    exact .inl (h x y w e1 G H vx vy Tx Ty gh hx hy Q q)
  | none =>
    rw [e1] at e
    exact .inr (h' x y z e G H vx vy Tx Ty gh hx hy Q q)
theorem GoodC.or {r r' : List V → Hp → VK → Prop} {o o' : List D → Option D} (h : GoodC K r o) (h' : GoodC K r' o') : GoodC K (fun x H Q => r x H Q ∨ r' x H Q) (fun x => (o x).orElse fun _ => o' x) := by
  intro x z e G H vx gh hx Q q
  dsimp only at e
  cases e1 : o x with
  | some w =>
    rw [e1] at e
    have e2 : w = z := Option.some.inj e
    subst e2
    exact .inl (h x w e1 G H vx gh hx Q q)
  | none =>
    rw [e1] at e
    exact .inr (h' x z e G H vx gh hx Q q)

def dAll (ρ : Env) : List R → Option (List D)
  | [] => some []
  | r :: rs => (dr ρ r).bind fun d => (dAll ρ rs).map fun ds => d :: ds
theorem dAll_ok (S : Sim K G F H ρ σ) : ∀ {rs : List R} {vs : List V} {ds : List D} {T : Tp}, RepRs K G H σ T rs vs → dAll ρ rs = some ds → RepAny K G H ds vs
  | [], vs, ds, T, h, e => by
    have e1 : [] = ds := Option.some.inj e
    subst e1
    rw [show vs = [] from h]
    exact .nil
  | r :: rs, vs, ds, T, h, e => by
    obtain ⟨v, ws, U, W, rfl, hu, hw, hd, h1, h2⟩ := h
    unfold dAll at e
    cases e1 : dr ρ r with
    | none =>
      rw [e1] at e
      cases e
    | some d =>
      rw [e1] at e
      cases e2 : dAll ρ rs with
      | none =>
        rw [e2] at e
        cases e
      | some es =>
        rw [e2] at e
        have e3 : d :: es = ds := Option.some.inj e
        subst e3
        exact .cons (dr_ok S h1 e1) (dAll_ok S h2 e2)

/-! ### expressions -/
def xVar (i : Nat) : Ex := fun ρ => (gt ρ i).bind fun d => if d.flat then some (.v d, ρ) else some (.at i, ρ)
def xC (d : D) : Ex := fun ρ => some (.v d, ρ)
def xOp (o : D → D → Option D) (f g : Ex) : Ex := fun ρ => (f ρ).bind fun p => (g p.2).bind fun q => (dr q.2 p.1).bind fun x => (dr q.2 q.1).bind fun y => (o x y).map fun z => (.v z, q.2)
def xUn (o : D → Option D) (f : Ex) : Ex := fun ρ => (f ρ).bind fun p => (dr p.2 p.1).bind fun x => (o x).map fun z => (.v z, p.2)
def xNil : Ea := fun ρ => some ([], ρ)
def xCons (f : Ex) (g : Ea) : Ea := fun ρ => (f ρ).bind fun p => (g p.2).map fun q => (p.1 :: q.1, q.2)

theorem good_var {i : Nat} : GoodE K (tVar i) (xVar i) := by
  intro ρ r ρ' e G F H σ S Q q
  unfold xVar at e
  obtain ⟨d, hd, e⟩ := Option.bind_eq_some_iff.mp e
  obtain ⟨v, hv, hr⟩ := S.slot i d (gt_some hd)
  by_cases f : d.flat = true
  · rw [if_pos f] at e
    cases e
    exact ⟨v, hv, q v G F H Em S (Fr.refl _ _ _) (Rep.flat f hr)⟩
  · rw [if_neg f] at e
    cases e
    exact ⟨v, hv, q v G F H Em S (Fr.refl _ _ _) hv⟩
theorem good_c (h : ∀ G H, Rep K G H d v Em) : GoodE K (tC v) (xC d) := by
  intro ρ r ρ' e G F H σ S Q q
  cases e
  exact q v G F H Em S (Fr.refl _ _ _) (h G H)

theorem good_op {r2 : R2} {o : D → D → Option D} {ta tb : TE} {f g : Ex} (ho : GoodR K r2 o) (ha : GoodE K ta f) (hb : GoodE K tb g) : GoodE K (tOp r2 ta tb) (xOp o f g) := by
  intro ρ r ρ' e G F H σ S Q q
  unfold xOp at e
  obtain ⟨⟨r1, ρ1⟩, e1, e⟩ := Option.bind_eq_some_iff.mp e
  obtain ⟨⟨r2', ρ2⟩, e2, e⟩ := Option.bind_eq_some_iff.mp e
  obtain ⟨x, e3, e⟩ := Option.bind_eq_some_iff.mp e
  obtain ⟨y, e4, e⟩ := Option.bind_eq_some_iff.mp e
  obtain ⟨z, e5, e⟩ := Option.map_eq_some_iff.mp e
  cases e
  refine ha ρ r1 ρ1 e1 G F H σ S _ fun v1 G1 F1 H1 T1 S1 f1 h1 => ?_
  refine hb ρ1 r2' ρ2 e2 G1 F1 H1 σ S1 _ fun v2 G2 F2 H2 T2 S2 f2 h2 => ?_
  obtain ⟨p1, p2, p3, p4, p5⟩ := f2.temp f1.tf f1.tg f1.th
  have h1' : RepR K G2 H2 σ T1 r1 v1 := RepR.frame S1.gh f2.g p5 h1
  obtain ⟨U1, k1⟩ := dr_ok S2 h1' e3
  obtain ⟨U2, k2⟩ := dr_ok S2 h2 e4
  refine ho x y z e5 G2 H2 v1 v2 U1 U2 S2.gh k1 k2 Q fun v G3 H3 x3 h3 => ?_
  obtain ⟨S3, f3⟩ := S2.ext1 x3
  exact q v G3 F2 H3 Em S3 ((f1.seq f2).seq f3) h3
theorem good_un {r1 : V → Hp → VK → Prop} {o : D → Option D} {ta : TE} {f : Ex} (ho : GoodU K r1 o) (ha : GoodE K ta f) : GoodE K (tUn r1 ta) (xUn o f) := by
  intro ρ r ρ' e G F H σ S Q q
  unfold xUn at e
  obtain ⟨⟨r1, ρ1⟩, e1, e⟩ := Option.bind_eq_some_iff.mp e
  obtain ⟨x, e3, e⟩ := Option.bind_eq_some_iff.mp e
  obtain ⟨z, e5, e⟩ := Option.map_eq_some_iff.mp e
  cases e
  refine ha ρ r1 ρ1 e1 G F H σ S _ fun v1 G1 F1 H1 T1 S1 f1 h1 => ?_
  obtain ⟨U1, k1⟩ := dr_ok S1 h1 e3
  refine ho x z e5 G1 H1 v1 U1 S1.gh k1 Q fun v G3 H3 x3 h3 => ?_
  obtain ⟨S3, f3⟩ := S1.ext1 x3
  exact q v G3 F1 H3 Em S3 (f1.seq f3) h3
theorem good_nil : GoodA K tNil xNil := by
  intro ρ rs ρ' e G F H σ S Q q
  cases e
  exact q [] G F H Em S (Fr.refl _ _ _) rfl
theorem good_cons {te : TE} {ta : TA} {f : Ex} {g : Ea} (h : GoodE K te f) (h' : GoodA K ta g) : GoodA K (tCons te ta) (xCons f g) := by
  intro ρ rs ρ' e G F H σ S Q q
  unfold xCons at e
  obtain ⟨⟨r1, ρ1⟩, e1, e⟩ := Option.bind_eq_some_iff.mp e
  obtain ⟨⟨rs2, ρ2⟩, e2, e⟩ := Option.map_eq_some_iff.mp e
  cases e
  refine h ρ r1 ρ1 e1 G F H σ S _ fun v1 G1 F1 H1 T1 S1 f1 h1 => ?_
  refine h' ρ1 rs2 ρ2 e2 G1 F1 H1 σ S1 _ fun v2 G2 F2 H2 T2 S2 f2 h2 => ?_
  obtain ⟨p1, p2, p3, p4, p5⟩ := f2.temp f1.tf f1.tg f1.th
  exact q (v1 :: v2) G2 F2 H2 _ S2 (f1.trans f2) ⟨v1, v2, T1, T2, rfl, fun _ z => .inl z, fun _ z => .inr z, fun b => p4 b, RepR.frame S1.gh f2.g p5 h1, h2⟩

/-! ### freezing what comes -/
def xFz (f : Ex) : Ex := fun ρ => (f ρ).bind fun p => match p.1 with
  | .v d => some (.v d, p.2)
  | .own d => some (.v (fz d), p.2)
  | .at i => (gt p.2 i).bind fun d => some (.v (fz d), p.2.set i (some (fz d)))
/-- what is frozen behind the place i -/
theorem Sim.frz {i : Nat} (S : Sim K G F H ρ σ) (hd : ρ[i]? = some (some d)) :
    Sim K (frzH G H (F i)) (fun j => if j = i then Em else F j) H (ρ.set i (some (fz d))) σ ∧ Fr G F H (frzH G H (F i)) (fun j => if j = i then Em else F j) H Em ∧ ∀ v, σ[i]? = some (some v) → Rep K (frzH G H (F i)) H (fz d) v Em := by
  have gs : Same G (frzH G H (F i)) := frzH_same fun a => S.fg i a
  have sub : ∀ j a, (if j = i then Em else F j) a → F j a ∧ j ≠ i := fun j a h => by
    by_cases q : j = i
    · rw [if_pos q] at h
      exact h.elim
    · rw [if_neg q] at h
      exact ⟨h, q⟩
  obtain ⟨w, hw, hr⟩ := S.slot i d hd
  have fr : Rep K (frzH G H (F i)) H (fz d) w Em := Rep.fz d w (F i) gs (fun a o t e => by rw [frzH_in t]; exact e) hr
  refine ⟨⟨by rw [List.length_set]; exact S.len, fun a o e => ?_, fun j k a h1 h2 => S.dis j k a (sub j a h1).1 (sub k a h2).1, fun j a h => ?_, fun j a h => S.fh j a (sub j a h).1, fun j x e => ?_⟩, ⟨gs, fun a o e _ => e, fun a h => h, fun j a h => .inl ⟨j, (sub j a h).1⟩, fun _ z => z.elim, fun a h => ?_, fun _ _ z => z.elim, fun _ z => z.elim, fun _ z => z.elim⟩, fun v hv => ?_⟩
  · by_cases t : F i a
    · rw [frzH_in t] at e
      exact e
    · rw [frzH_out t] at e
      exact S.gh a o e
  · obtain ⟨h1, h2⟩ := sub j a h
    rw [frzH_out fun z => h2 (S.dis j i a h1 z)]
    exact S.fg j a h1
  · by_cases q : j = i
    · subst q
      have hj : j < ρ.length := (List.getElem?_eq_some_iff.mp hd).1
      rw [List.getElem?_set_self hj] at e
      have e1 : fz d = x := Option.some.inj (Option.some.inj e)
      subst e1
      exact ⟨w, hw, by rw [if_pos rfl]; exact fr⟩
    · rw [List.getElem?_set_ne (fun z => q z.symm)] at e
      obtain ⟨y, k1, k2⟩ := S.slot j x e
      exact ⟨y, k1, by rw [if_neg q]; exact Rep.frame x y _ gs (fun a o _ e => e) k2⟩
  · by_cases t : F i a
    · exact .inr (.inl ⟨i, t⟩)
    · rw [frzH_out t] at h
      exact .inl h
  · rw [hw] at hv
    cases hv
    exact fr
/-- what is frozen that one has in hand -/
theorem Sim.frzT (S : Sim K G1 F1 H1 ρ σ) (f : Fr G F H G1 F1 H1 T) (h : Rep K G1 H1 d v T) :
    Sim K (frzH G1 H1 T) F1 H1 ρ σ ∧ Fr G F H (frzH G1 H1 T) F1 H1 Em ∧ Rep K (frzH G1 H1 T) H1 (fz d) v Em := by
  have gs : Same G1 (frzH G1 H1 T) := frzH_same fun a => f.tg a
  refine ⟨⟨S.len, fun a o e => ?_, S.dis, fun j a h => ?_, S.fh, fun j x e => ?_⟩, ⟨f.g.trans gs, f.keep, f.live, f.nf, fun _ z => z.elim, fun a h => ?_, fun _ _ z => z.elim, fun _ z => z.elim, fun _ z => z.elim⟩, Rep.fz d v T gs (fun a o t e => by rw [frzH_in t]; exact e) h⟩
  · by_cases t : T a
    · rw [frzH_in t] at e
      exact e
    · rw [frzH_out t] at e
      exact S.gh a o e
  · rw [frzH_out fun z => f.tf a j z h]
    exact S.fg j a h
  · obtain ⟨y, k1, k2⟩ := S.slot j x e
    exact ⟨y, k1, Rep.frame x y _ gs (fun a o _ e => e) k2⟩
  · by_cases t : T a
    · exact .inr (f.nt a t)
    · rw [frzH_out t] at h
      exact f.ng a h
theorem good_fz {te : TE} {f : Ex} (h : GoodE K te f) : GoodE K te (xFz f) := by
  intro ρ r ρ' e G F H σ S Q q
  unfold xFz at e
  obtain ⟨⟨r1, ρ1⟩, e1, e⟩ := Option.bind_eq_some_iff.mp e
  refine h ρ r1 ρ1 e1 G F H σ S _ fun v1 G1 F1 H1 T1 S1 f1 h1 => ?_
  cases r1 with
  | v d =>
    cases e
    exact q v1 G1 F1 H1 T1 S1 f1 h1
  | own d =>
    cases e
    obtain ⟨S2, f2, h2⟩ := S1.frzT f1 h1
    exact q v1 _ F1 H1 Em S2 f2 h2
  | «at» i =>
    dsimp only at e
    obtain ⟨d, hd, e⟩ := Option.bind_eq_some_iff.mp e
    cases e
    obtain ⟨S2, f2, h2⟩ := S1.frz (gt_some hd)
    exact q v1 _ _ H1 Em S2 (f1.seq f2) (h2 v1 h1)
end

section
variable {X : Cx} {e a b : Expr} {es : List Expr} {f g : Ex} {fa : Ea} {pos : Pos}
theorem ae_var (i : Nat) {x : Str} {pos : Pos} (hN : X.N[i]? = some x := by rfl) (hv : Vis X.env.scope x := by first | exact Or.inl rfl | exact Or.inr (Or.inl rfl) | exact Or.inr (Or.inr rfl)) (hd : (x == ("__debug__" : Str)) = false := by decide)
    (hcd : (x == ("__classdict__" : Str)) = false := by decide) : AE X (.Name x pos) (xVar i) := ⟨_, pe_var hN hv hd hcd, good_var⟩
theorem ae_int {i : Int} {j pos} : AE X (.Constant (.int i) j pos) (xC (.int i)) := ⟨_, pe_int, good_c fun _ _ => rfl⟩
theorem ae_bl {b : Bool} {j pos} : AE X (.Constant (.bool b) j pos) (xC (.bl b)) := ⟨_, pe_bl, good_c fun _ _ => rfl⟩
theorem ae_non {j pos} : AE X (.Constant .none j pos) (xC .non) := ⟨_, pe_non, good_c fun _ _ => rfl⟩
theorem ae_str {x : Str} {s : List Nat} {j pos} (h : x = ⟨s.toArray⟩ := by rfl) : AE X (.Constant (.str x) j pos) (xC (.str s)) := ⟨_, pe_str, good_c fun _ _ => by subst h; rfl⟩
theorem ae_fz (h : AE X e f) : AE X e (xFz f) := let ⟨t, p, q⟩ := h; ⟨t, p, good_fz q⟩
theorem ae_op {op : Operator} {r : R2} {o : D → D → Option D} (ho : OpR X (binaryOp op) r) (hg : GoodR X.K r o) (ha : AE X a f) (hb : AE X b g) : AE X (.BinOp a op b pos) (xOp o f g) :=
  let ⟨_, p1, q1⟩ := ha; let ⟨_, p2, q2⟩ := hb; ⟨_, pe_op ho p1 p2, good_op hg q1 q2⟩
theorem ae_un {op : UnaryOp} {r : V → Hp → VK → Prop} {o : D → Option D} (ho : UnR X (unaryOp op) r) (hg : GoodU X.K r o) (ha : AE X a f) : AE X (.UnaryOp op a pos) (xUn o f) :=
  let ⟨_, p1, q1⟩ := ha; ⟨_, pe_un ho p1, good_un hg q1⟩
theorem ae_cmp {op : CmpOp} {r : R2} {o : D → D → Option D} (ho : OpR X (compareOp op) r) (hg : GoodR X.K r o) (ha : AE X a f) (hb : AE X b g) (hm : behindInMarks op b = false) : AE X (.Compare a [op] [b] pos) (xOp o f g) :=
  let ⟨_, p1, q1⟩ := ha; let ⟨_, p2, q2⟩ := hb; ⟨_, pe_cmpR ho p1 p2 hm, good_op hg q1 q2⟩
theorem ae_ix {r : R2} {o : D → D → Option D} (ho : IxR X r) (hg : GoodR X.K r o) (ha : AE X a f) (hb : AE X b g) (hs : PlainIx b := by exact fun _ _ => rfl) : AE X (.Subscript a b pos) (xOp o f g) :=
  let ⟨_, p1, q1⟩ := ha; let ⟨_, p2, q2⟩ := hb; ⟨_, pe_ix ho p1 p2 hs, good_op hg q1 q2⟩
theorem aa_nil : AA X [] xNil := ⟨_, pa_nil, good_nil⟩
theorem aa_cons (h : AE X e f) (h' : AA X es fa) (hs : starEach (e :: es) X.env = (false, eval e X.env) :: starEach es X.env := by rfl) : AA X (e :: es) (xCons f fa) :=
  let ⟨_, p1, q1⟩ := h; let ⟨_, p2, q2⟩ := h'; ⟨_, pa_cons p1 p2 hs, good_cons q1 q2⟩
end
end Den

namespace Den
open PySem PySem.Spec PyProof.Rows L2

/-! ### displays -/
def rOwn : R → Option D
  | .v d => some d
  | .own d => some d
  | .at _ => none
def rVal : R → Option D
  | .v d => some d
  | _ => none
def owns : List R → Option (List D)
  | [] => some []
  | r :: rs => (rOwn r).bind fun d => (owns rs).map fun ds => d :: ds
def valsR : List R → Option (List D)
  | [] => some []
  | r :: rs => (rVal r).bind fun d => (valsR rs).map fun ds => d :: ds
def cap : Nat := 1000000
theorem cap_lt {n : Nat} (h : n ≤ cap) : n < sizeLine := Nat.lt_of_le_of_lt h (by rw [sizeLine_eq]; decide)
def xLst (g : Ea) : Ex := fun ρ => (g ρ).bind fun p => (owns p.1).bind fun ds => if ds.length ≤ cap then some (.own (.own ds), p.2) else none
def xTup (g : Ea) : Ex := fun ρ => (g ρ).bind fun p => (valsR p.1).bind fun ds => if ds.length ≤ cap then some (.v (.tup ds), p.2) else none
/-- a def's call, a test, .. : see below -/
def xAnd (f g : Ex) : Ex := fun ρ => (f ρ).bind fun p => match p.1 with
  | .v (.bl true) => g p.2
  | .v (.bl false) => some (.v (.bl false), p.2)
  | _ => none
def xOr (f g : Ex) : Ex := fun ρ => (f ρ).bind fun p => match p.1 with
  | .v (.bl true) => some (.v (.bl true), p.2)
  | .v (.bl false) => g p.2
  | _ => none
def xNot (f : Ex) : Ex := fun ρ => (f ρ).bind fun p => match p.1 with
  | .v (.bl b) => some (.v (.bl (!b)), p.2)
  | _ => none
def xIf (t : Et) (f g : Ex) : Ex := fun ρ => (t ρ).bind fun p => if p.1 then f p.2 else g p.2
def xB (f : Ex) : Et := fun ρ => (f ρ).bind fun p => match p.1 with
  | .v (.bl b) => some (b, p.2)
  | _ => none
def qAnd (f g : Et) : Et := fun ρ => (f ρ).bind fun p => if p.1 then g p.2 else some (false, p.2)
def qOr (f g : Et) : Et := fun ρ => (f ρ).bind fun p => if p.1 then some (true, p.2) else g p.2
def qNot (f : Et) : Et := fun ρ => (f ρ).map fun p => (!p.1, p.2)
/-- a datum's truth -/
def dTruth : D → Option Bool
  | .non => some false
  | .bl b => some b
  | .int i => some (i != 0)
  | .str s => if s.length ≤ cap then some ((s.length : Int) != 0) else none
  | .lst ds => some (!ds.isEmpty)
  | .rd ds => some (!ds.isEmpty)
  | .own ds => some (!ds.isEmpty)
  | .tup ds => some (!ds.isEmpty)
  | .ty _ => none
def qTru (f : Ex) : Et := fun ρ => (f ρ).bind fun p => (dr p.2 p.1).bind fun d => (dTruth d).map fun b => (b, p.2)
def xChain (o o' : D → D → Option D) (f g h : Ex) : Ex := fun ρ => (f ρ).bind fun p => (g p.2).bind fun q => (dr q.2 p.1).bind fun x => (dr q.2 q.1).bind fun y => (o x y).bind fun z => match z with
  | .bl true => (h q.2).bind fun w => (dr w.2 q.1).bind fun y' => (dr w.2 w.1).bind fun u => (o' y' u).map fun z => (.v z, w.2)
  | .bl false => some (.v (.bl false), q.2)
  | _ => none

section
variable {K : PySem.W.Frag} {G G1 G2 H H1 H2 : Hp} {F F1 F2 : Nat → Tp} {T T1 T2 : Tp} {ρ ρ1 : Env} {σ : L2.St} {d : D} {v : V} {r : R} {rs : List R} {vs : List V}
theorem owns_ok : ∀ {rs : List R} {vs : List V} {ds : List D} {T : Tp}, RepRs K G H σ T rs vs → owns rs = some ds → Reps K G H ds vs T
  | [], vs, ds, T, h, e => by
    have e1 : [] = ds := Option.some.inj e
    subst e1
    exact h
  | r :: rs, vs, ds, T, h, e => by
    obtain ⟨v, ws, U, W, rfl, hu, hw, hd, h1, h2⟩ := h
    unfold owns at e
    obtain ⟨d, e1, e⟩ := Option.bind_eq_some_iff.mp e
    obtain ⟨es, e2, e⟩ := Option.map_eq_some_iff.mp e
    subst e
    refine ⟨v, ws, U, W, rfl, hu, hw, hd, ?_, owns_ok h2 e2⟩
    cases r with
    | v x =>
      cases e1
      exact Rep.mono _ _ _ _ (fun _ z => z.elim) h1
    | own x =>
      cases e1
      exact h1
    | «at» i => cases e1
theorem valsR_ok : ∀ {rs : List R} {vs : List V} {ds : List D} {T : Tp}, RepRs K G H σ T rs vs → valsR rs = some ds → Reps K G H ds vs Em
  | [], vs, ds, T, h, e => by
    have e1 : [] = ds := Option.some.inj e
    subst e1
    exact h
  | r :: rs, vs, ds, T, h, e => by
    obtain ⟨v, ws, U, W, rfl, hu, hw, hd, h1, h2⟩ := h
    unfold valsR at e
    obtain ⟨d, e1, e⟩ := Option.bind_eq_some_iff.mp e
    obtain ⟨es, e2, e⟩ := Option.map_eq_some_iff.mp e
    subst e
    refine ⟨v, ws, Em, Em, rfl, fun _ z => z, fun _ z => z, fun _ z _ => z, ?_, valsR_ok h2 e2⟩
    cases r with
    | v x =>
      cases e1
      exact h1
    | own x => cases e1
    | «at» i => cases e1
/-- a new object of one's own, in hand -/
theorem Sim.newOwn {p : Addr} {o : HO} (S : Sim K G F H ρ σ) (hp : H p = none) : Sim K G F (upd H p o) ρ σ ∧ Fr G F H G F (upd H p o) (fun a => a = p) := by
  have gp : G p = Option.none := S.gh.free hp
  refine ⟨⟨S.len, S.gh.trans (same_new hp), S.dis, S.fg, fun i a h => ?_, fun i d e => ?_⟩, ⟨Same.refl _, fun a u e _ => same_new hp a u e, fun a e => ?_, fun i a h => .inl ⟨i, h⟩, fun a e => .inr (by rw [e]; exact hp), fun a e => .inl e, fun a i e h => ?_, fun a e => by rw [e]; exact gp, fun a e => by rw [e, upd_same]; exact fun z => nomatch z⟩⟩
  · have h0 := S.fh i a h
    by_cases q : a = p
    · rw [q] at h0
      exact absurd hp h0
    · rw [upd_ne q]
      exact h0
  · obtain ⟨v, q1, q2⟩ := S.slot i d e
    exact ⟨v, q1, Rep.frame d v _ (Same.refl _) (fun a u _ e => same_new hp a u e) q2⟩
  · by_cases q : a = p
    · rw [q] at e
      exact absurd hp e
    · rw [upd_ne q]
      exact e
  · rw [e] at h
    exact S.fh i p h hp
theorem good_lst {ta : TA} {g : Ea} (h : GoodA K ta g) : GoodE K (tLst ta) (xLst g) := by
  intro ρ r ρ' e G F H σ S Q q
  unfold xLst at e
  obtain ⟨⟨rs, ρ1⟩, e1, e⟩ := Option.bind_eq_some_iff.mp e
  obtain ⟨ds, e2, e⟩ := Option.bind_eq_some_iff.mp e
  by_cases hc : ds.length ≤ cap
  · rw [if_pos hc] at e
    cases e
    refine h ρ rs ρ1 e1 G F H σ S _ fun vs G1 F1 H1 T1 S1 f1 h1 => ?_
    have hr := owns_ok h1 e2
    refine ⟨by rw [hr.len]; exact Nat.le_of_lt (cap_lt hc), fun p hp => ?_⟩
    obtain ⟨S2, f2⟩ := S1.newOwn (o := .lst vs) hp
    refine q (.ref p) G1 F1 _ _ S2 (f1.trans f2) ⟨p, vs, T1, rfl, upd_same, .inr rfl, fun b t => ⟨.inl t, fun z => ?_⟩, ?_⟩
    · exact f1.th b t (by rw [z]; exact hp)
    · exact Reps.frame ds vs T1 (Same.refl _) (fun a u _ e => same_new hp a u e) hr
  · rw [if_neg hc] at e
    cases e
theorem good_tup {ta : TA} {g : Ea} (h : GoodA K ta g) : GoodE K (tTup ta) (xTup g) := by
  intro ρ r ρ' e G F H σ S Q q
  unfold xTup at e
  obtain ⟨⟨rs, ρ1⟩, e1, e⟩ := Option.bind_eq_some_iff.mp e
  obtain ⟨ds, e2, e⟩ := Option.bind_eq_some_iff.mp e
  by_cases hc : ds.length ≤ cap
  · rw [if_pos hc] at e
    cases e
    refine h ρ rs ρ1 e1 G F H σ S _ fun vs G1 F1 H1 T1 S1 f1 h1 => ?_
    have hr := valsR_ok h1 e2
    refine ⟨by rw [hr.len]; exact Nat.le_of_lt (cap_lt hc), fun p hp => ?_⟩
    have f2 := Fr.new (o := .tup vs) S1.gh S1.fh hp
    exact q (.ref p) _ F1 _ Em (S1.new hp) (f1.seq f2) ⟨p, vs, rfl, .inl (.inl upd_same), Reps.shared f2.g hr⟩
  · rw [if_neg hc] at e
    cases e
theorem good_and {ta tb : TE} {f g : Ex} (h : GoodE K ta f) (h' : GoodE K tb g) : GoodE K (tAndV ta tb) (xAnd f g) := by
  intro ρ r ρ' e G F H σ S Q q
  unfold xAnd at e
  obtain ⟨⟨r1, ρ1⟩, e1, e⟩ := Option.bind_eq_some_iff.mp e
  refine h ρ r1 ρ1 e1 G F H σ S _ fun v1 G1 F1 H1 T1 S1 f1 h1 => ?_
  dsimp only at e
  split at e
  · exact ⟨true, h1, by rw [if_pos rfl]; exact h' ρ1 r ρ' e G1 F1 H1 σ S1 Q fun v2 G2 F2 H2 T2 S2 f2 h2 => q v2 G2 F2 H2 T2 S2 (f1.seq f2) h2⟩
  · cases e
    exact ⟨false, h1, by rw [if_neg Bool.false_ne_true]; exact q _ G1 F1 H1 Em S1 f1.em rfl⟩
  · cases e
theorem good_or {ta tb : TE} {f g : Ex} (h : GoodE K ta f) (h' : GoodE K tb g) : GoodE K (tOrV ta tb) (xOr f g) := by
  intro ρ r ρ' e G F H σ S Q q
  unfold xOr at e
  obtain ⟨⟨r1, ρ1⟩, e1, e⟩ := Option.bind_eq_some_iff.mp e
  refine h ρ r1 ρ1 e1 G F H σ S _ fun v1 G1 F1 H1 T1 S1 f1 h1 => ?_
  dsimp only at e
  split at e
  · cases e
    exact ⟨true, h1, by rw [if_pos rfl]; exact q _ G1 F1 H1 Em S1 f1.em rfl⟩
  · exact ⟨false, h1, by rw [if_neg Bool.false_ne_true]; exact h' ρ1 r ρ' e G1 F1 H1 σ S1 Q fun v2 G2 F2 H2 T2 S2 f2 h2 => q v2 G2 F2 H2 T2 S2 (f1.seq f2) h2⟩
  · cases e
theorem good_not {ta : TE} {f : Ex} (h : GoodE K ta f) : GoodE K (tNotV ta) (xNot f) := by
  intro ρ r ρ' e G F H σ S Q q
  unfold xNot at e
  obtain ⟨⟨r1, ρ1⟩, e1, e⟩ := Option.bind_eq_some_iff.mp e
  refine h ρ r1 ρ1 e1 G F H σ S _ fun v1 G1 F1 H1 T1 S1 f1 h1 => ?_
  dsimp only at e
  split at e
  · cases e
    exact ⟨_, h1, q _ G1 F1 H1 Em S1 f1.em rfl⟩
  · cases e
theorem good_if {tt : TT} {ta tb : TE} {t : Et} {f g : Ex} (ht : GoodT K tt t) (h : GoodE K ta f) (h' : GoodE K tb g) : GoodE K (tIf tt ta tb) (xIf t f g) := by
  intro ρ r ρ' e G F H σ S Q q
  unfold xIf at e
  obtain ⟨⟨b, ρ1⟩, e1, e⟩ := Option.bind_eq_some_iff.mp e
  refine ht ρ b ρ1 e1 G F H σ S _ fun G1 F1 H1 S1 f1 => ?_
  cases b with
  | true => exact h ρ1 r ρ' e G1 F1 H1 σ S1 Q fun v2 G2 F2 H2 T2 S2 f2 h2 => q v2 G2 F2 H2 T2 S2 (f1.seq f2) h2
  | false => exact h' ρ1 r ρ' e G1 F1 H1 σ S1 Q fun v2 G2 F2 H2 T2 S2 f2 h2 => q v2 G2 F2 H2 T2 S2 (f1.seq f2) h2
theorem good_B {ta : TE} {f : Ex} (h : GoodE K ta f) : GoodT K (tB ta) (xB f) := by
  intro ρ b ρ' e G F H σ S Q q
  unfold xB at e
  obtain ⟨⟨r1, ρ1⟩, e1, e⟩ := Option.bind_eq_some_iff.mp e
  refine h ρ r1 ρ1 e1 G F H σ S _ fun v1 G1 F1 H1 T1 S1 f1 h1 => ?_
  dsimp only at e
  split at e
  · cases e
    exact ⟨_, h1, q G1 F1 H1 S1 f1.em⟩
  · cases e
theorem good_qand {ta tb : TT} {f g : Et} (h : GoodT K ta f) (h' : GoodT K tb g) : GoodT K (tAnd ta tb) (qAnd f g) := by
  intro ρ r ρ' e G F H σ S Q q
  unfold qAnd at e
  obtain ⟨⟨b, ρ1⟩, e1, e⟩ := Option.bind_eq_some_iff.mp e
  refine h ρ b ρ1 e1 G F H σ S _ fun G1 F1 H1 S1 f1 => ?_
  cases b with
  | true => exact h' ρ1 r ρ' e G1 F1 H1 σ S1 Q fun G2 F2 H2 S2 f2 => q G2 F2 H2 S2 (f1.seq f2)
  | false =>
    cases e
    exact q G1 F1 H1 S1 f1
theorem good_qor {ta tb : TT} {f g : Et} (h : GoodT K ta f) (h' : GoodT K tb g) : GoodT K (tOr ta tb) (qOr f g) := by
  intro ρ r ρ' e G F H σ S Q q
  unfold qOr at e
  obtain ⟨⟨b, ρ1⟩, e1, e⟩ := Option.bind_eq_some_iff.mp e
  refine h ρ b ρ1 e1 G F H σ S _ fun G1 F1 H1 S1 f1 => ?_
  cases b with
  | false => exact h' ρ1 r ρ' e G1 F1 H1 σ S1 Q fun G2 F2 H2 S2 f2 => q G2 F2 H2 S2 (f1.seq f2)
  | true =>
    cases e
    exact q G1 F1 H1 S1 f1
theorem good_qnot {ta : TT} {f : Et} (h : GoodT K ta f) : GoodT K (tNot ta) (qNot f) := by
  intro ρ r ρ' e G F H σ S Q q
  unfold qNot at e
  obtain ⟨⟨b, ρ1⟩, e1, e⟩ := Option.map_eq_some_iff.mp e
  cases e
  exact h ρ b ρ1 e1 G F H σ S _ fun G1 F1 H1 S1 f1 => q G1 F1 H1 S1 f1
theorem empty_iff {ds : List D} {vs : List V} (h : vs.length = ds.length) : (!vs.isEmpty) = !ds.isEmpty := by
  cases ds <;> cases vs <;> simp at h ⊢
theorem truth_ok {d : D} {b : Bool} (gh : Same G H) (e : dTruth d = some b) (h : Rep K G H d v T) : TruV K v H b := by
  cases d with
  | non =>
    cases h
    cases e
    rfl
  | bl x =>
    cases h
    cases e
    rfl
  | int i =>
    cases h
    cases e
    rfl
  | str s =>
    cases h
    unfold dTruth at e
    dsimp only at e
    by_cases hc : s.length ≤ cap
    · rw [if_pos hc] at e
      cases e
      have hz : (⟨s.toArray⟩ : Str).length = s.length := by simp [Str.length]
      exact ⟨by rw [hz]; exact Nat.le_of_lt (cap_lt hc), by rw [hz]⟩
    · rw [if_neg hc] at e
      cases e
  | lst ds =>
    obtain ⟨a, vs, rfl, ha, hr⟩ := h
    cases e
    exact .inl ⟨vs, .of (gh _ _ ha), (empty_iff hr.len).symm⟩
  | rd ds =>
    obtain ⟨a, vs, rfl, ha, hr⟩ := h
    cases e
    exact .inl ⟨vs, gh.seq ha, (empty_iff hr.len).symm⟩
  | own ds =>
    obtain ⟨a, vs, U, rfl, ha, _, _, hr⟩ := h
    cases e
    exact .inl ⟨vs, .of ha, (empty_iff hr.len).symm⟩
  | tup ds =>
    obtain ⟨a, vs, rfl, ha, hr⟩ := h
    cases e
    exact .inr (.inl ⟨vs, same_sqT gh ha, (empty_iff hr.len).symm⟩)
  | ty n => cases e
theorem good_tru {ta : TE} {f : Ex} (h : GoodE K ta f) : GoodT K (fun σ H Q => ta σ H fun x H' => ∃ k, TruV K x H' k ∧ Q k H') (qTru f) := by
  intro ρ b ρ' e G F H σ S Q q
  unfold qTru at e
  obtain ⟨⟨r1, ρ1⟩, e1, e⟩ := Option.bind_eq_some_iff.mp e
  obtain ⟨d, e2, e⟩ := Option.bind_eq_some_iff.mp e
  obtain ⟨k, e3, e⟩ := Option.map_eq_some_iff.mp e
  cases e
  refine h ρ r1 ρ1 e1 G F H σ S _ fun v1 G1 F1 H1 T1 S1 f1 h1 => ?_
  obtain ⟨U, k1⟩ := dr_ok S1 h1 e2
  exact ⟨_, truth_ok S1.gh e3 k1, q G1 F1 H1 S1 f1.em⟩
theorem good_chain {r r' : R2} {o o' : D → D → Option D} {ta tb tc : TE} {f g h : Ex} (ho : GoodR K r o) (ho' : GoodR K r' o') (ha : GoodE K ta f) (hb : GoodE K tb g) (hc : GoodE K tc h) : GoodE K (tChain r r' ta tb tc) (xChain o o' f g h) := by
  intro ρ rr ρ' e G F H σ S Q q
  unfold xChain at e
  obtain ⟨⟨r1, ρ1⟩, e1, e⟩ := Option.bind_eq_some_iff.mp e
  obtain ⟨⟨r2, ρ2⟩, e2, e⟩ := Option.bind_eq_some_iff.mp e
  obtain ⟨x, e3, e⟩ := Option.bind_eq_some_iff.mp e
  obtain ⟨y, e4, e⟩ := Option.bind_eq_some_iff.mp e
  obtain ⟨z, e5, e⟩ := Option.bind_eq_some_iff.mp e
  refine ha ρ r1 ρ1 e1 G F H σ S _ fun v1 G1 F1 H1 T1 S1 f1 h1 => ?_
  refine hb ρ1 r2 ρ2 e2 G1 F1 H1 σ S1 _ fun v2 G2 F2 H2 T2 S2 f2 h2 => ?_
  obtain ⟨p1, p2, p3, p4, p5⟩ := f2.temp f1.tf f1.tg f1.th
  have h1' : RepR K G2 H2 σ T1 r1 v1 := RepR.frame S1.gh f2.g p5 h1
  obtain ⟨U1, k1⟩ := dr_ok S2 h1' e3
  obtain ⟨U2, k2⟩ := dr_ok S2 h2 e4
  refine ho x y z e5 G2 H2 v1 v2 U1 U2 S2.gh k1 k2 _ fun v G3 H3 x3 h3 => ?_
  obtain ⟨S3, f3⟩ := S2.ext1 x3
  have fa := (f1.seq f2).trans f3
  split at e
  · obtain ⟨⟨r4, ρ4⟩, e6, e⟩ := Option.bind_eq_some_iff.mp e
    obtain ⟨y', e7, e⟩ := Option.bind_eq_some_iff.mp e
    obtain ⟨u, e8, e⟩ := Option.bind_eq_some_iff.mp e
    obtain ⟨w, e9, e⟩ := Option.map_eq_some_iff.mp e
    cases e
    refine ⟨true, h3, ?_⟩
    rw [if_pos rfl]
    obtain ⟨s1, s2, s3, s4, s5⟩ := f3.temp f2.tf f2.tg f2.th
    have h2' : RepR K G3 H3 σ T2 r2 v2 := RepR.frame S2.gh f3.g s5 h2
    refine hc ρ2 r4 ρ4 e6 G3 F2 H3 σ S3 _ fun v4 G4 F4 H4 T4 S4 f4 h4 => ?_
    obtain ⟨t1, t2, t3, t4, t5⟩ := f4.temp s1 s2 s3
    have h2'' : RepR K G4 H4 σ T2 r2 v2 := RepR.frame S3.gh f4.g t5 h2'
    obtain ⟨U3, k3⟩ := dr_ok S4 h2'' e7
    obtain ⟨U4, k4⟩ := dr_ok S4 h4 e8
    refine ho' y' u w e9 G4 H4 v2 v4 U3 U4 S4.gh k3 k4 Q fun v G5 H5 x5 h5 => ?_
    obtain ⟨S5, f5⟩ := S4.ext1 x5
    exact q v G5 F4 H5 Em S5 ((fa.seq f4).seq f5) h5
  · cases e
    refine ⟨false, h3, ?_⟩
    rw [if_neg Bool.false_ne_true]
    exact q _ G3 F2 H3 Em S3 fa.em rfl
  · cases e

/-! ### slices -/
abbrev Eo := Env → Option (Option Int × Env)
def GoodO (K : PySem.W.Frag) (t : TO) (f : Eo) : Prop := ∀ ρ o ρ', f ρ = some (o, ρ') → ∀ G F H σ, Sim K G F H ρ σ →
  ∀ Q : Option Int → Hp → Prop, (∀ G' F' H', Sim K G' F' H' ρ' σ → Fr G F H G' F' H' Em → Q o H') → t σ H Q
def xNo : Eo := fun ρ => some (none, ρ)
def xSome (f : Ex) : Eo := fun ρ => (f ρ).bind fun p => match p.1 with
  | .v (.int i) => some (some i, p.2)
  | _ => none
theorem good_no : GoodO K tNoPart xNo := by
  intro ρ o ρ' e G F H σ S Q q
  cases e
  exact q G F H S (Fr.refl _ _ _)
theorem good_some {te : TE} {f : Ex} (h : GoodE K te f) : GoodO K (tPart te) (xSome f) := by
  intro ρ o ρ' e G F H σ S Q q
  unfold xSome at e
  obtain ⟨⟨r1, ρ1⟩, e1, e⟩ := Option.bind_eq_some_iff.mp e
  refine h ρ r1 ρ1 e1 G F H σ S _ fun v1 G1 F1 H1 T1 S1 f1 h1 => ?_
  dsimp only at e
  split at e
  · cases e
    exact ⟨_, h1, q G1 F1 H1 S1 f1.em⟩
  · cases e
def GoodSl (K : PySem.W.Frag) (r : V → Option Int → Option Int → Hp → VK → Prop) (o : D → Option Int → Option Int → Option D) : Prop := ∀ x l u z, o x l u = some z → ∀ G H vx Tx, Same G H → Rep K G H x vx Tx → ∀ Q : VK, Out K G H z Q → r vx l u H Q
def xSl (o : D → Option Int → Option Int → Option D) (f : Ex) (l h : Eo) : Ex := fun ρ => (f ρ).bind fun p => (l p.2).bind fun a => (h a.2).bind fun b => (dr b.2 p.1).bind fun x => (o x a.1 b.1).map fun z => (.v z, b.2)
theorem good_sl {r : V → Option Int → Option Int → Hp → VK → Prop} {o : D → Option Int → Option Int → Option D} {te : TE} {tl th : TO} {f : Ex} {l h : Eo} (ho : GoodSl K r o) (hf : GoodE K te f) (hl : GoodO K tl l) (hh : GoodO K th h) : GoodE K (tSl r te tl th) (xSl o f l h) := by
  intro ρ rr ρ' e G F H σ S Q q
  unfold xSl at e
  obtain ⟨⟨r1, ρ1⟩, e1, e⟩ := Option.bind_eq_some_iff.mp e
  obtain ⟨⟨lo, ρ2⟩, e2, e⟩ := Option.bind_eq_some_iff.mp e
  obtain ⟨⟨hi, ρ3⟩, e3, e⟩ := Option.bind_eq_some_iff.mp e
  obtain ⟨x, e4, e⟩ := Option.bind_eq_some_iff.mp e
  obtain ⟨z, e5, e⟩ := Option.map_eq_some_iff.mp e
  cases e
  refine hf ρ r1 ρ1 e1 G F H σ S _ fun v1 G1 F1 H1 T1 S1 f1 h1 => ?_
  refine hl ρ1 lo ρ2 e2 G1 F1 H1 σ S1 _ fun G2 F2 H2 S2 f2 => ?_
  refine hh ρ2 hi ρ3 e3 G2 F2 H2 σ S2 _ fun G3 F3 H3 S3 f3 => ?_
  have f23 := f2.seq f3
  obtain ⟨p1, p2, p3, p4, p5⟩ := f23.temp f1.tf f1.tg f1.th
  have h1' : RepR K G3 H3 σ T1 r1 v1 := RepR.frame S1.gh f23.g p5 h1
  obtain ⟨U1, k1⟩ := dr_ok S3 h1' e4
  refine ho x lo hi z e5 G3 H3 v1 U1 S3.gh k1 Q fun v G4 H4 x4 h4 => ?_
  obtain ⟨S4, f4⟩ := S3.ext1 x4
  exact q v G4 F3 H4 Em S4 ((f1.seq f23).seq f4) h4

/-! ### calls of builtins and of methods that change nothing -/
def xCB (o : List D → Option D) (g : Ea) : Ex := fun ρ => (g ρ).bind fun p => (dAll p.2 p.1).bind fun ds => (o ds).map fun z => (.v z, p.2)
def tyName : D → Option String
  | .str _ => some "str"
  | .int _ => some "int"
  | .lst _ => some "list"
  | .rd _ => some "list"
  | .own _ => some "list"
  | _ => none
theorem ty_ok {d : D} {n : String} (gh : Same G H) (e : tyName d = some n) (h : Rep K G H d v T) : tyV K n v H := by
  cases d with
  | str s =>
    cases h
    cases e
    rfl
  | int i =>
    cases h
    cases e
    rfl
  | lst ds =>
    obtain ⟨a, vs, rfl, ha, hr⟩ := h
    cases e
    exact .inl ⟨rfl, vs, .of (gh _ _ ha)⟩
  | rd ds =>
    obtain ⟨a, vs, rfl, ha, hr⟩ := h
    cases e
    exact .inl ⟨rfl, vs, gh.seq ha⟩
  | own ds =>
    obtain ⟨a, vs, U, rfl, ha, _, _, hr⟩ := h
    cases e
    exact .inl ⟨rfl, vs, .of ha⟩
  | _ => cases e
def xBM (n : String) (o : D → List D → Option D) (f : Ex) (g : Ea) : Ex := fun ρ => (f ρ).bind fun p => (dr p.2 p.1).bind fun x0 => if tyName x0 = some n then (g p.2).bind fun q => (dr q.2 p.1).bind fun x => (dAll q.2 q.1).bind fun ds => (o x ds).map fun z => (.v z, q.2) else none
theorem good_cb {rr : List V → Hp → VK → Prop} {o : List D → Option D} {ta : TA} {g : Ea} (ho : GoodC K rr o) (h : GoodA K ta g) : GoodE K (fun σ H Q => ta σ H fun vs H1 => rr vs H1 Q) (xCB o g) := by
  intro ρ r ρ' e G F H σ S Q q
  unfold xCB at e
  obtain ⟨⟨rs, ρ1⟩, e1, e⟩ := Option.bind_eq_some_iff.mp e
  obtain ⟨ds, e2, e⟩ := Option.bind_eq_some_iff.mp e
  obtain ⟨z, e3, e⟩ := Option.map_eq_some_iff.mp e
  cases e
  refine h ρ rs ρ1 e1 G F H σ S _ fun vs G1 F1 H1 T1 S1 f1 h1 => ?_
  refine ho ds z e3 G1 H1 vs S1.gh (dAll_ok S1 h1 e2) Q fun v G2 H2 x2 h2 => ?_
  obtain ⟨S2, f2⟩ := S1.ext1 x2
  exact q v G2 F1 H2 Em S2 (f1.seq f2) h2
theorem good_bm {n : String} {rr : V → List V → Hp → VK → Prop} {o : D → List D → Option D} {te : TE} {ta : TA} {f : Ex} {g : Ea} (ho : GoodM K rr o) (hf : GoodE K te f) (hg : GoodA K ta g) : GoodE K (tBM K n rr te ta) (xBM n o f g) := by
  intro ρ r ρ' e G F H σ S Q q
  unfold xBM at e
  obtain ⟨⟨r1, ρ1⟩, e1, e⟩ := Option.bind_eq_some_iff.mp e
  obtain ⟨x0, e2, e⟩ := Option.bind_eq_some_iff.mp e
  by_cases hn : tyName x0 = some n
  · rw [if_pos hn] at e
    obtain ⟨⟨rs, ρ2⟩, e3, e⟩ := Option.bind_eq_some_iff.mp e
    obtain ⟨x, e4, e⟩ := Option.bind_eq_some_iff.mp e
    obtain ⟨ds, e5, e⟩ := Option.bind_eq_some_iff.mp e
    obtain ⟨z, e6, e⟩ := Option.map_eq_some_iff.mp e
    cases e
    refine hf ρ r1 ρ1 e1 G F H σ S _ fun v1 G1 F1 H1 T1 S1 f1 h1 => ?_
    obtain ⟨U0, k0⟩ := dr_ok S1 h1 e2
    refine ⟨ty_ok S1.gh hn k0, hg ρ1 rs ρ2 e3 G1 F1 H1 σ S1 _ fun vs G2 F2 H2 T2 S2 f2 h2 => ?_⟩
    obtain ⟨p1, p2, p3, p4, p5⟩ := f2.temp f1.tf f1.tg f1.th
    have h1' : RepR K G2 H2 σ T1 r1 v1 := RepR.frame S1.gh f2.g p5 h1
    obtain ⟨U1, k1⟩ := dr_ok S2 h1' e4
    refine ho x ds z e6 G2 H2 v1 vs U1 S2.gh k1 (dAll_ok S2 h2 e5) Q fun v G3 H3 x3 h3 => ?_
    obtain ⟨S3, f3⟩ := S2.ext1 x3
    exact q v G3 F2 H3 Em S3 ((f1.seq f2).seq f3) h3
  · rw [if_neg hn] at e
    cases e
end

section
variable {X : Cx} {e a b c : Expr} {es rest : List Expr} {f g h : Ex} {fa : Ea} {t u : Et} {pos : Pos}
theorem ae_lst (h : AA X es fa) : AE X (.List es pos) (xLst fa) := let ⟨_, p, q⟩ := h; ⟨_, pe_lst p, good_lst q⟩
theorem ae_tup {x1} (h : AA X es fa) : AE X (.Tuple es x1 pos) (xTup fa) := let ⟨_, p, q⟩ := h; ⟨_, pe_tup p, good_tup q⟩
theorem ae_one {op} (h : AE X a f) : AE X (.BoolOp op [a] pos) f := let ⟨_, p, q⟩ := h; ⟨_, pe_one p, q⟩
theorem ae_and (ha : AE X a f) (hb : AE X (.BoolOp .And (b :: rest) pos) g) : AE X (.BoolOp .And (a :: b :: rest) pos) (xAnd f g) := let ⟨_, p, q⟩ := ha; let ⟨_, p', q'⟩ := hb; ⟨_, pe_and p p', good_and q q'⟩
theorem ae_or (ha : AE X a f) (hb : AE X (.BoolOp .Or (b :: rest) pos) g) : AE X (.BoolOp .Or (a :: b :: rest) pos) (xOr f g) := let ⟨_, p, q⟩ := ha; let ⟨_, p', q'⟩ := hb; ⟨_, pe_or p p', good_or q q'⟩
theorem ae_not (ha : AE X a f) : AE X (.UnaryOp .Not a pos) (xNot f) := let ⟨_, p, q⟩ := ha; ⟨_, pe_not p, good_not q⟩
theorem ae_ifx (ht : AT X c t) (ha : AE X a f) (hb : AE X b g) : AE X (.IfExp c a b pos) (xIf t f g) := let ⟨_, p0, q0⟩ := ht; let ⟨_, p, q⟩ := ha; let ⟨_, p', q'⟩ := hb; ⟨_, pe_ifExp p0 p p', good_if q0 q q'⟩
theorem ae_chain {op op' : CmpOp} {r r' : R2} {o o' : D → D → Option D} (ho : OpR X (compareOp op) r) (go : GoodR X.K r o) (ho' : OpR X (compareOp op') r') (go' : GoodR X.K r' o') (ha : AE X a f) (hb : AE X b g) (hc : AE X c h)
    (hm : lastMarks [op, op'] [b, c] = false := by with_unfolding_all rfl) : AE X (.Compare a [op, op'] [b, c] pos) (xChain o o' f g h) := let ⟨_, p, q⟩ := ha; let ⟨_, p', q'⟩ := hb; let ⟨_, p2, q2⟩ := hc; ⟨_, pe_chain ho ho' p p' p2 hm, good_chain go go' q q' q2⟩
/-- tests -/
theorem at_val (h : AE X e f) (he : ∀ whole, isTrue e X.env whole = (do let v ← whole; standAt e.pos; holding [v] (truthy v)) := by intro _; rfl) : AT X e (xB f) := let ⟨_, p, q⟩ := h; ⟨_, pt_val p he, good_B q⟩
theorem at_tru (h : AE X e f) (he : ∀ whole, isTrue e X.env whole = (do let v ← whole; standAt e.pos; holding [v] (truthy v)) := by intro _; rfl) : AT X e (qTru f) := let ⟨_, p, q⟩ := h; ⟨_, pt_truth p he, good_tru q⟩
theorem at_cmp {op : CmpOp} {r : R2} {o : D → D → Option D} (ho : OpR X (compareOp op) r) (hg : GoodR X.K r o) (ha : AE X a f) (hb : AE X b g) (hm : behindInMarks op b = false) : AT X (.Compare a [op] [b] pos) (xB (xOp o f g)) :=
  let ⟨_, p1, q1⟩ := ha; let ⟨_, p2, q2⟩ := hb; ⟨_, pt_cmpR ho p1 p2 hm, good_B (good_op hg q1 q2)⟩
theorem at_chain {op op' : CmpOp} {r r' : R2} {o o' : D → D → Option D} (ho : OpR X (compareOp op) r) (go : GoodR X.K r o) (ho' : OpR X (compareOp op') r') (go' : GoodR X.K r' o') (ha : AE X a f) (hb : AE X b g) (hc : AE X c h)
    (hm : lastMarks [op, op'] [b, c] = false := by with_unfolding_all rfl) : AT X (.Compare a [op, op'] [b, c] pos) (xB (xChain o o' f g h)) := let ⟨_, p, q⟩ := ha; let ⟨_, p', q'⟩ := hb; let ⟨_, p2, q2⟩ := hc; ⟨_, pt_chain ho ho' p p' p2 hm, good_B (good_chain go go' q q' q2)⟩
structure AW (X : Cx) (e : Expr) (f : Et) : Prop where
  ex : ∃ t, PW X e t ∧ GoodT X.K t f
theorem aw_and1 (h : AT X a t) : AW X (.BoolOp .And [a] pos) t := let ⟨_, p, q⟩ := h; ⟨_, pw_and1 p, q⟩
theorem aw_or1 (h : AT X a t) : AW X (.BoolOp .Or [a] pos) t := let ⟨_, p, q⟩ := h; ⟨_, pw_or1 p, q⟩
theorem aw_and (ha : AT X a t) (hb : AW X (.BoolOp .And (b :: rest) pos) u) : AW X (.BoolOp .And (a :: b :: rest) pos) (qAnd t u) := let ⟨_, p, q⟩ := ha; let ⟨_, p', q'⟩ := hb; ⟨_, pw_and p p', good_qand q q'⟩
theorem aw_or (ha : AT X a t) (hb : AW X (.BoolOp .Or (b :: rest) pos) u) : AW X (.BoolOp .Or (a :: b :: rest) pos) (qOr t u) := let ⟨_, p, q⟩ := ha; let ⟨_, p', q'⟩ := hb; ⟨_, pw_or p p', good_qor q q'⟩
theorem at_w (h : AW X e t) : AT X e t := let ⟨_, p, q⟩ := h; ⟨_, p.pt, q⟩
theorem at_not (h : AT X a t) : AT X (.UnaryOp .Not a pos) (qNot t) := let ⟨_, p, q⟩ := h; ⟨_, pt_not p, good_qnot q⟩
structure AO (X : Cx) (e : Option Expr) (f : Eo) : Prop where
  ex : ∃ t, PO X e t ∧ GoodO X.K t f
theorem ao_no : AO X none xNo := ⟨_, po_none, good_no⟩
theorem ao_some (h : AE X e f) : AO X (some e) (xSome f) := let ⟨_, p, q⟩ := h; ⟨_, po_some p, good_some q⟩
theorem ae_sl {r : V → Option Int → Option Int → Hp → VK → Prop} {o : D → Option Int → Option Int → Option D} {lo hi : Option Expr} {l u : Eo} {p2 : Pos} (hr : SlR X r) (go : GoodSl X.K r o) (he : AE X e f) (hl : AO X lo l) (hu : AO X hi u) : AE X (.Subscript e (.Slice lo hi none p2) pos) (xSl o f l u) :=
  let ⟨_, p, q⟩ := he; let ⟨_, p', q'⟩ := hl; let ⟨_, p2, q2⟩ := hu; ⟨_, pe_slice hr p p' p2, good_sl go q q' q2⟩
theorem ae_cb {id : String} {x : Str} {nm : Pos} {r : List V → Hp → VK → Prop} {o : List D → Option D} (hc : CallR X (.builtin id) r) (go : GoodC X.K r o) (hg : Gl X x) (hm : X.mg x = none) (hv : bootBuiltins x = some (.builtin id)) (ha : AA X (e :: es) fa)
    (hn : x ≠ "__name__" := by decide) (hdb : (x == ("__debug__" : Str)) = false := by decide) (hs : starEach (e :: es) X.env = (false, eval e X.env) :: starEach es X.env := by rfl) (hpl : (backTo pos (starEach es X.env)).any (·.1) = false := by rfl) :
    AE X (.Call (.Name x nm) (e :: es) [] pos) (xCB o fa) := let ⟨_, p, q⟩ := ha; ⟨_, pe_callB hc hg hm hv p hn hdb hs hpl, good_cb go q⟩
theorem ae_ct {id : String} {x : Str} {nm : Pos} {r : List V → Hp → VK → Prop} {o : List D → Option D} (hc : CallR X (.type id) r) (go : GoodC X.K r o) (hg : Gl X x) (hm : X.mg x = none) (hv : bootBuiltins x = some (.type id)) (ha : AA X (e :: es) fa)
    (hn : x ≠ "__name__" := by decide) (hdb : (x == ("__debug__" : Str)) = false := by decide) (hs : starEach (e :: es) X.env = (false, eval e X.env) :: starEach es X.env := by rfl) (hpl : (backTo pos (starEach es X.env)).any (·.1) = false := by rfl) :
    AE X (.Call (.Name x nm) (e :: es) [] pos) (xCB o fa) := let ⟨_, p, q⟩ := ha; ⟨_, pe_callTy hc hg hm hv p hn hdb hs hpl, good_cb go q⟩
end
end Den

namespace Den
open PySem PySem.Spec PyProof.Rows L2

inductive O where
  | nx (ρ : Env)
  | rt (r : R) (ρ : Env)
  | bk (ρ : Env)
  | ct (ρ : Env)
abbrev Es := Env → Option O
def Agr (W : List Nat) (σ σ' : L2.St) : Prop := σ'.length = σ.length ∧ ∀ i, i ∉ W → σ'[i]? = σ[i]?
theorem Agr.refl (W : List Nat) (σ : L2.St) : Agr W σ σ := ⟨rfl, fun _ _ => rfl⟩
theorem Agr.trans {W : List Nat} {σ σ1 σ2 : L2.St} (a : Agr W σ σ1) (b : Agr W σ1 σ2) : Agr W σ σ2 := ⟨b.1.trans a.1, fun i h => (b.2 i h).trans (a.2 i h)⟩
theorem Agr.set {W : List Nat} {σ : L2.St} {i : Nat} {x : Option V} (h : i ∈ W) : Agr W σ (σ.set i x) := ⟨List.length_set, fun j hj => by
  rw [List.getElem?_set_ne fun e => hj (by rw [← e]; exact h)]⟩

def PostS (K : PySem.W.Frag) (W : List Nat) (G : Hp) (F : Nat → Tp) (H : Hp) (σ : L2.St) (D : Ends) : O → Prop
  | .nx ρ' => ∀ G' F' H' σ', Sim K G' F' H' ρ' σ' → Fr G F H G' F' H' Em → Agr W σ σ' → D.nx σ' H'
  | .bk ρ' => ∀ G' F' H' σ', Sim K G' F' H' ρ' σ' → Fr G F H G' F' H' Em → Agr W σ σ' → D.bk σ' H'
  | .ct ρ' => ∀ G' F' H' σ', Sim K G' F' H' ρ' σ' → Fr G F H G' F' H' Em → Agr W σ σ' → D.ct σ' H'
  | .rt r ρ' => ∀ v G' F' H' σ' T, Sim K G' F' H' ρ' σ' → Fr G F H G' F' H' T → Agr W σ σ' → RepR K G' H' σ' T r v → D.rt v H'
def GoodS (K : PySem.W.Frag) (W : List Nat) (t : TS) (f : Es) : Prop := ∀ ρ o, f ρ = some o → ∀ G F H σ, Sim K G F H ρ σ → ∀ D : Ends, PostS K W G F H σ D o → t D σ H
structure AS (X : Cx) (W : List Nat) (s : Stmt) (f : Es) : Prop where
  ex : ∃ t, PS X s t ∧ GoodS X.K W t f
structure ASs (X : Cx) (W : List Nat) (s : List Stmt) (f : Es) : Prop where
  ex : ∃ t, PSs X s t ∧ GoodS X.K W t f

def sNil : Es := fun ρ => some (.nx ρ)
def sSeq (f g : Es) : Es := fun ρ => (f ρ).bind fun o => match o with
  | .nx ρ1 => g ρ1
  | .rt r ρ1 => some (.rt r ρ1)
  | .bk ρ1 => some (.bk ρ1)
  | .ct ρ1 => some (.ct ρ1)
def sIf (t : Et) (f g : Es) : Es := fun ρ => (t ρ).bind fun p => if p.1 then f p.2 else g p.2
def sSet (i : Nat) (f : Ex) : Es := fun ρ => (f ρ).bind fun p => (rOwn p.1).map fun d => .nx (p.2.set i (some d))
def sExpr (f : Ex) : Es := fun ρ => (f ρ).map fun p => .nx p.2
def sRet (f : Ex) : Es := fun ρ => (f ρ).map fun p => .rt p.1 p.2
def sRetN : Es := fun ρ => some (.rt (.v .non) ρ)
def sBrk : Es := fun ρ => some (.bk ρ)
def sCnt : Es := fun ρ => some (.ct ρ)

/-! ### targets -/
abbrev Eg := D → Env → Option Env
def GoodG (K : PySem.W.Frag) (W : List Nat) (g : TG) (f : Eg) : Prop := ∀ d ρ ρ', f d ρ = some ρ' → ∀ G F H σ v, Sim K G F H ρ σ → Rep K G H d v Em →
  ∀ Q : L2.St → Hp → Prop, (∀ F' σ', Sim K G F' H ρ' σ' → Fr G F H G F' H Em → Agr W σ σ' → Q σ' H) → g v σ H Q
def GoodGs (K : PySem.W.Frag) (W : List Nat) (g : TGs) (f : List D → Env → Option Env) : Prop := ∀ ds ρ ρ', f ds ρ = some ρ' → ∀ G F H σ vs, Sim K G F H ρ σ → Reps K G H ds vs Em →
  ∀ Q : L2.St → Hp → Prop, (∀ F' σ', Sim K G F' H ρ' σ' → Fr G F H G F' H Em → Agr W σ σ' → Q σ' H) → g vs σ H Q
structure AG (X : Cx) (W : List Nat) (e : Expr) (f : Eg) : Prop where
  ex : ∃ t, PG X e t ∧ GoodG X.K W t f
structure AGs (X : Cx) (W : List Nat) (es : List Expr) (f : List D → Env → Option Env) : Prop where
  ex : ∃ t, PGs X es t ∧ GoodGs X.K W t f
def gN (i : Nat) : Eg := fun d ρ => some (ρ.set i (some d))
def gT (n : Nat) (g : List D → Env → Option Env) : Eg := fun d ρ => match d with
  | .tup ds => if ds.length = n then g ds ρ else none
  | _ => none
def gsNil : List D → Env → Option Env
  | [], ρ => some ρ
  | _ :: _, _ => none
def gsCons (g : Eg) (f : List D → Env → Option Env) : List D → Env → Option Env
  | [], _ => none
  | d :: ds, ρ => (g d ρ).bind (f ds)
def sAsg (f : Ex) (g : Eg) : Es := fun ρ => (f ρ).bind fun p => (rVal p.1).bind fun d => (g d p.2).map .nx

/-! ### walks -/
abbrev Ei := Env → Option (List D × Env)
def ItOk (K : PySem.W.Frag) (J : It) (ds : List D) (G0 : Hp) : Prop := ∀ G H, Same G0 G → Same G H →
  J.stop ds.length H ∧ ∀ i, i < ds.length → J.go i H ∧ ∀ x H', J.yld i H x H' → ∃ G' d, Ext1 G H G' H' ∧ ds[i]? = some d ∧ Rep K G' H' d x Em
def GoodI (K : PySem.W.Frag) (wi : TI) (f : Ei) : Prop := ∀ ρ ds ρ', f ρ = some (ds, ρ') → ∀ G F H σ, Sim K G F H ρ σ →
  ∀ R : It → Hp → Prop, (∀ J G' F' H', Sim K G' F' H' ρ' σ → Fr G F H G' F' H' Em → ItOk K J ds G' → R J H') → wi σ H R
structure AI (X : Cx) (tg e : Expr) (f : Ei) : Prop where
  ex : ∃ t, PI X tg e t ∧ GoodI X.K t f
def forL (g : Eg) (b : Es) : List D → Env → Option O
  | [], ρ => some (.nx ρ)
  | d :: ds, ρ => (g d ρ).bind fun ρ1 => (b ρ1).bind fun o => match o with
    | .nx ρ2 => forL g b ds ρ2
    | .ct ρ2 => forL g b ds ρ2
    | .bk ρ2 => some (.nx ρ2)
    | .rt r ρ2 => some (.rt r ρ2)
def sFor (fi : Ei) (g : Eg) (b : Es) : Es := fun ρ => (fi ρ).bind fun p => forL g b p.1 p.2

section
variable {K : PySem.W.Frag} {W : List Nat} {G G1 G2 H H1 H2 : Hp} {F F1 F2 : Nat → Tp} {T T1 T2 : Tp} {ρ ρ1 : Env} {σ σ1 : L2.St} {d : D} {v : V} {r : R} {rs : List R} {vs : List V} {D : Ends} {o : O} {t u : TS} {f g : Es}
theorem PostS.pre (p : PostS K W G F H σ D o) (x : Fr G F H G1 F1 H1 T) (a : Agr W σ σ1) : PostS K W G1 F1 H1 σ1 D o := by
  cases o with
  | nx ρ => exact fun G' F' H' σ' S f b => p G' F' H' σ' S (x.seq f) (a.trans b)
  | bk ρ => exact fun G' F' H' σ' S f b => p G' F' H' σ' S (x.seq f) (a.trans b)
  | ct ρ => exact fun G' F' H' σ' S f b => p G' F' H' σ' S (x.seq f) (a.trans b)
  | rt r ρ => exact fun v G' F' H' σ' T S f b h => p v G' F' H' σ' T S (x.seq f) (a.trans b) h
theorem good_snil : GoodS K W tNext sNil := by
  intro ρ o e G F H σ S D p
  cases e
  exact p G F H σ S (Fr.refl _ _ _) (Agr.refl _ _)
theorem good_seq (h : GoodS K W t f) (h' : GoodS K W u g) : GoodS K W (tSeq t u) (sSeq f g) := by
  intro ρ o e G F H σ S D p
  unfold sSeq at e
  obtain ⟨o1, e1, e⟩ := Option.bind_eq_some_iff.mp e
  refine h ρ o1 e1 G F H σ S _ ?_
  cases o1 with
  | nx ρ1 =>
    intro G1 F1 H1 σ1 S1 f1 a1
    exact h' ρ1 o e G1 F1 H1 σ1 S1 D (p.pre f1 a1)
  | rt r ρ1 =>
    cases e
    exact p
  | bk ρ1 =>
    cases e
    exact p
  | ct ρ1 =>
    cases e
    exact p
theorem good_sif {tt : TT} {c : Et} (hc : GoodT K tt c) (h : GoodS K W t f) (h' : GoodS K W u g) : GoodS K W (tIfS tt t u) (sIf c f g) := by
  intro ρ o e G F H σ S D p
  unfold sIf at e
  obtain ⟨⟨b, ρ1⟩, e1, e⟩ := Option.bind_eq_some_iff.mp e
  refine hc ρ b ρ1 e1 G F H σ S _ fun G1 F1 H1 S1 f1 => ?_
  cases b with
  | true => exact h ρ1 o e G1 F1 H1 σ S1 D (p.pre f1 (Agr.refl _ _))
  | false => exact h' ρ1 o e G1 F1 H1 σ S1 D (p.pre f1 (Agr.refl _ _))
/-- a value comes to a place -/
theorem Sim.put {i : Nat} (S : Sim K G1 F1 H1 ρ σ) (f : Fr G F H G1 F1 H1 T) (h : Rep K G1 H1 d v T) :
    Sim K G1 (fun j => if j = i then T else F1 j) H1 (ρ.set i (some d)) (σ.set i (some v)) ∧ Fr G F H G1 (fun j => if j = i then T else F1 j) H1 Em := by
  have sub : ∀ j a, (if j = i then T else F1 j) a → (j = i ∧ T a) ∨ (j ≠ i ∧ F1 j a) := fun j a h => by
    by_cases q : j = i
    · rw [if_pos q] at h
      exact .inl ⟨q, h⟩
    · rw [if_neg q] at h
      exact .inr ⟨q, h⟩
  refine ⟨⟨by rw [List.length_set, List.length_set]; exact S.len, S.gh, fun j k a h1 h2 => ?_, fun j a h => ?_, fun j a h => ?_, fun j x e => ?_⟩, ⟨f.g, f.keep, f.live, fun j a h => ?_, fun _ z => z.elim, f.ng, fun _ _ z => z.elim, fun _ z => z.elim, fun _ z => z.elim⟩⟩
  · rcases sub j a h1 with ⟨q1, t1⟩ | ⟨q1, t1⟩ <;> rcases sub k a h2 with ⟨q2, t2⟩ | ⟨q2, t2⟩
    · rw [q1, q2]
    · exact absurd t2 (f.tf a k t1)
    · exact absurd t1 (f.tf a j t2)
    · exact S.dis j k a t1 t2
  · rcases sub j a h with ⟨_, t1⟩ | ⟨_, t1⟩
    · exact f.tg a t1
    · exact S.fg j a t1
  · rcases sub j a h with ⟨_, t1⟩ | ⟨_, t1⟩
    · exact f.th a t1
    · exact S.fh j a t1
  · by_cases q : j = i
    · subst q
      have hj : j < (ρ.set j (some d)).length := (List.getElem?_eq_some_iff.mp e).1
      rw [List.length_set] at hj
      rw [List.getElem?_set_self hj] at e
      have e1 : d = x := Option.some.inj (Option.some.inj e)
      subst e1
      exact ⟨v, List.getElem?_set_self (by rw [← S.len]; exact hj), by rw [if_pos rfl]; exact h⟩
    · rw [List.getElem?_set_ne (fun z => q z.symm)] at e
      obtain ⟨y, k1, k2⟩ := S.slot j x e
      exact ⟨y, by rw [List.getElem?_set_ne (fun z => q z.symm)]; exact k1, by rw [if_neg q]; exact k2⟩
  · rcases sub j a h with ⟨_, t1⟩ | ⟨_, t1⟩
    · exact f.nt a t1
    · exact f.nf j a t1
theorem good_set {i : Nat} {te : TE} {x : Ex} (hi : i ∈ W) (h : GoodE K te x) : GoodS K W (tAsg te (gName i)) (sSet i x) := by
  intro ρ o e G F H σ S D p
  unfold sSet at e
  obtain ⟨⟨r1, ρ1⟩, e1, e⟩ := Option.bind_eq_some_iff.mp e
  obtain ⟨d, e2, e⟩ := Option.map_eq_some_iff.mp e
  subst e
  refine h ρ r1 ρ1 e1 G F H σ S _ fun v1 G1 F1 H1 T1 S1 f1 h1 => ?_
  cases r1 with
  | v x =>
    cases e2
    obtain ⟨S2, f2⟩ := S1.put (i := i) f1.em h1
    exact p _ _ _ _ S2 f2 (Agr.set hi)
  | own x =>
    cases e2
    obtain ⟨S2, f2⟩ := S1.put (i := i) f1 h1
    exact p _ _ _ _ S2 f2 (Agr.set hi)
  | «at» j => cases e2
theorem good_expr {te : TE} {x : Ex} (h : GoodE K te x) : GoodS K W (tDrop te) (sExpr x) := by
  intro ρ o e G F H σ S D p
  unfold sExpr at e
  obtain ⟨⟨r1, ρ1⟩, e1, e⟩ := Option.map_eq_some_iff.mp e
  subst e
  exact h ρ r1 ρ1 e1 G F H σ S _ fun v1 G1 F1 H1 T1 S1 f1 h1 => p G1 F1 H1 σ S1 f1.em (Agr.refl _ _)
theorem good_ret {te : TE} {x : Ex} (h : GoodE K te x) : GoodS K W (tRet te) (sRet x) := by
  intro ρ o e G F H σ S D p
  unfold sRet at e
  obtain ⟨⟨r1, ρ1⟩, e1, e⟩ := Option.map_eq_some_iff.mp e
  subst e
  exact h ρ r1 ρ1 e1 G F H σ S _ fun v1 G1 F1 H1 T1 S1 f1 h1 => p v1 G1 F1 H1 σ T1 S1 f1 (Agr.refl _ _) h1
theorem good_retN : GoodS K W tRetN sRetN := by
  intro ρ o e G F H σ S D p
  cases e
  exact p .non G F H σ Em S (Fr.refl _ _ _) (Agr.refl _ _) rfl
theorem good_brk : GoodS K W tBreak sBrk := by
  intro ρ o e G F H σ S D p
  cases e
  exact p G F H σ S (Fr.refl _ _ _) (Agr.refl _ _)
theorem good_cnt : GoodS K W tCont sCnt := by
  intro ρ o e G F H σ S D p
  cases e
  exact p G F H σ S (Fr.refl _ _ _) (Agr.refl _ _)

theorem good_gn {i : Nat} (hi : i ∈ W) : GoodG K W (gName i) (gN i) := by
  intro d ρ ρ' e G F H σ v S h Q q
  cases e
  obtain ⟨S2, f2⟩ := S.put (i := i) (Fr.refl G F H) h
  exact q _ _ S2 f2 (Agr.set hi)
theorem good_gsnil : GoodGs K W gNil gsNil := by
  intro ds ρ ρ' e G F H σ vs S h Q q
  cases ds with
  | nil =>
    cases e
    exact ⟨h, q F σ S (Fr.refl _ _ _) (Agr.refl _ _)⟩
  | cons d ds => cases e
theorem good_gscons {tg : TG} {tu : TGs} {g : Eg} {f : List Den.D → Env → Option Env} (h : GoodG K W tg g) (h' : GoodGs K W tu f) : GoodGs K W (gCons tg tu) (gsCons g f) := by
  intro ds ρ ρ' e G F H σ vs S hr Q q
  cases ds with
  | nil => cases e
  | cons d ds =>
    obtain ⟨v, r, U, V', rfl, hu, hw, hd, h1, h2⟩ := hr
    have h1' := Rep.mono _ _ _ _ hu h1
    have h2' := Reps.mono _ _ _ _ hw h2
    obtain ⟨ρ1, e1, e2⟩ := Option.bind_eq_some_iff.mp (show (g d ρ).bind (f ds) = some ρ' from e)
    refine ⟨v, r, rfl, h d ρ ρ1 e1 G F H σ v S h1' _ fun F1 σ1 S1 f1 a1 => ?_⟩
    exact h' ds ρ1 ρ' e2 G F1 H σ1 r S1 h2' Q fun F2 σ2 S2 f2 a2 => q F2 σ2 S2 (f1.seq f2) (a1.trans a2)
theorem good_gt {n : Nat} {tu : TGs} {f : List Den.D → Env → Option Env} (h : GoodGs K W tu f) : GoodG K W (gTup K n tu) (gT n f) := by
  intro d ρ ρ' e G F H σ v S hr Q q
  unfold gT at e
  split at e
  · rename_i ds
    by_cases hn : ds.length = n
    · rw [if_pos hn] at e
      obtain ⟨a, vs, rfl, ha, hv⟩ := hr
      exact ⟨a, vs, rfl, same_sqT S.gh ha, by rw [hv.len]; exact hn, h ds ρ ρ' e G F H σ vs S hv Q q⟩
    · rw [if_neg hn] at e
      cases e
  · cases e
theorem good_asg {te : TE} {tg : TG} {x : Ex} {g : Eg} (h : GoodE K te x) (hg : GoodG K W tg g) : GoodS K W (tAsg te tg) (sAsg x g) := by
  intro ρ o e G F H σ S D p
  unfold sAsg at e
  obtain ⟨⟨r1, ρ1⟩, e1, e⟩ := Option.bind_eq_some_iff.mp e
  obtain ⟨d, e2, e⟩ := Option.bind_eq_some_iff.mp e
  obtain ⟨ρ2, e3, e⟩ := Option.map_eq_some_iff.mp e
  subst e
  refine h ρ r1 ρ1 e1 G F H σ S _ fun v1 G1 F1 H1 T1 S1 f1 h1 => ?_
  cases r1 with
  | v x =>
    cases e2
    exact hg d ρ1 ρ2 e3 G1 F1 H1 σ v1 S1 h1 _ fun F2 σ2 S2 f2 a2 => p G1 F2 H1 σ2 S2 (f1.seq f2) a2
  | own x => cases e2
  | «at» j => cases e2
theorem good_for {wi : TI} {tg : TG} {tb : TS} {fi : Ei} {g : Eg} {b : Es} (hi : GoodI K wi fi) (hg : GoodG K W tg g) (hb : GoodS K W tb b) : GoodS K W (tFor wi tg tb) (sFor fi g b) := by
  intro ρ o e G F H σ S D p
  unfold sFor at e
  obtain ⟨⟨ds, ρ1⟩, e1, e⟩ := Option.bind_eq_some_iff.mp e
  refine hi ρ ds ρ1 e1 G F H σ S _ fun J G1 F1 H1 S1 f1 it => ?_
  have p1 := p.pre f1 (Agr.refl W σ)
  clear p
  refine ⟨fun i m σ' H' => m = ds.length - i ∧ i ≤ ds.length ∧ ∃ ρ' G' F', Sim K G' F' H' ρ' σ' ∧ Fr G1 F1 H1 G' F' H' Em ∧ Agr W σ σ' ∧ forL g b (ds.drop i) ρ' = some o,
    ⟨ds.length, by simp, Nat.zero_le _, ρ1, G1, F1, S1, Fr.refl _ _ _, Agr.refl _ _, e⟩, ?_⟩
  rintro i m σ' H' ⟨rfl, hle, ρ', G', F', S', f', a', e'⟩
  obtain ⟨stop, turn⟩ := it G' H' f'.g S'.gh
  by_cases hlt : i < ds.length
  · obtain ⟨go, yl⟩ := turn i hlt
    rw [List.drop_eq_getElem_cons hlt] at e'
    obtain ⟨ρ2, e2, e'⟩ := Option.bind_eq_some_iff.mp (show (g ds[i] ρ').bind _ = some o from e')
    obtain ⟨o1, e3, e'⟩ := Option.bind_eq_some_iff.mp e'
    refine .inr ⟨go, fun σ'' H'' => ∃ ρ'' G'' F'', Sim K G'' F'' H'' ρ'' σ'' ∧ Fr G1 F1 H1 G'' F'' H'' Em ∧ Agr W σ σ'' ∧ forL g b (ds.drop (i + 1)) ρ'' = some o, fun σ'' H'' n => ⟨ds.length - (i + 1), by omega, rfl, hlt, n⟩, fun x H2 y => ?_⟩
    obtain ⟨G2, d, x2, hd, hr⟩ := yl x H2 y
    rw [List.getElem?_eq_getElem hlt] at hd
    cases hd
    obtain ⟨S2, f2⟩ := S'.ext1 x2
    refine hg ds[i] ρ' ρ2 e2 G2 F' H2 σ' x S2 hr _ fun F3 σ3 S3 f3 a3 => ?_
    have fs := (f'.seq f2).seq f3
    refine hb ρ2 o1 e3 G2 F3 H2 σ3 S3 _ ?_
    cases o1 with
    | nx ρ4 => exact fun G4 F4 H4 σ4 S4 f4 a4 => ⟨ρ4, G4, F4, S4, fs.seq f4, (a'.trans a3).trans a4, e'⟩
    | ct ρ4 => exact fun G4 F4 H4 σ4 S4 f4 a4 => ⟨ρ4, G4, F4, S4, fs.seq f4, (a'.trans a3).trans a4, e'⟩
    | bk ρ4 =>
      cases e'
      exact fun G4 F4 H4 σ4 S4 f4 a4 => p1 G4 F4 H4 σ4 S4 (fs.seq f4) ((a'.trans a3).trans a4)
    | rt r ρ4 =>
      cases e'
      exact fun v G4 F4 H4 σ4 T4 S4 f4 a4 h4 => p1 v G4 F4 H4 σ4 T4 S4 (fs.seq f4) ((a'.trans a3).trans a4) h4
  · have hi2 : i = ds.length := by omega
    subst hi2
    refine .inl ⟨stop, ?_⟩
    rw [List.drop_length] at e'
    cases e'
    exact p1 G' F' H' σ' S' f' a'
end

/-! ### rules for the iterables -/
def dsOf : D → Option (List D)
  | .lst ds => some ds
  | .rd ds => some ds
  | _ => none
def tupOf : D → Option (List D)
  | .tup ds => some ds
  | _ => none
/-- the signs of a text, each a text -/
def signs (s : List Nat) : List D := s.map fun c => .str [c]
def iL (f : Ex) : Ei := fun ρ => (f ρ).bind fun p => (rVal p.1).bind fun d => (dsOf d).map fun ds => (ds, p.2)
def iT (f : Ex) : Ei := fun ρ => (f ρ).bind fun p => (rVal p.1).bind fun d => (tupOf d).map fun ds => (ds, p.2)
def iS (f : Ex) : Ei := fun ρ => (f ρ).bind fun p => match p.1 with
  | .v (.str s) => some (signs s, p.2)
  | _ => none
def rng (lo : Int) (n : Nat) : List D := (List.range n).map fun k => .int (lo + (k : Nat))
def small (i : Int) : Bool := decide (-(2 ^ 62) ≤ i) && decide (i < 2 ^ 62)
theorem small_of {i : Int} (h : small i = true) : -(2 ^ 62) ≤ i ∧ i < 2 ^ 62 := by
  unfold small at h
  rw [Bool.and_eq_true, decide_eq_true_eq, decide_eq_true_eq] at h
  exact h
def iR1 (g : Ea) : Ei := fun ρ => (g ρ).bind fun p => match p.1 with
  | [.v (.int j)] => if small j then some (rng 0 j.toNat, p.2) else none
  | _ => none
def iR2 (g : Ea) : Ei := fun ρ => (g ρ).bind fun p => match p.1 with
  | [.v (.int i), .v (.int j)] => if small i && small j then some (rng i (j - i).toNat, p.2) else none
  | _ => none
def enumL : Nat → List D → List D
  | _, [] => []
  | n, d :: ds => .tup [.int (n : Nat), d] :: enumL (n + 1) ds
def iE (g : Ea) : Ei := fun ρ => (g ρ).bind fun p => match p.1 with
  | [.v d] => (dsOf d).map fun ds => (enumL 0 ds, p.2)
  | _ => none
def zipL : List D → List D → List D
  | x :: xs, y :: ys => .tup [x, y] :: zipL xs ys
  | _, _ => []
def iZ (g : Ea) : Ei := fun ρ => (g ρ).bind fun p => match p.1 with
  | [.v d, .v e] => (dsOf d).bind fun ds => (dsOf e).map fun es => (zipL ds es, p.2)
  | _ => none
theorem enumL_len : ∀ (n : Nat) (ds : List D), (enumL n ds).length = ds.length
  | _, [] => rfl
  | n, d :: ds => by rw [enumL, List.length_cons, List.length_cons, enumL_len (n + 1) ds]
theorem enumL_get : ∀ (ds : List D) (n i : Nat) (d : D), ds[i]? = some d → (enumL n ds)[i]? = some (.tup [.int ((n + i : Nat) : Int), d])
  | [], n, i, d, h => by simp at h
  | x :: ds, n, 0, d, h => by
    have e : x = d := by simpa using h
    subst e
    rfl
  | x :: ds, n, i + 1, d, h => by
    have e := enumL_get ds (n + 1) i d (by simpa using h)
    rw [enumL, List.getElem?_cons_succ, e, show n + 1 + i = n + (i + 1) by omega]
theorem zipL_len : ∀ (xs ys : List D), (zipL xs ys).length = min xs.length ys.length
  | [], ys => by simp [zipL]
  | x :: xs, [] => by simp [zipL]
  | x :: xs, y :: ys => by
    rw [zipL, List.length_cons, List.length_cons, List.length_cons, zipL_len xs ys]
    omega
theorem zipL_get : ∀ (xs ys : List D) (i : Nat) (x y : D), xs[i]? = some x → ys[i]? = some y → (zipL xs ys)[i]? = some (.tup [x, y])
  | [], ys, i, x, y, h, _ => by simp at h
  | a :: xs, [], i, x, y, _, h => by simp at h
  | a :: xs, b :: ys, 0, x, y, h, h' => by
    have e : a = x := by simpa using h
    have e' : b = y := by simpa using h'
    subst e e'
    rfl
  | a :: xs, b :: ys, i + 1, x, y, h, h' => by
    rw [zipL, List.getElem?_cons_succ]
    exact zipL_get xs ys i x y (by simpa using h) (by simpa using h')
section
variable {K : PySem.W.Frag} {G G1 G2 H H1 H2 : Hp} {F F1 F2 : Nat → Tp} {T : Tp} {ρ ρ1 : Env} {σ σ1 : L2.St} {d : D} {v : V}
theorem dsOf_ok {ds : List D} (e : dsOf d = some ds) (h : Rep K G H d v T) : ∃ a vs, v = .ref a ∧ SqL K G a vs ∧ Reps K G H ds vs Em := by
  cases d with
  | lst xs =>
    cases e
    obtain ⟨a, vs, rfl, ha, hr⟩ := h
    exact ⟨a, vs, rfl, .of ha, hr⟩
  | rd xs =>
    cases e
    exact h
  | _ => cases e
theorem rval_ok {r : R} (e : rVal r = some d) (h : RepR K G H σ T r v) : Rep K G H d v Em := by
  cases r with
  | v x =>
    cases e
    exact h
  | _ => cases e
theorem itok_list {a : Addr} {vs : List V} {ds : List D} (hs : SqL K G a vs) (hr : Reps K G H ds vs Em) : ItOk K (Itl K a) ds G := by
  intro G' H' g gh
  have hl : SqL K H' a vs := gh.seq (g.seq hs)
  have hlen := hr.len
  refine ⟨⟨vs, hl, by omega⟩, fun i hi => ⟨⟨vs, vs[i]'(by omega), hl, by simp [show i < vs.length by omega]⟩, fun x H2 y => ?_⟩⟩
  obtain ⟨rfl, y⟩ := y
  obtain ⟨v, q1, q2⟩ := hr.get (List.getElem?_eq_getElem hi)
  have q3 := (y vs hl).symm.trans q1
  cases q3
  exact ⟨G', ds[i], .inl ⟨rfl, rfl⟩, List.getElem?_eq_getElem hi, Rep.shared g q2⟩
theorem itok_tup {a : Addr} {vs : List V} {ds : List D} (hs : SqT K G a vs) (hr : Reps K G H ds vs Em) : ItOk K (Itt K a) ds G := by
  intro G' H' g gh
  have hl : SqT K H' a vs := same_sqT gh (same_sqT g hs)
  have hlen := hr.len
  refine ⟨⟨vs, hl, by omega⟩, fun i hi => ⟨⟨vs, vs[i]'(by omega), hl, by simp [show i < vs.length by omega]⟩, fun x H2 y => ?_⟩⟩
  obtain ⟨rfl, y⟩ := y
  obtain ⟨v, q1, q2⟩ := hr.get (List.getElem?_eq_getElem hi)
  have q3 := (y vs hl).symm.trans q1
  cases q3
  exact ⟨G', ds[i], .inl ⟨rfl, rfl⟩, List.getElem?_eq_getElem hi, Rep.shared g q2⟩
theorem itok_rng {lo : Int} {n : Nat} : ItOk K (Itr lo n) (rng lo n) G := by
  intro G' H' g gh
  have hn : (rng lo n).length = n := by simp [rng]
  refine ⟨by rw [hn]; exact Nat.le_refl _, fun i hi => ⟨by rw [hn] at hi; exact hi, fun x H2 y => ?_⟩⟩
  obtain ⟨rfl, rfl⟩ := y
  rw [hn] at hi
  exact ⟨G', .int (lo + (i : Nat)), .inl ⟨rfl, rfl⟩, by simp [rng, hi], rfl⟩
theorem itok_str {s : List Nat} : ItOk K (Its ⟨s.toArray⟩) (signs s) G := by
  intro G' H' g gh
  have hn : (signs s).length = s.toArray.size := by simp [signs]
  refine ⟨by rw [hn]; exact Nat.le_refl _, fun i hi => ⟨by rw [hn] at hi; exact hi, fun x H2 y => ?_⟩⟩
  obtain ⟨rfl, c, hc, rfl⟩ := y
  have hc' : s[i]? = some c := by simpa using hc
  exact ⟨G', .str [c], .inl ⟨rfl, rfl⟩, by simp [signs, hc'], rfl⟩
theorem reps2 {x y : D} {vx vy : V} (h1 : Rep K G H x vx Em) (h2 : Rep K G H y vy Em) : Reps K G H [x, y] [vx, vy] Em :=
  ⟨vx, [vy], Em, Em, rfl, fun _ z => z, fun _ z => z, fun _ z _ => z, h1, vy, [], Em, Em, rfl, fun _ z => z, fun _ z => z, fun _ z _ => z, h2, rfl⟩
theorem itok_enum {a : Addr} {vs : List V} {ds : List D} (hs : SqL K G a vs) (hr : Reps K G H ds vs Em) : ItOk K (Ite K a) (enumL 0 ds) G := by
  intro G' H' g gh
  have hl : SqL K H' a vs := gh.seq (g.seq hs)
  have hlen := hr.len
  rw [enumL_len]
  refine ⟨⟨vs, hl, by omega⟩, fun i hi => ⟨⟨vs, vs[i]'(by omega), hl, by simp [show i < vs.length by omega]⟩, fun x H2 y => ?_⟩⟩
  obtain ⟨p, z, rfl, hp, rfl, y⟩ := y
  obtain ⟨v, q1, q2⟩ := hr.get (List.getElem?_eq_getElem hi)
  have q3 := (y vs hl).symm.trans q1
  cases q3
  refine ⟨upd G' p (.tup [.int (i : Nat), z]), _, .inr ⟨p, _, hp, rfl, rfl⟩, enumL_get ds 0 i ds[i] (List.getElem?_eq_getElem hi), p, _, rfl, .inl (.inl upd_same), ?_⟩
  exact reps2 (by rw [Nat.zero_add]; rfl) (Rep.shared (g.trans (same_new (gh.free hp))) q2)
theorem itok_zip {a b : Addr} {vs ws : List V} {ds es : List D} (hs : SqL K G a vs) (hr : Reps K G H ds vs Em) (hs' : SqL K G b ws) (hr' : Reps K G H es ws Em) : ItOk K (Itz K a b) (zipL ds es) G := by
  intro G' H' g gh
  have hl : SqL K H' a vs := gh.seq (g.seq hs)
  have hl' : SqL K H' b ws := gh.seq (g.seq hs')
  have hlen := hr.len
  have hlen' := hr'.len
  rw [zipL_len]
  refine ⟨⟨vs, ws, hl, hl', by omega⟩, fun i hi => ⟨⟨vs, ws, vs[i]'(by omega), ws[i]'(by omega), hl, hl', by simp [show i < vs.length by omega], by simp [show i < ws.length by omega]⟩, fun x H2 y => ?_⟩⟩
  obtain ⟨p, z, z', rfl, hp, rfl, y, y'⟩ := y
  have i1 : i < ds.length := by omega
  have i2 : i < es.length := by omega
  obtain ⟨v, q1, q2⟩ := hr.get (List.getElem?_eq_getElem i1)
  have q3 := (y vs hl).symm.trans q1
  cases q3
  obtain ⟨v, k1, k2⟩ := hr'.get (List.getElem?_eq_getElem i2)
  have k3 := (y' ws hl').symm.trans k1
  cases k3
  refine ⟨upd G' p (.tup [z, z']), _, .inr ⟨p, _, hp, rfl, rfl⟩, zipL_get ds es i ds[i] es[i] (List.getElem?_eq_getElem i1) (List.getElem?_eq_getElem i2), p, _, rfl, .inl (.inl upd_same), ?_⟩
  have gg := g.trans (same_new (o := HO.tup [z, z']) (gh.free hp))
  exact reps2 (Rep.shared gg q2) (Rep.shared gg k2)
theorem good_il {te : TE} {f : Ex} (h : GoodE K te f) : GoodI K (iList K te) (iL f) := by
  intro ρ ds ρ' e G F H σ S R q
  unfold iL at e
  obtain ⟨⟨r1, ρ1⟩, e1, e⟩ := Option.bind_eq_some_iff.mp e
  obtain ⟨d, e2, e⟩ := Option.bind_eq_some_iff.mp e
  obtain ⟨es, e3, e⟩ := Option.map_eq_some_iff.mp e
  cases e
  refine h ρ r1 ρ1 e1 G F H σ S _ fun v1 G1 F1 H1 T1 S1 f1 h1 => ?_
  obtain ⟨a, vs, rfl, ha, hr⟩ := dsOf_ok e3 (rval_ok e2 h1)
  exact ⟨a, rfl, ⟨vs, S1.gh.seq ha⟩, q _ G1 F1 H1 S1 f1.em (itok_list ha hr)⟩
theorem good_it {te : TE} {f : Ex} (h : GoodE K te f) : GoodI K (iTup K te) (iT f) := by
  intro ρ ds ρ' e G F H σ S R q
  unfold iT at e
  obtain ⟨⟨r1, ρ1⟩, e1, e⟩ := Option.bind_eq_some_iff.mp e
  obtain ⟨d, e2, e⟩ := Option.bind_eq_some_iff.mp e
  obtain ⟨es, e3, e⟩ := Option.map_eq_some_iff.mp e
  cases e
  refine h ρ r1 ρ1 e1 G F H σ S _ fun v1 G1 F1 H1 T1 S1 f1 h1 => ?_
  have hd := rval_ok e2 h1
  cases d with
  | tup xs =>
    cases e3
    obtain ⟨a, vs, rfl, ha, hr⟩ := hd
    exact ⟨a, rfl, ⟨vs, same_sqT S1.gh ha⟩, q _ G1 F1 H1 S1 f1.em (itok_tup ha hr)⟩
  | _ => cases e3
theorem good_is {te : TE} {f : Ex} (h : GoodE K te f) : GoodI K (iStr te) (iS f) := by
  intro ρ ds ρ' e G F H σ S R q
  unfold iS at e
  obtain ⟨⟨r1, ρ1⟩, e1, e⟩ := Option.bind_eq_some_iff.mp e
  refine h ρ r1 ρ1 e1 G F H σ S _ fun v1 G1 F1 H1 T1 S1 f1 h1 => ?_
  dsimp only at e
  split at e
  · cases e
    exact ⟨_, h1, q _ G1 F1 H1 S1 f1.em itok_str⟩
  · cases e
theorem good_ir1 {ta : TA} {g : Ea} (h : GoodA K ta g) : GoodI K (iRng1 ta) (iR1 g) := by
  intro ρ ds ρ' e G F H σ S R q
  unfold iR1 at e
  obtain ⟨⟨rs, ρ1⟩, e1, e⟩ := Option.bind_eq_some_iff.mp e
  refine h ρ rs ρ1 e1 G F H σ S _ fun vs G1 F1 H1 T1 S1 f1 h1 => ?_
  dsimp only at e
  split at e
  · rename_i j
    by_cases hj : small j = true
    · rw [if_pos hj] at e
      cases e
      obtain ⟨v, ws, U, W, rfl, hu, hw, hd, h1, h2⟩ := h1
      cases h1
      cases h2
      obtain ⟨b1, b2⟩ := small_of hj
      exact ⟨j, rfl, b1, b2, q _ G1 F1 H1 S1 f1.em itok_rng⟩
    · rw [if_neg hj] at e
      cases e
  · cases e
theorem good_ir2 {ta : TA} {g : Ea} (h : GoodA K ta g) : GoodI K (iRng2 ta) (iR2 g) := by
  intro ρ ds ρ' e G F H σ S R q
  unfold iR2 at e
  obtain ⟨⟨rs, ρ1⟩, e1, e⟩ := Option.bind_eq_some_iff.mp e
  refine h ρ rs ρ1 e1 G F H σ S _ fun vs G1 F1 H1 T1 S1 f1 h1 => ?_
  dsimp only at e
  split at e
  · rename_i i j
    by_cases hj : (small i && small j) = true
    · rw [if_pos hj] at e
      cases e
      rw [Bool.and_eq_true] at hj
      obtain ⟨v, ws, U, W, rfl, hu, hw, hd, h1, h2⟩ := h1
      cases h1
      obtain ⟨v, ws, U, W, rfl, hu, hw, hd, h1, h2⟩ := h2
      cases h1
      cases h2
      obtain ⟨b1, b2⟩ := small_of hj.1
      obtain ⟨b3, b4⟩ := small_of hj.2
      exact ⟨i, j, rfl, ⟨b1, b2, b3, b4⟩, q _ G1 F1 H1 S1 f1.em itok_rng⟩
    · rw [if_neg hj] at e
      cases e
  · cases e
theorem good_ie {ta : TA} {g : Ea} (h : GoodA K ta g) : GoodI K (iEnum K ta) (iE g) := by
  intro ρ ds ρ' e G F H σ S R q
  unfold iE at e
  obtain ⟨⟨rs, ρ1⟩, e1, e⟩ := Option.bind_eq_some_iff.mp e
  refine h ρ rs ρ1 e1 G F H σ S _ fun vs G1 F1 H1 T1 S1 f1 h1 => ?_
  dsimp only at e
  split at e
  · obtain ⟨es, e3, e⟩ := Option.map_eq_some_iff.mp e
    cases e
    obtain ⟨v, ws, U, W, rfl, hu, hw, hd, h1, h2⟩ := h1
    cases h2
    obtain ⟨a, vs, rfl, ha, hr⟩ := dsOf_ok e3 (show Rep K G1 H1 _ v Em from h1)
    exact ⟨a, vs, rfl, S1.gh.seq ha, q _ G1 F1 H1 S1 f1.em (itok_enum ha hr)⟩
  · cases e
theorem good_iz {ta : TA} {g : Ea} (h : GoodA K ta g) : GoodI K (iZip K ta) (iZ g) := by
  intro ρ ds ρ' e G F H σ S R q
  unfold iZ at e
  obtain ⟨⟨rs, ρ1⟩, e1, e⟩ := Option.bind_eq_some_iff.mp e
  refine h ρ rs ρ1 e1 G F H σ S _ fun vs G1 F1 H1 T1 S1 f1 h1 => ?_
  dsimp only at e
  split at e
  · obtain ⟨es, e3, e⟩ := Option.bind_eq_some_iff.mp e
    obtain ⟨fs, e4, e⟩ := Option.map_eq_some_iff.mp e
    cases e
    obtain ⟨v, ws, U, W, rfl, hu, hw, hd, h1, h2⟩ := h1
    obtain ⟨v', ws, U, W, rfl, hu, hw, hd, h1', h2⟩ := h2
    cases h2
    obtain ⟨a, vs, rfl, ha, hr⟩ := dsOf_ok e3 (show Rep K G1 H1 _ v Em from h1)
    obtain ⟨b, ws, rfl, hb, hr'⟩ := dsOf_ok e4 (show Rep K G1 H1 _ v' Em from h1')
    exact ⟨a, b, vs, ws, rfl, S1.gh.seq ha, S1.gh.seq hb, q _ G1 F1 H1 S1 f1.em (itok_zip ha hr hb hr')⟩
  · cases e
end

section
variable {X : Cx} {W : List Nat} {e a b c tg : Expr} {es rest : List Expr} {s : Stmt} {ss ss' : List Stmt} {f g : Es} {x : Ex} {fa : Ea} {t : Et} {gg : Eg} {gs : List D → Env → Option Env} {fi : Ei} {pos p : Pos}
theorem ass_nil : ASs X W [] sNil := ⟨_, pss_nil, good_snil⟩
theorem ass_cons (h : AS X W s f) (h' : ASs X W ss g) : ASs X W (s :: ss) (sSeq f g) := let ⟨_, p, q⟩ := h; let ⟨_, p', q'⟩ := h'; ⟨_, pss_cons p p', good_seq q q'⟩
theorem ass_one (h : AS X W s f) : ASs X W [s] f := let ⟨_, p, q⟩ := h; ⟨_, pss_one p, q⟩
theorem as_if (ht : AT X c t) (h : ASs X W ss f) (h' : ASs X W ss' g) : AS X W (.If c ss ss' pos) (sIf t f g) := let ⟨_, p0, q0⟩ := ht; let ⟨_, p, q⟩ := h; let ⟨_, p', q'⟩ := h'; ⟨_, ps_if p0 p p', good_sif q0 q q'⟩
theorem as_set {i : Nat} {y : Str} {pos' : Pos} (hN : X.N.Nodup) (hi : X.N[i]? = some y) (hx : Loc X.env.scope y) (he : AE X e x) (hw : i ∈ W := by decide) (hs : swapsWith e (some (.Name y pos')) pos.line X.env = pure false := by rfl)
    (hf : X.fn y = true ∨ X.env.scope.names.lookup y = some .local := by first | exact .inl rfl | exact .inr rfl) :
    AS X W (.Assign [.Name y pos'] e pos) (sSet i x) := let ⟨_, p, q⟩ := he; ⟨_, ps_set hN hi hx p hs hf, good_set hw q⟩
theorem as_expr (he : AE X e x) (hs : swapsWith e none pos.line X.env = pure false := by rfl) : AS X W (.Expr e pos) (sExpr x) := let ⟨_, p, q⟩ := he; ⟨_, ps_expr p hs, good_expr q⟩
theorem as_ret (he : AE X e x) : AS X W (.Return (some e) pos) (sRet x) := let ⟨_, p, q⟩ := he; ⟨_, ps_ret p, good_ret q⟩
theorem as_retN : AS X W (.Return none pos) sRetN := ⟨_, ps_retN, good_retN⟩
theorem as_brk : AS X W (.Break pos) sBrk := ⟨_, ps_break, good_brk⟩
theorem as_cnt : AS X W (.Continue pos) sCnt := ⟨_, ps_continue, good_cnt⟩
theorem as_pass : AS X W (.Pass pos) sNil := ⟨_, ps_pass, good_snil⟩
theorem as_doc {x : Str} {j : Nat} {pos' : Pos} : AS X W (.Expr (.Constant (.str x) j pos) pos') sNil := ⟨_, ps_doc, good_snil⟩
theorem ag_n {i : Nat} {y : Str} (hN : X.N.Nodup) (hi : X.N[i]? = some y) (hx : Loc X.env.scope y) (hw : i ∈ W := by decide) (hf : X.fn y = true ∨ X.env.scope.names.lookup y = some .local := by first | exact .inl rfl | exact .inr rfl) : AG X W (.Name y pos) (gN i) := ⟨_, pg_name hN hi hx hf, good_gn hw⟩
theorem ags_nil : AGs X W [] gsNil := ⟨_, pgs_nil, good_gsnil⟩
theorem ags_cons (h : AG X W e gg) (h' : AGs X W es gs) (hs : (assignEach (e :: es) X.env).map (·.2) = assign e X.env :: (assignEach es X.env).map (·.2) := by rfl) : AGs X W (e :: es) (gsCons gg gs) := let ⟨_, p, q⟩ := h; let ⟨_, p', q'⟩ := h'; ⟨_, pgs_cons p p' hs, good_gscons q q'⟩
theorem ag_t {k : Nat} {n : Nat} (hc : X.calm = true) (h : AGs X W es gs) (hn : (assignEach es X.env).length = n := by rfl) (hst : (assignEach es X.env).findIdx? (·.1) = none := by rfl) : AG X W (.Tuple es k pos) (gT n gs) := let ⟨_, p, q⟩ := h; ⟨_, pg_tup hc p hn hst, good_gt q⟩
theorem as_asg (he : AE X e x) (hg : AG X W tg gg) (hs : swapsWithSole [tg] e pos.line X.env = pure false := by rfl) (hw : swappedStores [tg] e X.env = pure none := by rfl)
    (h1 : (assignEach [tg] X.env).map (·.2) = [assign tg X.env] := by rfl) : AS X W (.Assign [tg] e pos) (sAsg x gg) := let ⟨_, p, q⟩ := he; let ⟨_, p', q'⟩ := hg; ⟨_, ps_asg p p' hs hw h1, good_asg q q'⟩
theorem as_for {iter : Expr} (hp : PassesOwn (model X.prog X.w) X.A X.env X.xe) (hc : X.calm = true) (hi : AI X tg iter fi) (hg : AG X W tg gg) (hb : ASs X W ss f)
    (hs : ∀ x, foldedSetIterable iter X.env x = pure x := by intro _; rfl) : AS X W (.For tg iter ss [] pos) (sFor fi gg f) := let ⟨_, p, q⟩ := hi; let ⟨_, p', q'⟩ := hg; let ⟨_, p2, q2⟩ := hb; ⟨_, ps_for hp hc p p' p2 hs, good_for q q' q2⟩
theorem ai_l (h : AE X e x) : AI X tg e (iL x) := let ⟨_, p, q⟩ := h; ⟨_, pi_list p, good_il q⟩
theorem ai_t (h : AE X e x) : AI X tg e (iT x) := let ⟨_, p, q⟩ := h; ⟨_, pi_tup p, good_it q⟩
theorem ai_s (h : AE X e x) : AI X tg e (iS x) := let ⟨_, p, q⟩ := h; ⟨_, pi_str p, good_is q⟩
theorem ai_r1 (hg : Gl X "range") (hm : X.mg "range" = none) (h : AA X [a] fa) (hs : starEach [a] X.env = [(false, eval a X.env)] := by rfl) : AI X tg (.Call (.Name "range" p) [a] [] pos) (iR1 fa) := let ⟨_, q, q'⟩ := h; ⟨_, pi_range1 hg hm q hs, good_ir1 q'⟩
theorem ai_r2 (hg : Gl X "range") (hm : X.mg "range" = none) (h : AA X [a, b] fa) (hs : starEach [a, b] X.env = [(false, eval a X.env), (false, eval b X.env)] := by rfl) (hs2 : starEach [b] X.env = [(false, eval b X.env)] := by rfl) :
    AI X tg (.Call (.Name "range" p) [a, b] [] pos) (iR2 fa) := let ⟨_, q, q'⟩ := h; ⟨_, pi_range2 hg hm q hs hs2, good_ir2 q'⟩
theorem ai_e {elts : List Expr} {kk : Nat} {tpos : Pos} (hg : Gl X "enumerate") (hm : X.mg "enumerate" = none) (h : AA X [a] fa) (hs : starEach [a] X.env = [(false, eval a X.env)] := by rfl) : AI X (.Tuple elts kk tpos) (.Call (.Name "enumerate" p) [a] [] pos) (iE fa) := let ⟨_, q, q'⟩ := h; ⟨_, pi_enum hg hm q hs, good_ie q'⟩
theorem ai_z {elts : List Expr} {kk : Nat} {tpos : Pos} (hg : Gl X "zip") (hm : X.mg "zip" = none) (h : AA X [a, b] fa) (hs : starEach [a, b] X.env = (false, eval a X.env) :: starEach [b] X.env := by rfl) (hpl : (backTo pos (starEach [b] X.env)).any (·.1) = false := by rfl) :
    AI X (.Tuple elts kk tpos) (.Call (.Name "zip" p) [a, b] [] pos) (iZ fa) := let ⟨_, q, q'⟩ := h; ⟨_, pi_zip hg hm q hs hpl, good_iz q'⟩
end
end Den

namespace Den
open PySem PySem.Spec PyProof.Rows L2

/-! ### the canonical reading -/
def tOfE (K : PySem.W.Frag) (f : Ex) : TE := fun σ H Q => ∃ ρ r ρ' G F, f ρ = some (r, ρ') ∧ Sim K G F H ρ σ ∧ ∀ v G' F' H' T, Sim K G' F' H' ρ' σ → Fr G F H G' F' H' T → RepR K G' H' σ T r v → Q v H'
def tOfT (K : PySem.W.Frag) (f : Et) : TT := fun σ H Q => ∃ ρ b ρ' G F, f ρ = some (b, ρ') ∧ Sim K G F H ρ σ ∧ ∀ G' F' H', Sim K G' F' H' ρ' σ → Fr G F H G' F' H' Em → Q b H'
def tOfG (K : PySem.W.Frag) (W : List Nat) (f : Eg) : TG := fun v σ H Q => ∃ d ρ ρ' G F, f d ρ = some ρ' ∧ Sim K G F H ρ σ ∧ Rep K G H d v Em ∧ ∀ F' σ', Sim K G F' H ρ' σ' → Fr G F H G F' H Em → Agr W σ σ' → Q σ' H
def tOfI (K : PySem.W.Frag) (f : Ei) : TI := fun σ H R => ∃ ρ ds ρ' G F, f ρ = some (ds, ρ') ∧ Sim K G F H ρ σ ∧ ∀ J G' F' H', Sim K G' F' H' ρ' σ → Fr G F H G' F' H' Em → ItOk K J ds G' → R J H'
theorem canon_E {K : PySem.W.Frag} {f : Ex} : GoodE K (tOfE K f) f := fun ρ r ρ' e G F H σ S Q q => ⟨ρ, r, ρ', G, F, e, S, q⟩
theorem canon_T {K : PySem.W.Frag} {f : Et} : GoodT K (tOfT K f) f := fun ρ r ρ' e G F H σ S Q q => ⟨ρ, r, ρ', G, F, e, S, q⟩
theorem canon_G {K : PySem.W.Frag} {W : List Nat} {f : Eg} : GoodG K W (tOfG K W f) f := fun d ρ ρ' e G F H σ v S h Q q => ⟨d, ρ, ρ', G, F, e, S, h, q⟩
theorem canon_I {K : PySem.W.Frag} {f : Ei} : GoodI K (tOfI K f) f := fun ρ ds ρ' e G F H σ S Q q => ⟨ρ, ds, ρ', G, F, e, S, q⟩
section
variable {X : Cx} {e tg : Expr} {f : Ex} {t : Et} {g : Eg} {fi : Ei} {W : List Nat}
theorem AE.canon (h : AE X e f) : PE X e (tOfE X.K f) := by
  obtain ⟨t, p, q⟩ := h
  exact ⟨fun pins s σ H Q I ⟨ρ, r, ρ', G, F, e, S, k⟩ => p.run pins s σ H Q I (q ρ r ρ' e G F H σ S Q k)⟩
theorem AT.canon (h : AT X e t) : PT X e (tOfT X.K t) := by
  obtain ⟨t, p, q⟩ := h
  exact ⟨fun pins s σ H Q I ⟨ρ, r, ρ', G, F, e, S, k⟩ => p.run pins s σ H Q I (q ρ r ρ' e G F H σ S Q k)⟩
theorem AG.canon (h : AG X W e g) : PG X e (tOfG X.K W g) := by
  obtain ⟨t, p, q⟩ := h
  exact ⟨fun pins s σ H x u Q I r ⟨d, ρ, ρ', G, F, e, S, hr, k⟩ => p.run pins s σ H x u Q I r (q d ρ ρ' e G F H σ x S hr Q k)⟩
theorem AI.canon (h : AI X tg e fi) : PI X tg e (tOfI X.K fi) := by
  obtain ⟨t, p, q⟩ := h
  exact ⟨fun pins s σ H R I ⟨ρ, ds, ρ', G, F, e, S, k⟩ => p.run pins s σ H R I (q ρ ds ρ' e G F H σ S R k)⟩
end

/-! ### comprehensions -/
def wipeD : Env → List Nat → Env
  | ρ, [] => ρ
  | ρ, v :: vs => (wipeD ρ vs).set v none
def lcL (g : Eg) (t : Et) (f : Ex) (vs : List Nat) : List D → Env → Option (List D × Env)
  | [], ρ => some ([], ρ)
  | d :: ds, ρ => (g d ρ).bind fun ρ1 => (t ρ1).bind fun p => if p.1 then (f p.2).bind fun q => (rVal q.1).bind fun y => (lcL g t f vs ds (wipeD q.2 vs)).map fun r => (y :: r.1, r.2) else lcL g t f vs ds (wipeD p.2 vs)
def xLc (fi : Ei) (g : Eg) (t : Et) (f : Ex) (vs : List Nat) : Ex := fun ρ => (fi ρ).bind fun p => (lcL g t f vs p.1 (wipeD p.2 vs)).bind fun r => if r.1.length ≤ cap then some (.own (.own r.1), r.2) else none
def qYes : Et := fun ρ => some (true, ρ)
def lcL2 (g : Eg) (t : Et) (fi : Ei) (g1 : Eg) (t1 : Et) (f : Ex) (vs vs1 : List Nat) : List D → Env → Option (List D × Env)
  | [], ρ => some ([], ρ)
  | d :: ds, ρ => (g d ρ).bind fun ρ1 => (t ρ1).bind fun p => if p.1 then (fi p.2).bind fun q => (lcL g1 t1 f vs1 q.1 (wipeD q.2 vs1)).bind fun r => (lcL2 g t fi g1 t1 f vs vs1 ds (wipeD r.2 vs)).map fun s => (r.1 ++ s.1, s.2) else lcL2 g t fi g1 t1 f vs vs1 ds (wipeD p.2 vs)
def xLc2 (fo : Ei) (g : Eg) (t : Et) (fi : Ei) (g1 : Eg) (t1 : Et) (f : Ex) (vs vs1 : List Nat) : Ex := fun ρ => (fo ρ).bind fun p => (lcL2 g t fi g1 t1 f vs vs1 p.1 (wipeD p.2 vs)).bind fun r => if r.1.length ≤ cap then some (.own (.own r.1), r.2) else none

theorem wipeD_len (ρ : Env) : ∀ vs, (wipeD ρ vs).length = ρ.length
  | [] => rfl
  | v :: vs => by rw [wipeD, List.length_set, wipeD_len ρ vs]
theorem wipeD_some {ρ : Env} {i : Nat} {d : D} : ∀ {vs : List Nat}, (wipeD ρ vs)[i]? = some (some d) → ρ[i]? = some (some d) ∧ i ∉ vs
  | [], h => ⟨h, by simp⟩
  | v :: vs, h => by
    rw [wipeD] at h
    by_cases hi : v = i
    · subst hi
      by_cases hv : v < (wipeD ρ vs).length
      · rw [List.getElem?_set_self hv] at h
        cases h
      · rw [List.getElem?_eq_none (by simpa using hv)] at h
        cases h
    · rw [List.getElem?_set_ne hi] at h
      obtain ⟨h1, h2⟩ := wipeD_some h
      exact ⟨h1, by simp only [List.mem_cons, not_or]; exact ⟨fun e => hi e.symm, h2⟩⟩
theorem wipe_in {σ : L2.St} {i : Nat} : ∀ {vs : List Nat}, i ∈ vs → i < σ.length → (wipe σ vs)[i]? = some none
  | v :: vs, h, hl => by
    unfold wipe
    by_cases hi : v = i
    · subst hi
      rw [List.getElem?_set_self (by rw [wipe_length]; exact hl)]
    · rw [List.getElem?_set_ne hi]
      refine wipe_in ?_ hl
      rcases List.mem_cons.mp h with e | e
      · exact absurd e.symm hi
      · exact e
theorem wipe_eq {σ σ2 : L2.St} {vs : List Nat} (a : Agr vs (wipe σ vs) σ2) : wipe σ2 vs = wipe σ vs := by
  have hl : σ2.length = σ.length := by rw [a.1, wipe_length]
  refine List.ext_getElem? fun i => ?_
  by_cases hi : i ∈ vs
  · by_cases hn : i < σ.length
    · rw [wipe_in hi hn, wipe_in hi (by rw [hl]; exact hn)]
    · rw [List.getElem?_eq_none (by rw [wipe_length, hl]; exact Nat.le_of_not_lt hn), List.getElem?_eq_none (by rw [wipe_length]; exact Nat.le_of_not_lt hn)]
  · rw [wipe_out hi, wipe_out hi, a.2 i hi, wipe_out hi]
section
variable {K : PySem.W.Frag} {W vs vs1 : List Nat} {G G1 G2 H H1 H2 : Hp} {F F1 F2 : Nat → Tp} {T T1 T2 : Tp} {ρ ρ1 ρe : Env} {σ σ1 : L2.St} {d : D} {v : V}
theorem Sim.wiped (S : Sim K G F H ρ σ) (vs : List Nat) : Sim K G F H (wipeD ρ vs) (wipe σ vs) :=
  ⟨by rw [wipeD_len, wipe_length]; exact S.len, S.gh, S.dis, S.fg, S.fh, fun i d e => by
    obtain ⟨h1, h2⟩ := wipeD_some e
    obtain ⟨v, q1, q2⟩ := S.slot i d h1
    exact ⟨v, by rw [wipe_out h2]; exact q1, q2⟩⟩
/-- the block's names are forgotten: the outer slots -/
theorem Sim.out (S : Sim K G F H ρ (wipe σ vs)) : Sim K G F H ρ σ :=
  ⟨by rw [S.len, wipe_length], S.gh, S.dis, S.fg, S.fh, fun i d e => by
    obtain ⟨v, q1, q2⟩ := S.slot i d e
    exact ⟨v, (wipe_some q1).1, q2⟩⟩
/-- within the block: wiped anew -/
theorem Sim.rewipe (S : Sim K G F H ρ σ1) (e : wipe σ1 vs = wipe σ vs) : Sim K G F H (wipeD ρ vs) (wipe σ vs) := by
  rw [← e]
  exact S.wiped vs
/-- what no place and nothing frozen holds may change -/
theorem Sim.mutT {p : Addr} {o : HO} (S : Sim K G F H ρ σ) (hf : ∀ i, ¬ F i p) (hg : G p = none) : Sim K G F (upd H p o) ρ σ := by
  refine ⟨S.len, fun a u e => ?_, S.dis, S.fg, fun i a h => ?_, fun i d e => ?_⟩
  · rw [upd_ne (ne_of_none e hg)]
    exact S.gh a u e
  · by_cases q : a = p
    · rw [q] at h
      exact absurd h (hf i)
    · rw [upd_ne q]
      exact S.fh i a h
  · obtain ⟨v, q1, q2⟩ := S.slot i d e
    exact ⟨v, q1, Rep.frame d v _ (Same.refl _) (fun a u t e => by rw [upd_ne fun z => hf i (by rw [← z]; exact t)]; exact e) q2⟩
/-- a comprehension's state: what stood ahead of it (at H1), its new list at p holds ads -/
structure LcAt (K : PySem.W.Frag) (G1 : Hp) (F1 : Nat → Tp) (H1 : Hp) (p : Addr) (ads : List D) (ρ : Env) (σ : L2.St) (G : Hp) (F : Nat → Tp) (H : Hp) : Prop where
  S : Sim K G F H ρ σ
  f : Fr G1 F1 H1 G F H (fun a => a = p)
  new : H1 p = none
  acc : ∃ vs, H p = some (.lst vs) ∧ Reps K G H ads vs Em
theorem LcAt.step {p : Addr} {ads : List D} (L : LcAt K G1 F1 H1 p ads ρ σ G F H) (S : Sim K G2 F2 H2 ρ1 σ1) (f : Fr G F H G2 F2 H2 T) : LcAt K G1 F1 H1 p ads ρ1 σ1 G2 F2 H2 := by
  obtain ⟨p1, p2, p3, p4, p5⟩ := f.temp L.f.tf L.f.tg L.f.th
  obtain ⟨vs, h1, h2⟩ := L.acc
  exact ⟨S, (L.f.trans f).less fun _ z => .inl z, L.new, vs, p5 p _ rfl h1, Reps.shared f.g h2⟩
theorem LcAt.add {p : Addr} {ads : List D} (L : LcAt K G1 F1 H1 p ads ρ σ G F H) {y : V} {d : D} (hy : Rep K G H d y Em) : ∃ vs, H p = some (.lst vs) ∧ vs.length = ads.length ∧ LcAt K G1 F1 H1 p (ads ++ [d]) ρ σ G F (upd H p (.lst (vs ++ [y]))) := by
  obtain ⟨vs, h1, h2⟩ := L.acc
  have hf : ∀ i, ¬ F i p := fun i z => L.f.tf p i rfl z
  refine ⟨vs, h1, h2.len, L.S.mutT hf (L.f.tg p rfl), ⟨L.f.g, fun a o e n => ?_, fun a e => ?_, L.f.nf, L.f.nt, L.f.ng, L.f.tf, L.f.tg, fun a e => by rw [e, upd_same]; exact fun z => nomatch z⟩, L.new, _, upd_same, ?_⟩
  · rw [upd_ne (ne_of_none e L.new)]
    exact L.f.keep a o e n
  · by_cases q : a = p
    · rw [q, upd_same]
      exact fun z => nomatch z
    · rw [upd_ne q]
      exact L.f.live a e
  · exact Reps.appE (Reps.shared (Same.refl _) h2) (Reps.one (Rep.shared (Same.refl _) hy))

theorem lc_loop {tg : TG} {tt : TT} {te : TE} {g : Eg} {t : Et} {f : Ex} (hg : GoodG K vs tg g) (ht : GoodT K tt t) (hf : GoodE K te f) {J : It} {ds ads ys : List D} {p : Addr}
    (e : lcL g t f vs ds ρ = some (ys, ρe)) (L : LcAt K G1 F1 H1 p ads ρ (wipe σ vs) G F H) (it : ItOk K J ds G) (hc : ads.length + ys.length ≤ cap)
    (Fin : Hp → Prop) (fin : ∀ G' F' H', LcAt K G1 F1 H1 p (ads ++ ys) ρe (wipe σ vs) G' F' H' → Same G G' → Fin H') :
    ∃ W1 : Nat → Nat → Hp → Prop, (∃ m, W1 0 m H) ∧ ∀ i m H, W1 i m H → (J.stop i H ∧ Fin H) ∨ (J.go i H ∧ ∃ Nx : Hp → Prop, (∀ H', Nx H' → ∃ m', m' < m ∧ W1 (i + 1) m' H') ∧ ∀ x H', J.yld i H x H' → tg x (wipe σ vs) H' fun σ2 H2 => wipe σ2 vs = wipe σ vs ∧ tt σ2 H2 fun b H3 =>
      if b = true then te σ2 H3 fun y H4 => ∃ acc, H4 p = some (.lst acc) ∧ acc.length < sizeLine ∧ Nx (upd H4 p (.lst (acc ++ [y]))) else Nx H3) := by
  refine ⟨fun i m H' => m = ds.length - i ∧ i ≤ ds.length ∧ ∃ ρ' G' F' as zs, LcAt K G1 F1 H1 p as ρ' (wipe σ vs) G' F' H' ∧ Same G G' ∧ lcL g t f vs (ds.drop i) ρ' = some (zs, ρe) ∧ as ++ zs = ads ++ ys,
    ⟨ds.length, by simp, Nat.zero_le _, ρ, G, F, ads, ys, L, Same.refl _, e, rfl⟩, ?_⟩
  rintro i m H' ⟨rfl, hle, ρ', G', F', as, zs, L', gs, e', ez⟩
  obtain ⟨stop, turn⟩ := it G' H' gs L'.S.gh
  by_cases hlt : i < ds.length
  · obtain ⟨go, yl⟩ := turn i hlt
    rw [List.drop_eq_getElem_cons hlt] at e'
    rw [lcL] at e'
    obtain ⟨ρ2, e2, e'⟩ := Option.bind_eq_some_iff.mp e'
    obtain ⟨⟨b, ρ3⟩, e3, e'⟩ := Option.bind_eq_some_iff.mp e'
    refine .inr ⟨go, fun H'' => ∃ ρ' G' F' as zs, LcAt K G1 F1 H1 p as ρ' (wipe σ vs) G' F' H'' ∧ Same G G' ∧ lcL g t f vs (ds.drop (i + 1)) ρ' = some (zs, ρe) ∧ as ++ zs = ads ++ ys, fun H'' n => ⟨ds.length - (i + 1), by omega, rfl, hlt, n⟩, fun x H2 y => ?_⟩
    obtain ⟨G2, d, x2, hd, hr⟩ := yl x H2 y
    rw [List.getElem?_eq_getElem hlt] at hd
    cases hd
    obtain ⟨S2, f2⟩ := L'.S.ext1 x2
    refine hg ds[i] ρ' ρ2 e2 G2 F' H2 _ x S2 hr _ fun F3 σ3 S3 f3 a3 => ⟨wipe_eq a3, ?_⟩
    have L3 := (L'.step S2 f2).step S3 f3
    have ew : wipe σ3 vs = wipe σ vs := wipe_eq a3
    refine ht ρ2 b ρ3 e3 G2 F3 H2 σ3 S3 _ fun G4 F4 H4 S4 f4 => ?_
    have L4 := L3.step S4 f4
    cases b with
    | true =>
      rw [if_pos rfl]
      obtain ⟨⟨r, ρ5⟩, e5, e'⟩ := Option.bind_eq_some_iff.mp (show (f ρ3).bind _ = some (zs, ρe) from e')
      obtain ⟨yd, e6, e'⟩ := Option.bind_eq_some_iff.mp e'
      obtain ⟨⟨zs', ρ6⟩, e7, e'⟩ := Option.map_eq_some_iff.mp e'
      cases e'
      refine hf ρ3 r ρ5 e5 G4 F4 H4 σ3 S4 _ fun yv G5 F5 H5 T5 S5 f5 h5 => ?_
      have L5 := L4.step (S5.rewipe ew) f5
      obtain ⟨acc, k1, k2, k3⟩ := L5.add (rval_ok e6 h5)
      refine ⟨acc, k1, ?_, _, G5, F5, as ++ [yd], zs', k3, (((gs.trans f2.g).trans f3.g).trans f4.g).trans f5.g, e7, by rw [List.append_assoc]; exact ez⟩
      have hz := congrArg List.length ez
      rw [List.length_append, List.length_append, List.length_cons] at hz
      exact cap_lt (by omega)
    | false =>
      rw [if_neg Bool.false_ne_true]
      exact ⟨_, G4, F4, as, zs, L4.step (S4.rewipe ew) (Fr.refl _ _ _), ((gs.trans f2.g).trans f3.g).trans f4.g, e', ez⟩
  · have hi2 : i = ds.length := by omega
    subst hi2
    refine .inl ⟨stop, ?_⟩
    rw [List.drop_length] at e'
    cases e'
    rw [List.append_nil] at ez
    rw [ez] at L'
    exact fin G' F' H' L' gs
end
end Den

namespace Den
open PySem PySem.Spec PyProof.Rows L2
section
variable {K : PySem.W.Frag} {W vs vs1 : List Nat} {G G1 G2 H H1 H2 : Hp} {F F1 F2 : Nat → Tp} {T T1 T2 : Tp} {ρ ρ1 ρe : Env} {σ σ1 : L2.St} {d : D} {v : V}
theorem LcAt.start {p : Addr} (S : Sim K G F H ρ σ) (hp : H p = none) (vs : List Nat) : LcAt K G F H p [] (wipeD ρ vs) (wipe σ vs) G F (upd H p (.lst [])) :=
  let ⟨a, b⟩ := S.newOwn (o := .lst []) hp; ⟨a.wiped vs, b, hp, [], upd_same, rfl⟩
theorem LcAt.fin {p : Addr} {ads : List D} (L : LcAt K G1 F1 H1 p ads ρ σ G F H) : Rep K G H (.own ads) (.ref p) (fun a => a = p) := by
  obtain ⟨vs, h1, h2⟩ := L.acc
  exact ⟨p, vs, Em, rfl, h1, rfl, fun _ z => z.elim, h2⟩
theorem good_lc {wi : TI} {tg : TG} {tt : TT} {te : TE} {fi : Ei} {g : Eg} {t : Et} {f : Ex} (hi : GoodI K wi fi) (hg : GoodG K vs tg g) (ht : GoodT K tt t) (hf : GoodE K te f) : GoodE K (tLc wi tg tt te vs) (xLc fi g t f vs) := by
  intro ρ r ρ' e G F H σ S Q q
  unfold xLc at e
  obtain ⟨⟨ds, ρ1⟩, e1, e⟩ := Option.bind_eq_some_iff.mp e
  obtain ⟨⟨ys, ρe⟩, e2, e⟩ := Option.bind_eq_some_iff.mp e
  by_cases hc : ys.length ≤ cap
  · rw [if_pos hc] at e
    cases e
    refine hi ρ ds ρ1 e1 G F H σ S _ fun J G1 F1 H1 S1 f1 it p hp => ?_
    refine lc_loop hg ht hf e2 (LcAt.start S1 hp vs) it (by simpa using hc) _ fun G' F' H' L _ => ?_
    exact q _ G' F' H' _ L.S.out (f1.seq L.f) L.fin
  · rw [if_neg hc] at e
    cases e
theorem good_lc2 {wi wi1 : TI} {tg tg1 : TG} {tt tt1 : TT} {te : TE} {fo fi : Ei} {g g1 : Eg} {t t1 : Et} {f : Ex} (ho : GoodI K wi fo) (hg : GoodG K vs tg g) (ht : GoodT K tt t) (hi : GoodI K wi1 fi) (hg1 : GoodG K vs1 tg1 g1) (ht1 : GoodT K tt1 t1) (hf : GoodE K te f) (hv : ∀ i ∈ vs1, i ∈ vs) :
    GoodE K (tLc2 wi tg tt wi1 tg1 tt1 te vs vs1) (xLc2 fo g t fi g1 t1 f vs vs1) := by
  intro ρ r ρ' e G F H σ S Q q
  unfold xLc2 at e
  obtain ⟨⟨ds, ρ1⟩, e1, e⟩ := Option.bind_eq_some_iff.mp e
  obtain ⟨⟨ys, ρe⟩, e2, e⟩ := Option.bind_eq_some_iff.mp e
  by_cases hc : ys.length ≤ cap
  · rw [if_pos hc] at e
    cases e
    refine ho ρ ds ρ1 e1 G F H σ S _ fun J G1 F1 H1 S1 f1 it p hp => ?_
    refine ⟨fun i m H' => m = ds.length - i ∧ i ≤ ds.length ∧ ∃ ρ' G' F' as zs, LcAt K G1 F1 H1 p as ρ' (wipe σ vs) G' F' H' ∧ Same G1 G' ∧ lcL2 g t fi g1 t1 f vs vs1 (ds.drop i) ρ' = some (zs, ρe) ∧ as ++ zs = ys,
      ⟨ds.length, by simp, Nat.zero_le _, _, G1, F1, [], ys, LcAt.start S1 hp vs, Same.refl _, e2, rfl⟩, ?_⟩
    rintro i m H' ⟨rfl, hle, ρ', G', F', as, zs, L', gs, e', ez⟩
    obtain ⟨stop, turn⟩ := it G' H' gs L'.S.gh
    by_cases hlt : i < ds.length
    · obtain ⟨go, yl⟩ := turn i hlt
      rw [List.drop_eq_getElem_cons hlt] at e'
      rw [lcL2] at e'
      obtain ⟨ρ2, e2, e'⟩ := Option.bind_eq_some_iff.mp e'
      obtain ⟨⟨b, ρ3⟩, e3, e'⟩ := Option.bind_eq_some_iff.mp e'
      refine .inr ⟨go, fun H'' => ∃ ρ' G' F' as zs, LcAt K G1 F1 H1 p as ρ' (wipe σ vs) G' F' H'' ∧ Same G1 G' ∧ lcL2 g t fi g1 t1 f vs vs1 (ds.drop (i + 1)) ρ' = some (zs, ρe) ∧ as ++ zs = ys, fun H'' n => ⟨ds.length - (i + 1), by omega, rfl, hlt, n⟩, fun x H2 y => ?_⟩
      obtain ⟨G2, d, x2, hd, hr⟩ := yl x H2 y
      rw [List.getElem?_eq_getElem hlt] at hd
      cases hd
      obtain ⟨S2, f2⟩ := L'.S.ext1 x2
      refine hg ds[i] ρ' ρ2 e2 G2 F' H2 _ x S2 hr _ fun F3 σ3 S3 f3 a3 => ⟨wipe_eq a3, ?_⟩
      have L3 := (L'.step S2 f2).step S3 f3
      have ew : wipe σ3 vs = wipe σ vs := wipe_eq a3
      refine ht ρ2 b ρ3 e3 G2 F3 H2 σ3 S3 _ fun G4 F4 H4 S4 f4 => ?_
      have L4 := L3.step S4 f4
      have g4 := ((gs.trans f2.g).trans f3.g).trans f4.g
      cases b with
      | true =>
        rw [if_pos rfl]
        obtain ⟨⟨es, ρ5⟩, e5, e'⟩ := Option.bind_eq_some_iff.mp (show (fi ρ3).bind _ = some (zs, ρe) from e')
        obtain ⟨⟨us, ρ6⟩, e6, e'⟩ := Option.bind_eq_some_iff.mp e'
        obtain ⟨⟨zs', ρ7⟩, e7, e'⟩ := Option.map_eq_some_iff.mp e'
        cases e'
        refine hi ρ3 es ρ5 e5 G4 F4 H4 σ3 S4 _ fun J1 G5 F5 H5 S5 f5 it1 => ?_
        have L5 := L4.step (S5.wiped vs1) f5
        have hz := congrArg List.length ez
        rw [List.length_append, List.length_append] at hz
        dsimp only at hz
        refine lc_loop hg1 ht1 hf e6 L5 it1 (by omega) _ fun G' F' H' L _ => ?_
        refine ⟨_, G', F', as ++ us, zs', L.step (L.S.out.rewipe ew) (Fr.refl _ _ _), ?_, e7, by rw [List.append_assoc]; exact ez⟩
        exact L.f.g
      | false =>
        rw [if_neg Bool.false_ne_true]
        exact ⟨_, G4, F4, as, zs, L4.step (S4.rewipe ew) (Fr.refl _ _ _), g4, e', ez⟩
    · have hi2 : i = ds.length := by omega
      subst hi2
      refine .inl ⟨stop, ?_⟩
      rw [List.drop_length] at e'
      cases e'
      rw [List.append_nil] at ez
      rw [ez] at L'
      exact q _ G' F' H' _ L'.S.out (f1.seq L'.f) L'.fin
  · rw [if_neg hc] at e
    cases e
theorem good_yes : GoodT K tYes qYes := by
  intro ρ b ρ' e G F H σ S Q q
  cases e
  exact q G F H S (Fr.refl _ _ _)
end

/-- a comprehension's block, whatever its frame -/
def BE (X : Cx) (scope : Scope) (e : Expr) (f : Ex) : Prop := ∀ (s : Shared) (H : Hp) (C : Addr) (cl : List (Str × Addr)) (fp : List Addr), AE (X.blk s H scope (compEnvC scope cl C X.env) fp) e f
def BT (X : Cx) (scope : Scope) (e : Expr) (f : Et) : Prop := ∀ (s : Shared) (H : Hp) (C : Addr) (cl : List (Str × Addr)) (fp : List Addr), AT (X.blk s H scope (compEnvC scope cl C X.env) fp) e f
def BG (X : Cx) (W : List Nat) (scope : Scope) (e : Expr) (f : Eg) : Prop := ∀ (s : Shared) (H : Hp) (C : Addr) (cl : List (Str × Addr)) (fp : List Addr), AG (X.blk s H scope (compEnvC scope cl C X.env) fp) W e f
def BI (X : Cx) (scope : Scope) (tg e : Expr) (f : Ei) : Prop := ∀ (s : Shared) (H : Hp) (C : Addr) (cl : List (Str × Addr)) (fp : List Addr), AI (X.blk s H scope (compEnvC scope cl C X.env) fp) tg e f
/-- the tests of a clause: none, or one -/
structure BTs (X : Cx) (scope : Scope) (es : List Expr) (f : Et) : Prop where
  ex : ∃ t, (∀ (s : Shared) (H : Hp) (C : Addr) (cl : List (Str × Addr)) (fp : List Addr), PTs (X.blk s H scope (compEnvC scope cl C X.env) fp) es t) ∧ GoodT X.K t f
section
variable {X : Cx} {e : Expr} {f : Ex} {t t1 : Et} {g g1 : Eg} {fi fo : Ei} {W : List Nat}
theorem bts_nil {scope : Scope} : BTs X scope [] qYes := ⟨tYes, fun _ _ _ _ _ => pts_nil, good_yes⟩
theorem bts_one {scope : Scope} (h : BT X scope e t) : BTs X scope [e] t := ⟨tOfT X.K t, fun s H C cl fp => pts_one (h s H C cl fp).canon, canon_T⟩
theorem ae_lc {elt tg iter : Expr} {ifs : List Expr} {scope : Scope} {own : List (Str × Nat)} {pos : Pos} (hc : X.calm = true) (hN : X.N.Nodup) (hi : AI X tg iter fi) (ok : BlkOk X.N X.env.scope scope own) (hg : BG X (own.map (·.2)) scope tg g) (ht : BTs X scope ifs t) (he : BE X scope elt f)
    (hs : ∀ x, foldedSetIterable iter X.env x = pure x := by intro _; rfl) : AE X (.ListComp elt [⟨tg, iter, ifs, 0⟩] scope pos) (xLc fi g t f (own.map (·.2))) :=
  let ⟨_, p, q⟩ := ht; ⟨_, pe_lc hc hN hi.canon ok (fun s H C cl fp => (hg s H C cl fp).canon) p (fun s H C cl fp => (he s H C cl fp).canon) hs, good_lc canon_I canon_G q canon_E⟩
theorem as_setLc {i : Nat} {y : Str} {py : Pos} {elt tg iter : Expr} {ifs : List Expr} {scope : Scope} {own : List (Str × Nat)} {pos spos : Pos} (hc : X.calm = true) (hN : X.N.Nodup) (hy : X.N[i]? = some y) (hyl : X.env.scope.names.lookup y = some .local)
    (hsw : swapsWith (.ListComp elt [⟨tg, iter, ifs, 0⟩] scope pos) (some (.Name y py)) spos.line X.env = pure true) (hi : AI X tg iter fi) (ok : BlkOk X.N X.env.scope scope own) (hg : BG X (own.map (·.2)) scope tg g) (ht : BTs X scope ifs t) (he : BE X scope elt f) (hw : i ∈ W := by decide)
    (hs : ∀ x, foldedSetIterable iter X.env x = pure x := by intro _; rfl) : AS X W (.Assign [.Name y py] (.ListComp elt [⟨tg, iter, ifs, 0⟩] scope pos) spos) (sSet i (xFz (xLc fi g t f (own.map (·.2))))) :=
  let ⟨_, p, q⟩ := ht; ⟨_, ps_setLc hc hN hy hyl hsw hi.canon ok (fun s H C cl fp => (hg s H C cl fp).canon) p (fun s H C cl fp => (he s H C cl fp).canon) hs, good_set hw (good_fz (good_lc canon_I canon_G q canon_E))⟩
theorem ae_lc2 {elt tg iter tg1 iter1 : Expr} {ifs ifs1 : List Expr} {scope : Scope} {own : List (Str × Nat)} {vs1 : List Nat} {pos : Pos} (hc : X.calm = true) (hN : X.N.Nodup) (ho : AI X tg iter fo) (ok : BlkOk X.N X.env.scope scope own) (hv : ∀ i ∈ vs1, i ∈ own.map (·.2)) (hg : BG X (own.map (·.2)) scope tg g) (ht : BTs X scope ifs t)
    (hi : BI X scope tg1 iter1 fi) (hg1 : BG X vs1 scope tg1 g1) (ht1 : BTs X scope ifs1 t1) (he : BE X scope elt f) (hs : ∀ x, foldedSetIterable iter X.env x = pure x := by intro _; rfl) (hs1 : ∀ env x, foldedSetIterable iter1 env x = pure x := by intro _ _; rfl) :
    AE X (.ListComp elt [⟨tg, iter, ifs, 0⟩, ⟨tg1, iter1, ifs1, 0⟩] scope pos) (xLc2 fo g t fi g1 t1 f (own.map (·.2)) vs1) :=
  let ⟨_, p, q⟩ := ht; let ⟨_, p1, q1⟩ := ht1; ⟨_, pe_lc2 hc hN ho.canon ok hv (fun s H C cl fp => (hg s H C cl fp).canon) p (fun s H C cl fp => (hi s H C cl fp).canon) (fun s H C cl fp => (hg1 s H C cl fp).canon) p1 (fun s H C cl fp => (he s H C cl fp).canon) hs hs1, good_lc2 canon_I canon_G q canon_I canon_G q1 canon_E hv⟩
end

/-! ### paths: what is held within a place -/
def addrAt (H : Hp) : V → List Nat → Option Addr
  | .ref a, [] => some a
  | .ref a, j :: π => match H a with
    | some (.lst vs) => (vs[j]?).bind fun v => addrAt H v π
    | _ => none
  | _, _ => none
def getP : D → List Nat → Option D
  | d, [] => some d
  | .own ds, j :: π => (ds[j]?).bind fun d => getP d π
  | _, _ :: _ => none
def setP : D → List Nat → D → D
  | _, [], x => x
  | .own ds, j :: π, x => match ds[j]? with
    | some d => .own (ds.set j (setP d π x))
    | none => .own ds
  | d, _ :: _, _ => d
section
variable {K : PySem.W.Frag} {W vs vs1 : List Nat} {G G1 G2 H H1 H2 : Hp} {F F1 F2 : Nat → Tp} {T T1 T2 : Tp} {ρ ρ1 ρe : Env} {σ σ1 : L2.St} {d : D} {v : V}
theorem Reps.split : ∀ {ds : List D} {vs : List V} {T : Tp} {j : Nat} {d : D}, Reps K G H ds vs T → ds[j]? = some d → ∃ (v : V) (U Wo : Tp), vs[j]? = some v ∧ Rep K G H d v U ∧ (∀ b, U b → T b) ∧ (∀ b, Wo b → T b) ∧ (∀ b, U b → Wo b → False) ∧
    ∀ (H' : Hp) (d' : D) (U' : Tp), (∀ b o, Wo b → H b = some o → H' b = some o) → (∀ b, U' b → Wo b → False) → Rep K G H' d' v U' → Reps K G H' (ds.set j d') vs (fun b => U' b ∨ Wo b)
  | [], vs, T, j, d, h, e => by simp at e
  | x :: ds, vs, T, j, d, h, e => by
    obtain ⟨v, r, U, W, rfl, hu, hw, hd, h1, h2⟩ := h
    cases j with
    | zero =>
      have e1 : x = d := by simpa using e
      subst e1
      refine ⟨v, U, W, rfl, h1, hu, hw, hd, fun H' d' U' k nd hr => ?_⟩
      exact ⟨v, r, U', W, rfl, fun _ z => .inl z, fun _ z => .inr z, nd, hr, Reps.frame ds r W (Same.refl _) k h2⟩
    | succ j =>
      obtain ⟨v', U1, W1, q1, q2, q3, q4, q5, q6⟩ := Reps.split (j := j) h2 (by simpa using e)
      refine ⟨v', U1, fun b => U b ∨ W1 b, by simpa using q1, q2, fun b z => hw b (q3 b z), fun b z => z.elim (fun y => hu b y) (fun y => hw b (q4 b y)), fun b z y => y.elim (fun w => hd b w (q3 b z)) (fun w => q5 b z w), fun H' d' U' k nd hr => ?_⟩
      refine ⟨v, r, U, fun b => U' b ∨ W1 b, rfl, fun b z => .inr (.inl z), fun b z => z.elim .inl (fun y => .inr (.inr y)), fun b z y => y.elim (fun w => nd b w (.inl z)) (fun w => hd b z (q4 b w)), Rep.frame x v U (Same.refl _) (fun b o z e => k b o (.inl z) e) h1, ?_⟩
      exact q6 H' d' U' (fun b o z e => k b o (.inr z) e) (fun b z y => nd b z (.inr y)) hr
theorem Rep.path : ∀ (π : List Nat) (d : D) (v : V) (T : Tp) (ds : List D), getP d π = some (.own ds) → Rep K G H d v T →
    ∃ (a : Addr) (vs : List V) (U : Tp), addrAt H v π = some a ∧ H a = some (.lst vs) ∧ T a ∧ (∀ b, U b → T b ∧ b ≠ a) ∧ Reps K G H ds vs U ∧
      ∀ (T' : Tp) (ds' : List D) (vs' : List V) (U' : Tp), (∀ b, T' b → T b → False) → (∀ b, U' b → U b ∨ T' b) → Reps K G (upd H a (.lst vs')) ds' vs' U' → Rep K G (upd H a (.lst vs')) (setP d π (.own ds')) v (fun b => T b ∨ T' b)
  | [], d, v, T, ds, e, h => by
    have e1 : d = .own ds := Option.some.inj e
    subst e1
    obtain ⟨a, vs, U, rfl, ha, ta, hu, hr⟩ := h
    refine ⟨a, vs, U, rfl, ha, ta, hu, hr, fun T' ds' vs' U' nt hU hr' => ?_⟩
    refine ⟨a, vs', U', rfl, upd_same, .inl ta, fun b z => ?_, hr'⟩
    rcases hU b z with y | y
    · exact ⟨.inl (hu b y).1, (hu b y).2⟩
    · exact ⟨.inr y, fun q => nt b y (by rw [q]; exact ta)⟩
  | j :: π, d, v, T, ds, e, h => by
    cases d with
    | own es =>
      obtain ⟨d1, e1, e2⟩ := Option.bind_eq_some_iff.mp (show (es[j]?).bind (fun d => getP d π) = some (D.own ds) from e)
      obtain ⟨a0, vs0, U0, rfl, ha0, ta0, hu0, hr0⟩ := h
      obtain ⟨v1, U1, W1, q1, q2, q3, q4, q5, q6⟩ := Reps.split hr0 e1
      obtain ⟨a, vs, U, k1, k2, k3, k4, k5, k6⟩ := Rep.path π d1 v1 U1 ds e2 q2
      refine ⟨a, vs, U, ?_, k2, (hu0 a (q3 a k3)).1, fun b z => ⟨(hu0 b (q3 b (k4 b z).1)).1, (k4 b z).2⟩, k5, fun T' ds' vs' U' nt hU hr' => ?_⟩
      · show (match H a0 with
          | some (.lst vs) => (vs[j]?).bind fun v => addrAt H v π
          | _ => none) = some a
        rw [ha0]
        show (vs0[j]?).bind _ = _
        rw [q1]
        exact k1
      · have k := k6 T' ds' vs' U' (fun b z y => nt b z (hu0 b (q3 b y)).1) hU hr'
        have na : a0 ≠ a := fun z => (hu0 a (q3 a k3)).2 z.symm
        have hs := q6 (upd H a (.lst vs')) (setP d1 π (.own ds')) (fun b => U1 b ∨ T' b) (fun b o z e => by rw [upd_ne fun y => q5 a k3 (by rw [← y]; exact z)]; exact e)
          (fun b z y => z.elim (fun w => q5 b w y) (fun w => nt b w (hu0 b (q4 b y)).1)) k
        show Rep K G _ (match es[j]? with
          | some d => .own (es.set j (setP d π (.own ds')))
          | none => .own es) _ _
        rw [e1]
        refine ⟨a0, vs0, _, rfl, by rw [upd_ne na]; exact ha0, .inl ta0, fun b z => ?_, hs⟩
        rcases z with (z | z) | z
        · exact ⟨.inl (hu0 b (q3 b z)).1, (hu0 b (q3 b z)).2⟩
        · exact ⟨.inr z, fun y => nt b z (by rw [y]; exact ta0)⟩
        · exact ⟨.inl (hu0 b (q4 b z)).1, (hu0 b (q4 b z)).2⟩
    | _ => cases e
/-- what is held at a place's path is made anew -/
theorem Sim.path {i : Nat} {t : D} {π : List Nat} {ds : List D} (S : Sim K G F H ρ σ) (ht : ρ[i]? = some (some t)) (hp : getP t π = some (.own ds)) :
    ∃ (v0 : V) (a : Addr) (vs : List V) (U : Tp), σ[i]? = some (some v0) ∧ addrAt H v0 π = some a ∧ H a = some (.lst vs) ∧ (∀ b, U b → F i b ∧ b ≠ a) ∧ Reps K G H ds vs U ∧
      ∀ (G0 : Hp) (F0 : Nat → Tp) (H0 : Hp) (T : Tp) (ds' : List D) (vs' : List V) (U' : Tp), Fr G0 F0 H0 G F H T → (∀ b, U' b → U b ∨ T b) → Reps K G (upd H a (.lst vs')) ds' vs' U' →
        Sim K G (fun j => if j = i then fun b => F i b ∨ T b else F j) (upd H a (.lst vs')) (ρ.set i (some (setP t π (.own ds')))) σ ∧ Fr G0 F0 H0 G (fun j => if j = i then fun b => F i b ∨ T b else F j) (upd H a (.lst vs')) Em := by
  obtain ⟨v0, hv0, hr⟩ := S.slot i t ht
  obtain ⟨a, vs, U, k1, k2, k3, k4, k5, k6⟩ := Rep.path π t v0 (F i) ds hp hr
  refine ⟨v0, a, vs, U, hv0, k1, k2, k4, k5, fun G0 F0 H0 T ds' vs' U' f hU hr' => ?_⟩
  have sub : ∀ j b, (if j = i then fun b => F i b ∨ T b else F j) b → F j b ∨ (j = i ∧ T b) := fun j b h => by
    by_cases q : j = i
    · rw [if_pos q] at h
      rcases h with h | h
      · exact .inl (by rw [q]; exact h)
      · exact .inr ⟨q, h⟩
    · rw [if_neg q] at h
      exact .inl h
  have alive : ∀ b, H b ≠ none → (upd H a (.lst vs')) b ≠ none := fun b h => by
    by_cases q : b = a
    · rw [q, upd_same]
      exact fun z => nomatch z
    · rw [upd_ne q]
      exact h
  refine ⟨⟨by rw [List.length_set]; exact S.len, fun b o e => ?_, fun j k b h1 h2 => ?_, fun j b h => ?_, fun j b h => alive b ?_, fun j x e => ?_⟩, ⟨f.g, fun b o e n => ?_, fun b h => alive b (f.live b h), fun j b h => ?_, fun _ z => z.elim, f.ng, fun _ _ z => z.elim, fun _ z => z.elim, fun _ z => z.elim⟩⟩
  · rw [upd_ne (ne_of_none e (S.fg i a k3))]
    exact S.gh b o e
  · rcases sub j b h1 with t1 | ⟨q1, t1⟩ <;> rcases sub k b h2 with t2 | ⟨q2, t2⟩
    · exact S.dis j k b t1 t2
    · exact absurd t1 (f.tf b j t2)
    · exact absurd t2 (f.tf b k t1)
    · rw [q1, q2]
  · rcases sub j b h with t1 | ⟨_, t1⟩
    · exact S.fg j b t1
    · exact f.tg b t1
  · rcases sub j b h with t1 | ⟨_, t1⟩
    · exact S.fh j b t1
    · exact f.th b t1
  · by_cases q : j = i
    · subst q
      have hj : j < (ρ.set j (some (setP t π (.own ds')))).length := (List.getElem?_eq_some_iff.mp e).1
      rw [List.length_set] at hj
      rw [List.getElem?_set_self hj] at e
      have e1 : setP t π (.own ds') = x := Option.some.inj (Option.some.inj e)
      subst e1
      exact ⟨v0, hv0, by rw [if_pos rfl]; exact k6 T ds' vs' U' (fun b z y => f.tf b j z y) hU hr'⟩
    · rw [List.getElem?_set_ne (fun z => q z.symm)] at e
      obtain ⟨y, h1, h2⟩ := S.slot j x e
      exact ⟨y, h1, by rw [if_neg q]; exact Rep.frame x y _ (Same.refl _) (fun b o t e => by rw [upd_ne fun z => q (S.dis j i a (by rw [← z]; exact t) k3)]; exact e) h2⟩
  · rw [upd_ne (fun z => ?_)]
    · exact f.keep b o e n
    · rw [z] at e n
      rcases f.nf i a k3 with ⟨j, y⟩ | y
      · exact n j y
      · rw [e] at y
        cases y
  · rcases sub j b h with t1 | ⟨_, t1⟩
    · exact f.nf j b t1
    · exact f.nt b t1

/-! ### what is read without a change -/
abbrev Ek := Env → Option Int
abbrev Eq' := Env → Option D
abbrev Ep := Env → Option (Nat × List Nat)
def GoodK (K : PySem.W.Frag) (t : TE) (k : Ek) : Prop := ∀ ρ i, k ρ = some i → ∀ G F H σ, Sim K G F H ρ σ → ∀ Q : VK, Q (.int i) H → t σ H Q
def GoodP (K : PySem.W.Frag) (t : TE) (q : Eq') : Prop := ∀ ρ d, q ρ = some d → ∀ G F H σ, Sim K G F H ρ σ → ∀ Q : VK, (∀ v, Rep K G H d v Em → Q v H) → t σ H Q
def GoodL (K : PySem.W.Frag) (t : TE) (p : Ep) : Prop := ∀ ρ i π, p ρ = some (i, π) → ∀ G F H σ, Sim K G F H ρ σ → ∀ Q : VK, (∀ v0 a, σ[i]? = some (some v0) → addrAt H v0 π = some a → Q (.ref a) H) → t σ H Q
structure AK (X : Cx) (e : Expr) (f : Ek) : Prop where
  ex : ∃ t, PE X e t ∧ GoodK X.K t f
structure AP (X : Cx) (e : Expr) (f : Eq') : Prop where
  ex : ∃ t, PE X e t ∧ GoodP X.K t f
structure AL (X : Cx) (e : Expr) (f : Ep) : Prop where
  ex : ∃ t, PE X e t ∧ GoodL X.K t f
def kC (i : Int) : Ek := fun _ => some i
def kV (i : Nat) : Ek := fun ρ => (gt ρ i).bind fun d => match d with
  | .int z => some z
  | _ => none
def pV (i : Nat) : Eq' := fun ρ => (gt ρ i).bind fun d => if d.flat then some d else none
def pC (d : D) : Eq' := fun _ => some d
def lV (i : Nat) : Ep := fun ρ => (gt ρ i).bind fun d => match d with
  | .own _ => some (i, [])
  | _ => none
def lIx (p : Ep) (k : Ek) : Ep := fun ρ => (p ρ).bind fun w => (k ρ).bind fun z => (gt ρ w.1).bind fun d => (getP d w.2).bind fun e => match e with
  | .own ds => (ixN ds.length z).bind fun j => (ds[j]?).bind fun c => match c with
    | .own _ => some (w.1, w.2 ++ [j])
    | _ => none
  | _ => none
theorem good_kc {i : Int} : GoodK K (tC (.int i)) (kC i) := by
  intro ρ z e G F H σ S Q q
  cases e
  exact q
theorem good_kn {i : Int} : GoodK K (tUn (rU fun i => .int (-i)) (tC (.int i))) (kC (-i)) := by
  intro ρ z e G F H σ S Q q
  cases e
  exact ⟨i, rfl, q⟩
theorem good_kv {i : Nat} : GoodK K (tVar i) (kV i) := by
  intro ρ z e G F H σ S Q q
  unfold kV at e
  obtain ⟨d, e1, e⟩ := Option.bind_eq_some_iff.mp e
  split at e
  · cases e
    obtain ⟨v, h1, h2⟩ := S.slot i _ (gt_some e1)
    cases h2
    exact ⟨_, h1, q⟩
  · cases e
theorem good_pv {i : Nat} : GoodP K (tVar i) (pV i) := by
  intro ρ d e G F H σ S Q q
  unfold pV at e
  obtain ⟨x, e1, e⟩ := Option.bind_eq_some_iff.mp e
  by_cases f : x.flat = true
  · rw [if_pos f] at e
    cases e
    obtain ⟨v, h1, h2⟩ := S.slot i _ (gt_some e1)
    exact ⟨v, h1, q v (Rep.flat f h2)⟩
  · rw [if_neg f] at e
    cases e
theorem good_pc (h : ∀ G H, Rep K G H d v Em) : GoodP K (tC v) (pC d) := by
  intro ρ x e G F H σ S Q q
  cases e
  exact q v (h G H)
theorem good_lv {i : Nat} : GoodL K (tVar i) (lV i) := by
  intro ρ j π e G F H σ S Q q
  unfold lV at e
  obtain ⟨x, e1, e⟩ := Option.bind_eq_some_iff.mp e
  split at e
  · cases e
    obtain ⟨v, h1, h2⟩ := S.slot i _ (gt_some e1)
    obtain ⟨a, vs, U, rfl, _⟩ := h2
    exact ⟨_, h1, q _ a h1 rfl⟩
  · cases e
theorem addr_app {H : Hp} : ∀ (π : List Nat) (v : V) (a : Addr) (vs : List V) (j : Nat) (w : V), addrAt H v π = some a → H a = some (.lst vs) → vs[j]? = some w → addrAt H v (π ++ [j]) = addrAt H w []
  | [], v, a, vs, j, w, e, h, g => by
    cases v with
    | ref b =>
      have e1 : b = a := Option.some.inj e
      subst e1
      show (match H b with
          | some (.lst vs) => (vs[j]?).bind fun v => addrAt H v []
          | _ => none) = _
      rw [h]
      show (vs[j]?).bind _ = _
      rw [g]
      rfl
    | _ => cases e
  | i :: π, v, a, vs, j, w, e, h, g => by
    cases v with
    | ref b =>
      have e1 : (match H b with
          | some (.lst vs) => (vs[i]?).bind fun v => addrAt H v π
          | _ => none) = some a := e
      show (match H b with
          | some (.lst vs) => (vs[i]?).bind fun v => addrAt H v (π ++ [j])
          | _ => none) = _
      split at e1
      · obtain ⟨u, k1, k2⟩ := Option.bind_eq_some_iff.mp e1
        rw [k1]
        exact addr_app π u a vs j w k2 h g
      · cases e1
    | _ => cases e
theorem good_lix {tp tk : TE} {p : Ep} {k : Ek} (hp : GoodL K tp p) (hk : GoodK K tk k) : GoodL K (tOp (rIxL K) tp tk) (lIx p k) := by
  intro ρ i0 π0 e G F H σ S Q q
  unfold lIx at e
  obtain ⟨⟨i, π⟩, e1, e⟩ := Option.bind_eq_some_iff.mp e
  obtain ⟨z, e2, e⟩ := Option.bind_eq_some_iff.mp e
  obtain ⟨d, e3, e⟩ := Option.bind_eq_some_iff.mp e
  obtain ⟨x, e4, e⟩ := Option.bind_eq_some_iff.mp e
  split at e
  · rename_i ds
    obtain ⟨j, e5, e⟩ := Option.bind_eq_some_iff.mp e
    obtain ⟨c, e6, e⟩ := Option.bind_eq_some_iff.mp e
    split at e
    · cases e
      obtain ⟨v0, a, vs, U, k1, k2, k3, k4, k5, _⟩ := S.path (gt_some e3) e4
      refine hp ρ i π e1 G F H σ S _ fun w0 b h1 h2 => ?_
      rw [k1] at h1
      cases h1
      rw [k2] at h2
      cases h2
      refine hk ρ z e2 G F H σ S _ ?_
      obtain ⟨w, g1, g2⟩ := k5.get e6
      obtain ⟨a', vs', U', rfl, _⟩ := g2
      refine ⟨a, vs, z, .ref a', rfl, rfl, .of k3, ?_, q v0 a' k1 ?_⟩
      · unfold atI
        rw [k5.len, e5]
        exact g1
      · rw [addr_app π v0 a vs j _ k2 k3 g1]
        rfl
    · cases e
  · cases e

/-! ### stores and methods that change -/
def sSto (f : Ex) (p : Ep) (k : Ek) : Es := fun ρ => (f ρ).bind fun w => (rOwn w.1).bind fun d => (p w.2).bind fun l => (k w.2).bind fun z => (gt w.2 l.1).bind fun t => (getP t l.2).bind fun e => match e with
  | .own ds => (ixN ds.length z).map fun j => .nx (w.2.set l.1 (some (setP t l.2 (.own (ds.set j d)))))
  | _ => none
def xApp (i : Nat) (f : Ex) : Ex := fun ρ => (lV i ρ).bind fun _ => (f ρ).bind fun w => (rOwn w.1).bind fun d => (gt w.2 i).bind fun t => match t with
  | .own ds => if ds.length < cap then some (.v .non, w.2.set i (some (.own (ds ++ [d])))) else none
  | _ => none
def xExt (i : Nat) (f : Ex) : Ex := fun ρ => (lV i ρ).bind fun _ => (f ρ).bind fun w => match w.1 with
  | .v (.lst es) => (gt w.2 i).bind fun t => match t with
    | .own ds => if ds.length + es.length ≤ cap then some (.v .non, w.2.set i (some (.own (ds ++ es)))) else none
    | _ => none
  | _ => none
def xAppP (p : Ep) (q : Eq') : Ex := fun ρ => (p ρ).bind fun l => (q ρ).bind fun d => (gt ρ l.1).bind fun t => (getP t l.2).bind fun e => match e with
  | .own ds => if ds.length < cap then some (.v .non, ρ.set l.1 (some (setP t l.2 (.own (ds ++ [d]))))) else none
  | _ => none
theorem rown_ok {r : R} (e : rOwn r = some d) (h : RepR K G H σ T r v) : Rep K G H d v T := by
  cases r with
  | v x =>
    cases e
    exact Rep.mono _ _ _ _ (fun _ z => z.elim) h
  | own x =>
    cases e
    exact h
  | «at» i => cases e
theorem good_sto {te tp tk : TE} {f : Ex} {p : Ep} {k : Ek} (hf : GoodE K te f) (hp : GoodL K tp p) (hk : GoodK K tk k) : GoodS K W (tAsg te (gSub tp tk rSetL)) (sSto f p k) := by
  intro ρ o e G F H σ S D post
  unfold sSto at e
  obtain ⟨⟨r1, ρ1⟩, e1, e⟩ := Option.bind_eq_some_iff.mp e
  obtain ⟨d, e2, e⟩ := Option.bind_eq_some_iff.mp e
  obtain ⟨⟨i, π⟩, e3, e⟩ := Option.bind_eq_some_iff.mp e
  obtain ⟨z, e4, e⟩ := Option.bind_eq_some_iff.mp e
  obtain ⟨t, e5, e⟩ := Option.bind_eq_some_iff.mp e
  obtain ⟨x, e6, e⟩ := Option.bind_eq_some_iff.mp e
  split at e
  · rename_i ds
    obtain ⟨j, e7, e⟩ := Option.map_eq_some_iff.mp e
    subst e
    refine hf ρ r1 ρ1 e1 G F H σ S _ fun v1 G1 F1 H1 T1 S1 f1 h1 => ?_
    have hd := rown_ok e2 h1
    obtain ⟨v0, a, vs, U, k1, k2, k3, k4, k5, k6⟩ := S1.path (gt_some e5) e6
    refine hp ρ1 i π e3 G1 F1 H1 σ S1 _ fun w0 b h1 h2 => ?_
    rw [k1] at h1
    cases h1
    rw [k2] at h2
    cases h2
    refine hk ρ1 z e4 G1 F1 H1 σ S1 _ ⟨a, vs, z, j, rfl, rfl, k3, by rw [k5.len]; exact e7, ?_⟩
    have fa : F1 i a := by
      cases hU : (Classical.em (F1 i a)) with
      | inl h => exact h
      | inr h =>
        obtain ⟨w, q1, q2⟩ := S1.slot i t (gt_some e5)
        rw [k1] at q1
        cases q1
        obtain ⟨a', _, _, g1, _, g3, _⟩ := Rep.path π t v0 (F1 i) ds e6 q2
        rw [k2] at g1
        cases g1
        exact g3
    have up : ∀ b o, b ≠ a → H1 b = some o → (upd H1 a (.lst (vs.set j v1))) b = some o := fun b o n e => by
      rw [upd_ne n]
      exact e
    obtain ⟨S2, f2⟩ := k6 G F H T1 (ds.set j d) (vs.set j v1) (fun b => U b ∨ T1 b) f1 (fun b h => h)
      (Reps.set j (Reps.frame ds vs U (Same.refl _) (fun b o h e => up b o (k4 b h).2 e) k5) (Rep.frame d v1 T1 (Same.refl _) (fun b o h e => up b o (fun q => f1.tf b i h (by rw [q]; exact fa)) e) hd) (fun _ h => .inl h) (fun _ h => .inr h) (fun b h h' => f1.tf b i h' (k4 b h).1))
    exact post _ _ _ σ S2 f2 (Agr.refl _ _)
  · cases e
theorem good_app {i : Nat} {te : TE} {f : Ex} (hf : GoodE K te f) : GoodE K (tBM K "list" rAppend (tVar i) (tCons te tNil)) (xApp i f) := by
  intro ρ r ρ' e G F H σ S Q post
  unfold xApp at e
  obtain ⟨l, e0, e⟩ := Option.bind_eq_some_iff.mp e
  obtain ⟨⟨r1, ρ1⟩, e1, e⟩ := Option.bind_eq_some_iff.mp e
  obtain ⟨d, e2, e⟩ := Option.bind_eq_some_iff.mp e
  obtain ⟨t, e3, e⟩ := Option.bind_eq_some_iff.mp e
  split at e
  · rename_i ds
    by_cases hc : ds.length < cap
    · rw [if_pos hc] at e
      cases e
      unfold lV at e0
      obtain ⟨x0, g0, e0⟩ := Option.bind_eq_some_iff.mp e0
      split at e0
      · obtain ⟨v, h1, h2⟩ := S.slot i _ (gt_some g0)
        obtain ⟨a0, vs0, U0, rfl, ha0, _⟩ := h2
        refine ⟨_, h1, .inl ⟨rfl, vs0, .of ha0⟩, ?_⟩
        refine hf ρ r1 ρ1 e1 G F H σ S _ fun v1 G1 F1 H1 T1 S1 f1 h3 => ?_
        have hd := rown_ok e2 h3
        obtain ⟨v0, a, vs, U, k1, k2, k3, k4, k5, k6⟩ := S1.path (π := []) (gt_some e3) rfl
        rw [h1] at k1
        cases k1
        cases k2
        have fa : F1 i a0 := by
          obtain ⟨w, q1, q2⟩ := S1.slot i _ (gt_some e3)
          rw [h1] at q1
          cases q1
          obtain ⟨a', _, _, g1, _, g3, _⟩ := q2
          cases g1
          exact g3
        have up : ∀ b o, b ≠ a0 → H1 b = some o → (upd H1 a0 (.lst (vs ++ [v1]))) b = some o := fun b o n e => by
          rw [upd_ne n]
          exact e
        obtain ⟨S2, f2⟩ := k6 G F H T1 (ds ++ [d]) (vs ++ [v1]) (fun b => U b ∨ T1 b) f1 (fun b h => h)
          (Reps.app (Reps.frame ds vs U (Same.refl _) (fun b o h e => up b o (k4 b h).2 e) k5) (Reps.one (Rep.frame d v1 T1 (Same.refl _) (fun b o h e => up b o (fun q => f1.tf b i h (by rw [q]; exact fa)) e) hd)) (fun _ h => .inl h) (fun _ h => .inr h) (fun b h h' => f1.tf b i h' (k4 b h).1))
        exact ⟨a0, vs, v1, rfl, rfl, k3, by rw [k5.len]; exact cap_lt (Nat.le_of_lt hc), post _ _ _ _ Em S2 f2 rfl⟩
      · cases e0
    · rw [if_neg hc] at e
      cases e
  · cases e
theorem good_ext {i : Nat} {te : TE} {f : Ex} (hf : GoodE K te f) : GoodE K (tBM K "list" rExtend (tVar i) (tCons te tNil)) (xExt i f) := by
  intro ρ r ρ' e G F H σ S Q post
  unfold xExt at e
  obtain ⟨l, e0, e⟩ := Option.bind_eq_some_iff.mp e
  obtain ⟨⟨r1, ρ1⟩, e1, e⟩ := Option.bind_eq_some_iff.mp e
  dsimp only at e
  split at e
  · rename_i es
    obtain ⟨t, e3, e⟩ := Option.bind_eq_some_iff.mp e
    split at e
    · rename_i ds
      by_cases hc : ds.length + es.length ≤ cap
      · rw [if_pos hc] at e
        cases e
        unfold lV at e0
        obtain ⟨x0, g0, e0⟩ := Option.bind_eq_some_iff.mp e0
        split at e0
        · obtain ⟨v, h1, h2⟩ := S.slot i _ (gt_some g0)
          obtain ⟨a0, vs0, U0, rfl, ha0, _⟩ := h2
          refine ⟨_, h1, .inl ⟨rfl, vs0, .of ha0⟩, ?_⟩
          refine hf ρ _ ρ1 e1 G F H σ S _ fun v1 G1 F1 H1 T1 S1 f1 h3 => ?_
          obtain ⟨b1, ws, rfl, hb, hw⟩ := h3
          obtain ⟨v0, a, vs, U, k1, k2, k3, k4, k5, k6⟩ := S1.path (π := []) (gt_some e3) rfl
          rw [h1] at k1
          cases k1
          cases k2
          have up : ∀ b o, b ≠ a0 → H1 b = some o → (upd H1 a0 (.lst (vs ++ ws))) b = some o := fun b o n e => by
            rw [upd_ne n]
            exact e
          obtain ⟨S2, f2⟩ := k6 G F H Em (ds ++ es) (vs ++ ws) U f1.em (fun b h => .inl h)
            (Reps.app (Reps.frame ds vs U (Same.refl _) (fun b o h e => up b o (k4 b h).2 e) k5) (Reps.shared (Same.refl _) hw) (fun _ h => h) (fun _ h => h.elim) (fun b h h' => h'))
          have hl1 := k5.len
          have hl2 := hw.len
          exact ⟨a0, b1, vs, ws, rfl, rfl, k3, S1.gh _ _ hb, Nat.le_of_lt (cap_lt (by omega)), post _ _ _ _ Em S2 f2 rfl⟩
        · cases e0
      · rw [if_neg hc] at e
        cases e
    · cases e
  · cases e
theorem good_appP {tp tq : TE} {p : Ep} {qf : Eq'} (hp : GoodL K tp p) (hq : GoodP K tq qf) : GoodE K (tBM K "list" rAppend tp (tCons tq tNil)) (xAppP p qf) := by
  intro ρ r ρ' e G F H σ S Q post
  unfold xAppP at e
  obtain ⟨⟨i, π⟩, e1, e⟩ := Option.bind_eq_some_iff.mp e
  obtain ⟨d, e2, e⟩ := Option.bind_eq_some_iff.mp e
  obtain ⟨t, e3, e⟩ := Option.bind_eq_some_iff.mp e
  obtain ⟨x, e4, e⟩ := Option.bind_eq_some_iff.mp e
  split at e
  · rename_i ds
    by_cases hc : ds.length < cap
    · rw [if_pos hc] at e
      cases e
      obtain ⟨v0, a, vs, U, k1, k2, k3, k4, k5, k6⟩ := S.path (gt_some e3) e4
      refine hp ρ i π e1 G F H σ S _ fun w0 b h1 h2 => ?_
      rw [k1] at h1
      cases h1
      rw [k2] at h2
      cases h2
      refine ⟨.inl ⟨rfl, vs, .of k3⟩, hq ρ d e2 G F H σ S _ fun v1 hd => ?_⟩
      have up : ∀ b o, b ≠ a → H b = some o → (upd H a (.lst (vs ++ [v1]))) b = some o := fun b o n e => by
        rw [upd_ne n]
        exact e
      obtain ⟨S2, f2⟩ := k6 G F H Em (ds ++ [d]) (vs ++ [v1]) U (Fr.refl _ _ _) (fun b h => .inl h)
        (Reps.app (Reps.frame ds vs U (Same.refl _) (fun b o h e => up b o (k4 b h).2 e) k5) (Reps.one (Rep.shared (Same.refl _) hd)) (fun _ h => h) (fun _ h => h.elim) (fun b h h' => h'))
      exact ⟨a, vs, v1, rfl, rfl, k3, by rw [k5.len]; exact cap_lt (Nat.le_of_lt hc), post _ _ _ _ Em S2 f2 rfl⟩
    · rw [if_neg hc] at e
      cases e
  · cases e
end
end Den

namespace Den
open PySem PySem.Spec PyProof.Rows L2

theorem str_len (s : List Nat) : (⟨s.toArray⟩ : Str).length = s.length := by simp [Str.length]
theorem str_app (a b : List Nat) : (⟨a.toArray⟩ : Str) ++ ⟨b.toArray⟩ = ⟨(a ++ b).toArray⟩ := by
  show Str.append _ _ = _
  simp [Str.append]
theorem str_inj {a b : List Nat} : ((⟨a.toArray⟩ : Str) = ⟨b.toArray⟩) ↔ a = b := by
  constructor
  · intro h
    have e := congrArg Str.cps h
    simpa using e
  · intro h
    rw [h]

/-! ### arithmetic -/
def bigOk (i : Int) : Bool := decide (-(2 ^ 64) < i) && decide (i < 2 ^ 64)
theorem bigOk_of {i : Int} (h : bigOk i = true) : -(2 ^ 64) < i ∧ i < 2 ^ 64 := by
  unfold bigOk at h
  rw [Bool.and_eq_true, decide_eq_true_eq, decide_eq_true_eq] at h
  exact h
def sm63 (i : Int) : Bool := decide (-(2 ^ 62) ≤ i) && decide (i < 2 ^ 62)
def dAdd : D → D → Option D
  | .int i, .int j => some (.int (i + j))
  | .str x, .str y => if x.length + y.length ≤ cap then some (.str (x ++ y)) else none
  | .lst x, .lst y => if x.length + y.length ≤ cap then some (.lst (x ++ y)) else none
  | _, _ => none
def dSub : D → D → Option D
  | .int i, .int j => some (.int (i - j))
  | _, _ => none
def dMul : D → D → Option D
  | .int i, .int j => if bigOk i || bigOk j then some (.int (i * j)) else none
  | .lst x, .int k => if small k && decide (x.length * k.toNat ≤ cap) then some (.lst (List.replicate k.toNat x).flatten) else none
  | .str x, .int k => if small k && decide (x.length * k.toNat ≤ cap) then some (.str (List.replicate k.toNat x).flatten) else none
  | _, _ => none
def dMod : D → D → Option D
  | .int i, .int j => if 0 < j then some (.int (i % j)) else none
  | _, _ => none
def dDiv : D → D → Option D
  | .int i, .int j => if 0 < j ∧ j < 1073741824 then some (.int (i / j)) else none
  | _, _ => none
def dPow : D → D → Option D
  | .int i, .int j => if 0 ≤ j ∧ j ≤ 1000000 ∧ i.natAbs < 2 ^ 64 then some (.int (i ^ j.toNat)) else none
  | _, _ => none
def dNeg : D → Option D
  | .int i => some (.int (-i))
  | _ => none
def rAddD : R2 := fun x y H Q => rI0 (fun i j => .int (i + j)) x y H Q ∨ ((∃ i j, x = .str i ∧ y = .str j ∧ i.length + j.length ≤ sizeLine ∧ Q (.str (i ++ j)) H) ∨ rCat x y H Q)
def rMulS : R2 := fun x y H Q => ∃ (z : List Nat) (k : Int), x = .str ⟨z.toArray⟩ ∧ y = .int k ∧ -(2 ^ 62) ≤ k ∧ k < 2 ^ 62 ∧ z.length * k.toNat ≤ cap ∧ Q (.str ⟨(List.replicate k.toNat z).flatten.toArray⟩) H
def rMulD : R2 := fun x y H Q => rI CMul (fun i j => .int (i * j)) x y H Q ∨ rRep x y H Q ∨ rMulS x y H Q
section
variable {X : Cx} {K : PySem.W.Frag}
theorem opr_add : OpR X (binaryOp .Add) rAddD := op_add.or (op_add_str.or op_cat)
theorem mul_foldl (z : List Nat) : ∀ (k : Nat) (acc : Array Nat), (List.replicate k z.toArray).foldl (· ++ ·) acc = (acc.toList ++ (List.replicate k z).flatten).toArray
  | 0, acc => by simp
  | k + 1, acc => by
    rw [List.replicate_succ, List.foldl_cons, mul_foldl z k, List.replicate_succ, List.flatten_cons]
    simp
theorem mul_txt (z : List Nat) (k : Int) : Txt.mul (⟨z.toArray⟩ : Str) k = ⟨(List.replicate k.toNat z).flatten.toArray⟩ := by
  unfold Txt.mul
  by_cases h1 : k < 1
  · rw [if_pos h1, show k.toNat = 0 by omega]
    rfl
  rw [if_neg h1]
  by_cases h2 : (k == 1 || (⟨z.toArray⟩ : Str).length == 0) = true
  · rw [if_pos h2]
    rw [Bool.or_eq_true, beq_iff_eq, beq_iff_eq] at h2
    rcases h2 with h2 | h2
    · subst h2
      simp
    · have : z = [] := by
        have h3 : z.length = 0 := by rw [← str_len z]; exact h2
        exact List.length_eq_zero_iff.mp h3
      subst this
      simp
  · rw [if_neg h2]
    show (⟨(List.replicate k.toNat z.toArray).foldl (· ++ ·) #[]⟩ : Str) = _
    rw [mul_foldl]
    simp
theorem op_mulS : OpR X (binaryOp .Mult) rMulS := by
  intro pins s σ H x y v u Q I rx ry h
  obtain ⟨z, k, rfl, rfl, h1, h2, hz, q⟩ := h
  obtain ⟨t, rfl⟩ := rx
  obtain ⟨t', rfl⟩ := ry
  have fits : Builtin.Str.tooLong ((⟨z.toArray⟩ : Str).length * k.toNat) = false := by
    rw [str_len]
    unfold Builtin.Str.tooLong
    have := cap_lt hz
    exact decide_eq_false (by omega)
  refine SB.mul ⟨?_, fun h3 _ => ?_, fun _ _ => fits⟩ fun t' tk => ?_
  · rw [Bool.or_eq_false_iff]
    exact ⟨decide_eq_false (by omega), decide_eq_false (by omega)⟩
  · rw [str_len]
    have hz2 : z.length * k.toNat ≤ 1000000 := hz
    have h5 : ((z.length * k.toNat : Nat) : Int) = (z.length : Int) * k := by
      rw [Int.natCast_mul, Int.toNat_of_nonneg (by omega)]
    have h6 : (z.length : Int) * k ≤ 1000000 := by rw [← h5]; omega
    have : (z.length : Int) ≤ (2 ^ 63 - 1) / k := Int.le_ediv_of_mul_le (by omega) (by omega)
    omega
  · rw [mul_txt]
    exact ⟨.str _, H, I.tok _, ⟨_, rfl⟩, q⟩
theorem opr_mul : OpR X (binaryOp .Mult) rMulD := op_mul.or (op_rep.or op_mulS)
theorem gd_add : GoodR K rAddD dAdd := by
  intro x y z e G H vx vy Tx Ty gh hx hy Q q
  unfold dAdd at e
  split at e
  · rename_i i j
    cases e
    cases hx
    cases hy
    exact .inl ⟨i, j, rfl, rfl, q.here rfl⟩
  · rename_i a b
    split at e
    · rename_i hc
      cases e
      cases hx
      cases hy
      refine .inr (.inl ⟨_, _, rfl, rfl, by rw [str_len, str_len]; exact Nat.le_of_lt (cap_lt hc), ?_⟩)
      rw [str_app]
      exact q.here rfl
    · cases e
  · rename_i a b
    split at e
    · rename_i hc
      cases e
      obtain ⟨p, vs, rfl, hp, hr⟩ := hx
      obtain ⟨p', ws, rfl, hp', hr'⟩ := hy
      refine .inr (.inr ⟨p, p', vs, ws, rfl, rfl, gh _ _ hp, gh _ _ hp', by rw [hr.len, hr'.len]; exact Nat.le_of_lt (cap_lt hc), fun n hn => ?_⟩)
      exact q.lst gh hn (Reps.appE hr hr')
    · cases e
  · cases e
theorem gd_sub : GoodR K (rI0 fun i j => .int (i - j)) dSub := by
  intro x y z e G H vx vy Tx Ty gh hx hy Q q
  unfold dSub at e
  split at e
  · rename_i i j
    cases e
    cases hx
    cases hy
    exact ⟨i, j, rfl, rfl, q.here rfl⟩
  · cases e
theorem Reps.rep {G H : Hp} {ds : List D} {vs : List V} (h : Reps K G H ds vs Em) : ∀ k : Nat, Reps K G H (List.replicate k ds).flatten (List.replicate k vs).flatten Em
  | 0 => rfl
  | k + 1 => by
    rw [List.replicate_succ, List.replicate_succ, List.flatten_cons, List.flatten_cons]
    exact Reps.appE h (Reps.rep h k)
theorem gd_mul : GoodR K rMulD dMul := by
  intro x y z e G H vx vy Tx Ty gh hx hy Q q
  unfold dMul at e
  split at e
  · rename_i i j
    split at e
    · rename_i hc
      cases e
      cases hx
      cases hy
      rw [Bool.or_eq_true] at hc
      exact .inl ⟨i, j, rfl, rfl, hc.imp bigOk_of bigOk_of, q.here rfl⟩
    · cases e
  · rename_i a k
    split at e
    · rename_i hc
      cases e
      obtain ⟨p, vs, rfl, hp, hr⟩ := hx
      cases hy
      rw [Bool.and_eq_true, decide_eq_true_eq] at hc
      obtain ⟨b1, b2⟩ := small_of hc.1
      exact .inr (.inl ⟨p, k, vs, rfl, rfl, gh _ _ hp, by omega, by omega, by rw [hr.len]; exact Nat.le_of_lt (cap_lt hc.2), fun n hn => q.lst gh hn (Reps.rep hr _)⟩)
    · cases e
  · rename_i z k
    split at e
    · rename_i hc
      cases e
      cases hx
      cases hy
      rw [Bool.and_eq_true, decide_eq_true_eq] at hc
      obtain ⟨b1, b2⟩ := small_of hc.1
      exact .inr (.inr ⟨z, k, rfl, rfl, b1, b2, hc.2, q.here rfl⟩)
    · cases e
  · cases e
theorem gd_mod : GoodR K (rI (fun _ j => 0 < j) fun i j => .int (i % j)) dMod := by
  intro x y z e G H vx vy Tx Ty gh hx hy Q q
  unfold dMod at e
  split at e
  · rename_i i j
    split at e
    · rename_i hc
      cases e
      cases hx
      cases hy
      exact ⟨i, j, rfl, rfl, hc, q.here rfl⟩
    · cases e
  · cases e
theorem gd_div : GoodR K (rI CDiv fun i j => .int (i / j)) dDiv := by
  intro x y z e G H vx vy Tx Ty gh hx hy Q q
  unfold dDiv at e
  split at e
  · rename_i i j
    split at e
    · rename_i hc
      cases e
      cases hx
      cases hy
      exact ⟨i, j, rfl, rfl, hc, q.here rfl⟩
    · cases e
  · cases e
theorem gd_pow : GoodR K (rI CPow fun i j => .int (i ^ j.toNat)) dPow := by
  intro x y z e G H vx vy Tx Ty gh hx hy Q q
  unfold dPow at e
  split at e
  · rename_i i j
    split at e
    · rename_i hc
      cases e
      cases hx
      cases hy
      exact ⟨i, j, rfl, rfl, hc, q.here rfl⟩
    · cases e
  · cases e
theorem gd_neg : GoodU K (rU fun i => .int (-i)) dNeg := by
  intro x z e G H vx Tx gh hx Q q
  unfold dNeg at e
  split at e
  · rename_i i
    cases e
    cases hx
    exact ⟨i, rfl, q.here rfl⟩
  · cases e
end

/-! ### == -/
def sEq : D → D → Option Bool
  | .non, .non => some true
  | .bl a, .bl b => some (decide (a = b))
  | .int a, .int b => some (decide (a = b))
  | .str a, .str b => some (decide (a = b))
  | .non, .int _ => some false
  | .non, .bl _ => some false
  | .non, .str _ => some false
  | .int _, .non => some false
  | .bl _, .non => some false
  | .str _, .non => some false
  | .int _, .str _ => some false
  | .str _, .int _ => some false
  | .bl _, .str _ => some false
  | .str _, .bl _ => some false
  | _, _ => none
mutual
def py : D → PyData
  | .non => .none
  | .bl b => .bool b
  | .int i => .int i
  | .str s => .str ⟨s.toArray⟩
  | .ty _ => .none
  | .lst ds => .list (pys ds)
  | .rd ds => .list (pys ds)
  | .own ds => .list (pys ds)
  | .tup ds => .tuple (pys ds)
def pys : List D → List PyData
  | [] => []
  | d :: ds => py d :: pys ds
end
mutual
def noTy : D → Bool
  | .ty _ => false
  | .lst ds => noTys ds
  | .rd ds => noTys ds
  | .own ds => noTys ds
  | .tup ds => noTys ds
  | .non => true
  | .bl _ => true
  | .int _ => true
  | .str _ => true
def noTys : List D → Bool
  | [] => true
  | d :: ds => noTy d && noTys ds
end
def okD (d : D) : Bool := noTy d && SeqAt.shaped (py d)
def bEq (x y : D) : Option Bool := match sEq x y with
  | some b => some b
  | none => if okD x && okD y then some (PyData.eqv (py x) (py y)) else none
def dEq (x y : D) : Option D := (bEq x y).map .bl
def dNe (x y : D) : Option D := (bEq x y).map fun b => .bl (!b)
section
variable {X : Cx} {K : PySem.W.Frag} {G H : Hp} {T Tx Ty : Tp}
theorem sEq_ok {x y : D} {b : Bool} {vx vy : V} (e : sEq x y = some b) (hx : Rep K G H x vx Tx) (hy : Rep K G H y vy Ty) : scal vx vy = true ∧ decide (vx = vy) = b := by
  cases x <;> cases y <;> first
    | (cases e; done)
    | (cases e; cases hx; cases hy; exact ⟨rfl, by simp [V.str.injEq, Str.mk.injEq]⟩)
    | (cases e; cases hx; cases hy; exact ⟨rfl, by simp⟩)
mutual
theorem rep_dp : ∀ (d : D) (v : V) (T : Tp), noTy d = true → Same G H → Rep K G H d v T → Dp K H v (py d)
  | .non, v, T, n, g, h => by cases h; exact .non
  | .bl b, v, T, n, g, h => by cases h; exact .bl b
  | .int i, v, T, n, g, h => by cases h; exact .int i
  | .str s, v, T, n, g, h => by cases h; exact .str _
  | .ty s, v, T, n, g, h => by cases n
  | .lst ds, v, T, n, g, h => by
    obtain ⟨a, vs, rfl, ha, hr⟩ := h
    unfold py
    exact .lst (.of (g _ _ ha)) (rep_dps ds vs Em n g hr)
  | .rd ds, v, T, n, g, h => by
    obtain ⟨a, vs, rfl, ha, hr⟩ := h
    unfold py
    exact .lst (g.seq ha) (rep_dps ds vs Em n g hr)
  | .own ds, v, T, n, g, h => by
    obtain ⟨a, vs, U, rfl, ha, _, _, hr⟩ := h
    unfold py
    exact .lst (.of ha) (rep_dps ds vs U n g hr)
  | .tup ds, v, T, n, g, h => by
    obtain ⟨a, vs, rfl, ha, hr⟩ := h
    unfold py
    exact .tup (same_sqT g ha) (rep_dps ds vs Em n g hr)
theorem rep_dps : ∀ (ds : List D) (vs : List V) (T : Tp), noTys ds = true → Same G H → Reps K G H ds vs T → DpAll K H vs (pys ds)
  | [], vs, T, n, g, h => by
    rw [show vs = [] from h]
    exact .nil
  | d :: ds, vs, T, n, g, h => by
    obtain ⟨v, r, U, W, rfl, hu, hw, hd, h1, h2⟩ := h
    rw [noTys, Bool.and_eq_true] at n
    unfold pys
    exact .cons (rep_dp d v U n.1 g h1) (rep_dps ds r W n.2 g h2)
end
def rEqA (K : PySem.W.Frag) : R2 := fun x y H Q => rEq x y H Q ∨ rEqD K x y H Q
def rNeA (K : PySem.W.Frag) : R2 := fun x y H Q => rNe x y H Q ∨ rNeD K x y H Q
theorem opr_eq (hu : X.A.units + 64 < cLine) : OpR X (compareOp .Eq) (rEqA X.K) := op_eq.or (op_eqD hu)
theorem opr_ne (hu : X.A.units + 64 < cLine) : OpR X (compareOp .NotEq) (rNeA X.K) := op_ne.or (op_neD hu)
theorem bEq_ok {x y : D} {b : Bool} {vx vy : V} (gh : Same G H) (e : bEq x y = some b) (hx : Rep K G H x vx Tx) (hy : Rep K G H y vy Ty) :
    (scal vx vy = true ∧ decide (vx = vy) = b) ∨ ∃ d d', Dp K H vx d ∧ Dp K H vy d' ∧ SeqAt.shaped d = true ∧ SeqAt.shaped d' = true ∧ PyData.eqv d d' = b := by
  unfold bEq at e
  split at e
  · rename_i c hc
    cases e
    exact .inl (sEq_ok hc hx hy)
  · split at e
    · rename_i hok
      cases e
      unfold okD at hok
      rw [Bool.and_eq_true, Bool.and_eq_true, Bool.and_eq_true] at hok
      exact .inr ⟨_, _, rep_dp x vx Tx hok.1.1 gh hx, rep_dp y vy Ty hok.2.1 gh hy, hok.1.2, hok.2.2, rfl⟩
    · cases e
theorem gd_eq : GoodR K (rEqA K) dEq := by
  intro x y z e G H vx vy Tx Ty gh hx hy Q q
  obtain ⟨b, e1, e2⟩ := Option.map_eq_some_iff.mp e
  subst e2
  rcases bEq_ok gh e1 hx hy with ⟨h1, h2⟩ | ⟨d, d', h1, h2, h3, h4, h5⟩
  · exact .inl ⟨h1, by rw [h2]; exact q.here rfl⟩
  · exact .inr ⟨d, d', h1, h2, h3, h4, by rw [h5]; exact q.here rfl⟩
theorem gd_ne : GoodR K (rNeA K) dNe := by
  intro x y z e G H vx vy Tx Ty gh hx hy Q q
  obtain ⟨b, e1, e2⟩ := Option.map_eq_some_iff.mp e
  subst e2
  rcases bEq_ok gh e1 hx hy with ⟨h1, h2⟩ | ⟨d, d', h1, h2, h3, h4, h5⟩
  · exact .inl ⟨h1, by rw [h2]; exact q.here rfl⟩
  · exact .inr ⟨d, d', h1, h2, h3, h4, by rw [h5]; exact q.here rfl⟩

/-! ### order -/
def dLt : D → D → Option D
  | .int i, .int j => some (.bl (decide (i < j)))
  | _, _ => none
def dLe : D → D → Option D
  | .int i, .int j => some (.bl (decide (i ≤ j)))
  | .str x, .str y => some (.bl (!decide (y < x)))
  | _, _ => none
def dGt : D → D → Option D
  | .int i, .int j => some (.bl (decide (j < i)))
  | _, _ => none
def dGe : D → D → Option D
  | .int i, .int j => some (.bl (decide (j ≤ i)))
  | _, _ => none
def rLeA : R2 := fun x y H Q => rI0 (fun i j => .bl (decide (i ≤ j))) x y H Q ∨ (∃ i j, x = .str i ∧ y = .str j ∧ Q (.bl (!decide (j.cps.toList < i.cps.toList))) H)
theorem opr_le : OpR X (compareOp .LtE) rLeA := op_le.or op_le_str
theorem gd_lt : GoodR K (rI0 fun i j => .bl (decide (i < j))) dLt := by
  intro x y z e G H vx vy Tx Ty gh hx hy Q q
  unfold dLt at e
  split at e
  · rename_i i j
    cases e
    cases hx
    cases hy
    exact ⟨i, j, rfl, rfl, q.here rfl⟩
  · cases e
theorem gd_gt : GoodR K (rI0 fun i j => .bl (decide (j < i))) dGt := by
  intro x y z e G H vx vy Tx Ty gh hx hy Q q
  unfold dGt at e
  split at e
  · rename_i i j
    cases e
    cases hx
    cases hy
    exact ⟨i, j, rfl, rfl, q.here rfl⟩
  · cases e
theorem gd_ge : GoodR K (rI0 fun i j => .bl (decide (j ≤ i))) dGe := by
  intro x y z e G H vx vy Tx Ty gh hx hy Q q
  unfold dGe at e
  split at e
  · rename_i i j
    cases e
    cases hx
    cases hy
    exact ⟨i, j, rfl, rfl, q.here rfl⟩
  · cases e
theorem gd_le : GoodR K rLeA dLe := by
  intro x y z e G H vx vy Tx Ty gh hx hy Q q
  unfold dLe at e
  split at e
  · rename_i i j
    cases e
    cases hx
    cases hy
    exact .inl ⟨i, j, rfl, rfl, q.here rfl⟩
  · cases e
    cases hx
    cases hy
    exact .inr ⟨_, _, rfl, rfl, q.here rfl⟩
  · cases e

/-! ### is -/
def isNon : D → Bool
  | .non => true
  | _ => false
def dIs : D → D → Option D
  | x, .non => some (.bl (isNon x))
  | .bl a, .bl b => some (.bl (decide (a = b)))
  | _, _ => none
def dIsNot : D → D → Option D
  | x, .non => some (.bl (!isNon x))
  | .bl a, .bl b => some (.bl (!decide (a = b)))
  | _, _ => none
def rIsA : R2 := fun x y H Q => (y = .non ∧ Q (.bl (decide (x = .non))) H) ∨ rIsB x y H Q
def rIsNotA : R2 := fun x y H Q => (y = .non ∧ Q (.bl (!decide (x = .non))) H) ∨ rNotB x y H Q
theorem opr_is : OpR X (compareOp .Is) rIsA := op_isN.or op_isBl
theorem opr_isnot : OpR X (compareOp .IsNot) rIsNotA := op_notN.or op_notBl
theorem isNon_ok {x : D} {v : V} (h : Rep K G H x v T) : decide (v = .non) = isNon x := by
  cases x with
  | non => cases h; rfl
  | bl _ => cases h; rfl
  | int _ => cases h; rfl
  | str _ => cases h; rfl
  | ty _ => cases h; rfl
  | lst _ => obtain ⟨a, vs, rfl, _⟩ := h; rfl
  | tup _ => obtain ⟨a, vs, rfl, _⟩ := h; rfl
  | rd _ => obtain ⟨a, vs, rfl, _⟩ := h; rfl
  | own _ => obtain ⟨a, vs, U, rfl, _⟩ := h; rfl
theorem gd_is : GoodR K rIsA dIs := by
  intro x y z e G H vx vy Tx Ty gh hx hy Q q
  unfold dIs at e
  split at e
  · cases e
    cases hy
    exact .inl ⟨rfl, by rw [isNon_ok hx]; exact q.here rfl⟩
  · cases e
    cases hx
    cases hy
    exact .inr ⟨_, _, rfl, rfl, q.here rfl⟩
  · cases e
theorem gd_isnot : GoodR K rIsNotA dIsNot := by
  intro x y z e G H vx vy Tx Ty gh hx hy Q q
  unfold dIsNot at e
  split at e
  · cases e
    cases hy
    exact .inl ⟨rfl, by rw [isNon_ok hx]; exact q.here rfl⟩
  · cases e
    cases hx
    cases hy
    exact .inr ⟨_, _, rfl, rfl, q.here rfl⟩
  · cases e

/-! ### in -/
def isSc : D → Bool
  | .non => true
  | .bl _ => true
  | .int _ => true
  | .str _ => true
  | _ => false
def scEq : D → D → Bool
  | .non, .non => true
  | .bl a, .bl b => a == b
  | .bl a, .int b => (if a then 1 else 0) == b
  | .int a, .bl b => a == (if b then 1 else 0)
  | .int a, .int b => a == b
  | .str a, .str b => a == b
  | _, _ => false
theorem sc_ok {x : D} {v : V} (s : isSc x = true) (h : Rep K G H x v T) : flatV v = true := by
  cases x <;> first
    | (cases h; rfl)
    | cases s
theorem scEq_ok {x y : D} {vx vy : V} (sx : isSc x = true) (sy : isSc y = true) (hx : Rep K G H x vx Tx) (hy : Rep K G H y vy Ty) : eqV vy vx = scEq y x := by
  cases x <;> first
    | (cases sx; done)
    | (cases hx
       cases y <;> first
        | (cases sy; done)
        | (cases hy; rfl)
        | (cases hy; show ((⟨_⟩ : Str) == ⟨_⟩) = _; rw [Bool.eq_iff_iff]; simp [scEq, Str.mk.injEq]))
theorem any_ok {x : D} {vx : V} (sx : isSc x = true) (hx : Rep K G H x vx Tx) : ∀ {ys : List D} {vs : List V} {T : Tp}, ys.all isSc = true → Reps K G H ys vs T → vs.all flatV = true ∧ inV vx vs = ys.any fun y => scEq y x
  | [], vs, T, s, h => by
    rw [show vs = [] from h]
    exact ⟨rfl, rfl⟩
  | y :: ys, vs, T, s, h => by
    obtain ⟨v, r, U, W, rfl, hu, hw, hd, h1, h2⟩ := h
    rw [List.all_cons, Bool.and_eq_true] at s
    obtain ⟨i1, i2⟩ := any_ok sx hx s.2 h2
    refine ⟨by rw [List.all_cons, sc_ok s.1 h1, i1] <;> rfl, ?_⟩
    show (eqV v vx || inV vx r) = _
    rw [i2, scEq_ok sx s.1 hx h1, List.any_cons]
def seqOf : D → Option (List D)
  | .lst ds => some ds
  | .rd ds => some ds
  | .own ds => some ds
  | .tup ds => some ds
  | _ => none
theorem seqOf_ok {d : D} {v : V} {ds : List D} (gh : Same G H) (e : seqOf d = some ds) (h : Rep K G H d v T) : ∃ a vs U, v = .ref a ∧ (SqL K H a vs ∨ SqT K H a vs) ∧ Reps K G H ds vs U := by
  cases d with
  | lst xs => cases e; obtain ⟨a, vs, rfl, ha, hr⟩ := h; exact ⟨a, vs, _, rfl, .inl (.of (gh _ _ ha)), hr⟩
  | rd xs => cases e; obtain ⟨a, vs, rfl, ha, hr⟩ := h; exact ⟨a, vs, _, rfl, .inl (gh.seq ha), hr⟩
  | own xs => cases e; obtain ⟨a, vs, U, rfl, ha, _, _, hr⟩ := h; exact ⟨a, vs, U, rfl, .inl (.of ha), hr⟩
  | tup xs => cases e; obtain ⟨a, vs, rfl, ha, hr⟩ := h; exact ⟨a, vs, _, rfl, .inr (same_sqT gh ha), hr⟩
  | _ => cases e
def bIn (x y : D) : Option Bool := match x, y with
  | .str [c], .str s => some (decide (c ∈ s))
  | _, _ => (seqOf y).bind fun ys => if isSc x && ys.all isSc then some (ys.any fun z => scEq z x) else
    match y with
    | .lst _ => if okD x && okD y then some ((pys ys).any fun z => PyData.eqv z (py x)) else none
    | _ => none
def dIn (x y : D) : Option D := (bIn x y).map .bl
def dNotIn (x y : D) : Option D := (bIn x y).map fun b => .bl (!b)
end
end Den

namespace Den
open PySem PySem.Spec PyProof.Rows L2
section
variable {X : Cx} {K : PySem.W.Frag} {G H : Hp} {T Tx Ty : Tp}
def rInA (K : PySem.W.Frag) : R2 := fun x y H Q => (∃ (c : Nat) (z : Str), x = .str ⟨#[c]⟩ ∧ y = .str z ∧ Q (.bl (decide (c ∈ z.cps.toList))) H) ∨ (rIn K false x y H Q ∨ rInD K x y H Q)
def rNotInA (K : PySem.W.Frag) : R2 := fun x y H Q => (∃ (c : Nat) (z : Str), x = .str ⟨#[c]⟩ ∧ y = .str z ∧ Q (.bl (!decide (c ∈ z.cps.toList))) H) ∨ (rIn K true x y H Q ∨ rNotInD K x y H Q)
theorem opr_in (hu : X.A.units + 65 < cLine) : OpR X (compareOp .In) (rInA X.K) := op_in_sign.or (op_in_seq.or (op_inD hu))
theorem opr_notin (hu : X.A.units + 65 < cLine) : OpR X (compareOp .NotIn) (rNotInA X.K) := op_notIn_sign.or (op_notIn_seq.or (op_notInD hu))
theorem bIn_ok {x y : D} {b : Bool} {vx vy : V} (gh : Same G H) (e : bIn x y = some b) (hx : Rep K G H x vx Tx) (hy : Rep K G H y vy Ty) :
    (∃ (c : Nat) (z : Str), vx = .str ⟨#[c]⟩ ∧ vy = .str z ∧ decide (c ∈ z.cps.toList) = b) ∨ (∃ p xs, vy = .ref p ∧ (SqL K H p xs ∨ SqT K H p xs) ∧ flatV vx = true ∧ xs.all flatV = true ∧ inV vx xs = b) ∨
      ∃ d ds, Dp K H vx d ∧ Dp K H vy (.list ds) ∧ SeqAt.shaped d = true ∧ SeqAt.shaped (.list ds) = true ∧ (ds.any fun z => PyData.eqv z d) = b := by
  unfold bIn at e
  split at e
  · cases e
    cases hx
    cases hy
    exact .inl ⟨_, _, rfl, rfl, rfl⟩
  · obtain ⟨ys, e1, e⟩ := Option.bind_eq_some_iff.mp e
    split at e
    · rename_i hs
      cases e
      rw [Bool.and_eq_true] at hs
      obtain ⟨a, vs, U, rfl, hq, hr⟩ := seqOf_ok gh e1 hy
      obtain ⟨h1, h2⟩ := any_ok hs.1 hx hs.2 hr
      exact .inr (.inl ⟨a, vs, rfl, hq, sc_ok hs.1 hx, h1, h2⟩)
    · split at e
      · split at e
        · rename_i hok
          cases e
          cases e1
          unfold okD at hok
          rw [Bool.and_eq_true, Bool.and_eq_true, Bool.and_eq_true] at hok
          have k := rep_dp _ vy Ty hok.2.1 gh hy
          unfold py at k
          have s := hok.2.2
          unfold py at s
          exact .inr (.inr ⟨_, _, rep_dp x vx Tx hok.1.1 gh hx, k, hok.1.2, s, rfl⟩)
        · cases e
      · cases e
theorem gd_in : GoodR K (rInA K) dIn := by
  intro x y z e G H vx vy Tx Ty gh hx hy Q q
  obtain ⟨b, e1, e2⟩ := Option.map_eq_some_iff.mp e
  subst e2
  rcases bIn_ok gh e1 hx hy with ⟨c, z, h1, h2, h3⟩ | ⟨p, xs, h1, h2, h3, h4, h5⟩ | ⟨d, ds, h1, h2, h3, h4, h5⟩
  · exact .inl ⟨c, z, h1, h2, by rw [h3]; exact q.here rfl⟩
  · exact .inr (.inl ⟨p, xs, h1, h2, h3, h4, by rw [if_neg Bool.false_ne_true, h5]; exact q.here rfl⟩)
  · exact .inr (.inr ⟨d, ds, h1, h2, h3, h4, by rw [h5]; exact q.here rfl⟩)
theorem gd_notin : GoodR K (rNotInA K) dNotIn := by
  intro x y z e G H vx vy Tx Ty gh hx hy Q q
  obtain ⟨b, e1, e2⟩ := Option.map_eq_some_iff.mp e
  subst e2
  rcases bIn_ok gh e1 hx hy with ⟨c, z, h1, h2, h3⟩ | ⟨p, xs, h1, h2, h3, h4, h5⟩ | ⟨d, ds, h1, h2, h3, h4, h5⟩
  · exact .inl ⟨c, z, h1, h2, by rw [h3]; exact q.here rfl⟩
  · exact .inr (.inl ⟨p, xs, h1, h2, h3, h4, by rw [if_pos rfl, h5]; exact q.here rfl⟩)
  · exact .inr (.inr ⟨d, ds, h1, h2, h3, h4, by rw [h5]; exact q.here rfl⟩)

/-! ### an item -/
def dIx : D → D → Option D
  | .lst ds, .int i => atI ds i
  | .rd ds, .int i => atI ds i
  | .tup ds, .int i => atI ds i
  | .own ds, .int i => (atI ds i).bind fun d => if d.flat then some d else none
  | .str s, .int i => if s.length ≤ cap then (atI s i).map fun c => .str [c] else none
  | _, _ => none
theorem reps_atI {ds : List D} {vs : List V} {i : Int} {d : D} (h : Reps K G H ds vs T) (e : atI ds i = some d) : ∃ v, atI vs i = some v ∧ Rep K G H d v T := by
  unfold atI at e ⊢
  obtain ⟨j, e1, e2⟩ := Option.bind_eq_some_iff.mp e
  rw [h.len, e1]
  exact h.get e2
theorem gd_ix : GoodR K (rIx K) dIx := by
  intro x y z e G H vx vy Tx Ty gh hx hy Q q
  unfold dIx at e
  split at e
  · obtain ⟨a, vs, rfl, ha, hr⟩ := hx
    cases hy
    obtain ⟨v, h1, h2⟩ := reps_atI hr e
    exact .inl ⟨a, vs, _, v, rfl, rfl, .of (gh _ _ ha), h1, q.here h2⟩
  · obtain ⟨a, vs, rfl, ha, hr⟩ := hx
    cases hy
    obtain ⟨v, h1, h2⟩ := reps_atI hr e
    exact .inl ⟨a, vs, _, v, rfl, rfl, gh.seq ha, h1, q.here h2⟩
  · obtain ⟨a, vs, rfl, ha, hr⟩ := hx
    cases hy
    obtain ⟨v, h1, h2⟩ := reps_atI hr e
    exact .inr (.inl ⟨a, vs, _, v, rfl, rfl, same_sqT gh ha, h1, q.here h2⟩)
  · obtain ⟨a, vs, U, rfl, ha, _, _, hr⟩ := hx
    cases hy
    obtain ⟨d, e1, e⟩ := Option.bind_eq_some_iff.mp e
    split at e
    · rename_i f
      cases e
      obtain ⟨v, h1, h2⟩ := reps_atI hr e1
      exact .inl ⟨a, vs, _, v, rfl, rfl, .of ha, h1, q.here (Rep.flat f h2)⟩
    · cases e
  · rename_i s i
    split at e
    · rename_i hc
      obtain ⟨c, e1, e⟩ := Option.map_eq_some_iff.mp e
      subst e
      cases hx
      cases hy
      exact .inr (.inr ⟨_, i, c, rfl, rfl, by rw [str_len]; exact Nat.le_of_lt (cap_lt hc), e1, q.here rfl⟩)
    · cases e
  · cases e

/-! ### slices -/
def cutL {α : Type} (xs : List α) (lo hi : Option Int) : List α := (xs.drop (HT.sIx xs.length 0 lo)).take (HT.sIx xs.length xs.length hi - HT.sIx xs.length 0 lo)
def dSl (x : D) (lo hi : Option Int) : Option D := match x with
  | .lst ds => some (.lst (cutL ds lo hi))
  | .rd ds => some (.lst (cutL ds lo hi))
  | .str s => if s.length ≤ cap then some (.str (cutL s lo hi)) else none
  | _ => none
def rSlA (K : PySem.W.Frag) : V → Option Int → Option Int → Hp → VK → Prop := fun x lo hi H Q => rSlL K x lo hi H Q ∨ rSlS x lo hi H Q
theorem slr_a : SlR X (rSlA X.K) := sl_list.or sl_str
theorem Reps.cut {ds : List D} {vs : List V} (h : Reps K G H ds vs T) (lo hi : Option Int) : Reps K G H (cutL ds lo hi) (cutV vs lo hi) T := by
  unfold cutL cutV
  rw [h.len]
  exact (h.drop _).take _
theorem gd_sl : GoodSl K (rSlA K) dSl := by
  intro x l u z e G H vx Tx gh hx Q q
  unfold dSl at e
  split at e
  · cases e
    obtain ⟨a, vs, rfl, ha, hr⟩ := hx
    exact .inl ⟨a, vs, rfl, .of (gh _ _ ha), fun p hp => q.lst gh hp (hr.cut l u)⟩
  · cases e
    obtain ⟨a, vs, rfl, ha, hr⟩ := hx
    exact .inl ⟨a, vs, rfl, gh.seq ha, fun p hp => q.lst gh hp (hr.cut l u)⟩
  · rename_i s
    split at e
    · rename_i hc
      cases e
      cases hx
      refine .inr ⟨_, rfl, by rw [str_len]; exact Nat.le_of_lt (cap_lt hc), q.here ?_⟩
      show V.str (cutS ⟨s.toArray⟩ l u) = V.str ⟨(cutL s l u).toArray⟩
      unfold cutS cutL
      rw [str_len]
    · cases e
  · cases e

/-! ### builtins -/
def dLen : List D → Option D
  | [.str s] => if s.length ≤ cap then some (.int (s.length : Nat)) else none
  | [d] => (seqOf d).map fun ds => .int (ds.length : Nat)
  | _ => none
theorem any1 {d : D} {vs : List V} (h : RepAny K G H [d] vs) : ∃ v T, vs = [v] ∧ Rep K G H d v T := by
  cases h with
  | cons h t =>
    cases t
    obtain ⟨T, h⟩ := h
    exact ⟨_, T, rfl, h⟩
theorem any2 {d e : D} {vs : List V} (h : RepAny K G H [d, e] vs) : ∃ v w T U, vs = [v, w] ∧ Rep K G H d v T ∧ Rep K G H e w U := by
  cases h with
  | cons h t =>
    obtain ⟨T, h⟩ := h
    obtain ⟨w, U, rfl, k⟩ := any1 t
    exact ⟨_, w, T, U, rfl, h, k⟩
theorem gc_len : GoodC K (fun xs H Q => ∃ x n, xs = [x] ∧ LenV K x H n ∧ Q (.int n) H) dLen := by
  intro xs z e G H vs gh hx Q q
  unfold dLen at e
  split at e
  · rename_i s
    split at e
    · rename_i hc
      cases e
      obtain ⟨v, T, rfl, h⟩ := any1 hx
      cases h
      exact ⟨_, s.length, rfl, ⟨by rw [str_len]; exact Nat.le_of_lt (cap_lt hc), (str_len s).symm⟩, q.here rfl⟩
    · cases e
  · obtain ⟨ds, e1, e⟩ := Option.map_eq_some_iff.mp e
    subst e
    obtain ⟨v, T, rfl, h⟩ := any1 hx
    obtain ⟨a, vs, U, rfl, hq, hr⟩ := seqOf_ok gh e1 h
    exact ⟨_, ds.length, rfl, hq.imp (fun h => ⟨vs, h, hr.len.symm⟩) (fun h => ⟨vs, h, hr.len.symm⟩), q.here rfl⟩
  · cases e
def dAbs : List D → Option D
  | [.int i] => some (.int (if i < 0 then -i else i))
  | _ => none
theorem gc_abs : GoodC K (fun xs H Q => ∃ i, xs = [.int i] ∧ Q (.int (if i < 0 then -i else i)) H) dAbs := by
  intro xs z e G H vs gh hx Q q
  unfold dAbs at e
  split at e
  · cases e
    obtain ⟨v, T, rfl, h⟩ := any1 hx
    cases h
    exact ⟨_, rfl, q.here rfl⟩
  · cases e
def dInt : List D → Option D
  | [.int i] => some (.int i)
  | [.bl b] => some (.int (if b then 1 else 0))
  | _ => none
theorem gc_int : GoodC K (fun xs H Q => (∃ i, xs = [.int i] ∧ Q (.int i) H) ∨ ∃ k, xs = [.bl k] ∧ Q (.int (if k then 1 else 0)) H) dInt := by
  intro xs z e G H vs gh hx Q q
  unfold dInt at e
  split at e
  · cases e
    obtain ⟨v, T, rfl, h⟩ := any1 hx
    cases h
    exact .inl ⟨_, rfl, q.here rfl⟩
  · cases e
    obtain ⟨v, T, rfl, h⟩ := any1 hx
    cases h
    exact .inr ⟨_, rfl, q.here rfl⟩
  · cases e
def dMin2 : List D → Option D
  | [.int i, .int j] => some (.int (if j < i then j else i))
  | _ => none
theorem gc_min2 : GoodC K (fun xs H Q => ∃ i j, xs = [.int i, .int j] ∧ Q (.int (if j < i then j else i)) H) dMin2 := by
  intro xs z e G H vs gh hx Q q
  unfold dMin2 at e
  split at e
  · cases e
    obtain ⟨v, w, T, U, rfl, h, k⟩ := any2 hx
    cases h
    cases k
    exact ⟨_, _, rfl, q.here rfl⟩
  · cases e
/-- list(x) of a shared one: a new one, shared -/
def dList : List D → Option D
  | [.lst ds] => some (.lst ds)
  | [.rd ds] => some (.lst ds)
  | [.tup ds] => some (.lst ds)
  | _ => none
theorem gc_list : GoodC K (fun xs H Q => ∃ p ys, xs = [.ref p] ∧ (SqL K H p ys ∨ SqT K H p ys) ∧ ∀ l, H l = none → Q (.ref l) (upd H l (.lst ys))) dList := by
  intro xs z e G H vs gh hx Q q
  unfold dList at e
  split at e
  · cases e
    obtain ⟨v, T, rfl, a, vs, rfl, ha, hr⟩ := any1 hx
    exact ⟨a, vs, rfl, .inl (.of (gh _ _ ha)), fun p hp => q.lst gh hp hr⟩
  · cases e
    obtain ⟨v, T, rfl, a, vs, rfl, ha, hr⟩ := any1 hx
    exact ⟨a, vs, rfl, .inl (gh.seq ha), fun p hp => q.lst gh hp hr⟩
  · cases e
    obtain ⟨v, T, rfl, a, vs, rfl, ha, hr⟩ := any1 hx
    exact ⟨a, vs, rfl, .inr (same_sqT gh ha), fun p hp => q.lst gh hp hr⟩
  · cases e
def tyOf : D → Option String
  | .non => some "NoneType"
  | .bl _ => some "bool"
  | .int _ => some "int"
  | .str _ => some "str"
  | .lst _ => some "list"
  | .own _ => some "list"
  | .tup _ => some "tuple"
  | _ => none
theorem tyOf_ok {d : D} {v : V} {t : String} (gh : Same G H) (e : tyOf d = some t) (h : Rep K G H d v T) : TyX K H v (.type t) := by
  cases d with
  | non => cases e; cases h; exact .base .non
  | bl b => cases e; cases h; exact .base (.bl b)
  | int i => cases e; cases h; exact .base (.int i)
  | str s => cases e; cases h; exact .base (.str _)
  | lst ds => cases e; obtain ⟨a, vs, rfl, ha, hr⟩ := h; exact .base (.lst (gh _ _ ha))
  | own ds => cases e; obtain ⟨a, vs, U, rfl, ha, _⟩ := h; exact .base (.lst ha)
  | tup ds =>
    cases e
    obtain ⟨a, vs, rfl, ha, hr⟩ := h
    rcases same_sqT gh ha with (h | ⟨o, h⟩) | ⟨o, its, n, hk, hc, _⟩
    · exact .base (.tup h)
    · exact .fTuple h
    · exact .kTuple hk hc
  | _ => cases e
def dIsi : List D → Option D
  | [d, .ty n] => (tyOf d).bind fun t => (kitB t n).map .bl
  | _ => none
theorem gc_isi : GoodC K (rIsi K) dIsi := by
  intro xs z e G H vs gh hx Q q
  unfold dIsi at e
  split at e
  · rename_i d n
    obtain ⟨t, e1, e⟩ := Option.bind_eq_some_iff.mp e
    obtain ⟨b, e2, e⟩ := Option.map_eq_some_iff.mp e
    subst e
    obtain ⟨v, w, T, U, rfl, h, k⟩ := any2 hx
    cases k
    exact ⟨v, .ty n, .type t, .type n, b, rfl, .ty n, tyOf_ok gh e1 h, kit_ty e2, q.here rfl⟩
  · cases e

/-! ### methods of texts, list.index -/
def strOf : D → Option (List Nat)
  | .str s => some s
  | _ => none
def strsOf : List D → Option (List (List Nat))
  | [] => some []
  | d :: ds => (strOf d).bind fun s => (strsOf ds).map fun ss => s :: ss
theorem strsOf_ok : ∀ {ds : List D} {ss : List (List Nat)} {vs : List V} {T : Tp}, strsOf ds = some ss → Reps K G H ds vs T → vs = (ss.map fun s => (⟨s.toArray⟩ : Str)).map V.str
  | [], ss, vs, T, e, h => by
    cases e
    exact h
  | d :: ds, ss, vs, T, e, h => by
    unfold strsOf at e
    obtain ⟨s, e1, e⟩ := Option.bind_eq_some_iff.mp e
    obtain ⟨r, e2, e⟩ := Option.map_eq_some_iff.mp e
    subst e
    obtain ⟨v, r', U, W, rfl, hu, hw, hd, h1, h2⟩ := h
    cases d with
    | str x =>
      cases e1
      cases h1
      rw [strsOf_ok e2 h2]
      rfl
    | _ => cases e1
def dJoin : D → List D → Option D
  | .str [], [y] => (seqOf y).bind fun ds => (strsOf ds).bind fun ss => if ss.flatten.length ≤ cap then some (.str ss.flatten) else none
  | _, _ => none
theorem join_nil (ss : List (List Nat)) : Txt.join (⟨#[]⟩ : Str) (ss.map fun s => (⟨s.toArray⟩ : Str)) = ⟨ss.flatten.toArray⟩ := by
  have e : (Txt.join (⟨#[]⟩ : Str) (ss.map fun s => (⟨s.toArray⟩ : Str))).cps.toList = ss.flatten := by
    rw [TL.join_eq]
    have h := TL.tl_join (⟨#[]⟩ : Str) (ss.map fun s => (⟨s.toArray⟩ : Str))
    have j : ∀ l : List (List Nat), TL.joinL [] l = l.flatten := fun l => by
      induction l with
      | nil => rfl
      | cons a r ih =>
        cases r with
        | nil => simp [TL.joinL]
        | cons b r =>
          show a ++ ([] ++ TL.joinL [] (b :: r)) = _
          rw [ih, List.nil_append, List.flatten_cons, List.flatten_cons, List.flatten_cons]
    have t0 : TL.tl (⟨#[]⟩ : Str) = [] := rfl
    rw [t0, j, List.map_map] at h
    have m : (TL.tl ∘ fun s : List Nat => (⟨s.toArray⟩ : Str)) = id := by
      funext s
      simp [TL.tl]
    rw [m, List.map_id] at h
    exact h
  have e2 := congrArg List.toArray e
  rw [Array.toArray_toList] at e2
  cases hq : Txt.join (⟨#[]⟩ : Str) (ss.map fun s => (⟨s.toArray⟩ : Str)) with
  | mk c =>
    rw [hq] at e2
    have e3 : c = ss.flatten.toArray := e2
    rw [e3]
theorem gm_join : GoodM K (fun x xs H Q => ∃ a p, ∃ ys : List Str, x = .str a ∧ xs = [.ref p] ∧ (SqL K H p (ys.map V.str) ∨ SqT K H p (ys.map V.str)) ∧
    (ys.map (·.length)).sum + ys.length * a.length ≤ 16777216 ∧ Q (.str (Txt.join a ys)) H) dJoin := by
  intro x xs z e G H vx vs Tx gh hx hxs Q q
  unfold dJoin at e
  split at e
  · obtain ⟨ds, e1, e⟩ := Option.bind_eq_some_iff.mp e
    obtain ⟨ss, e2, e⟩ := Option.bind_eq_some_iff.mp e
    split at e
    · rename_i hc
      cases e
      cases hx
      obtain ⟨v, T, rfl, h⟩ := any1 hxs
      obtain ⟨a, ws, U, rfl, hq, hr⟩ := seqOf_ok gh e1 h
      rw [strsOf_ok e2 hr] at hq
      refine ⟨_, a, _, rfl, rfl, hq, ?_, by rw [show (⟨([] : List Nat).toArray⟩ : Str) = ⟨#[]⟩ from rfl, join_nil]; exact q.here rfl⟩
      have h1 : ((ss.map fun s => (⟨s.toArray⟩ : Str)).map (·.length)).sum = ss.flatten.length := by
        rw [List.map_map, List.length_flatten]
        congr 1
      rw [h1, str_len, List.length_nil, Nat.mul_zero, Nat.add_zero]
      exact Nat.le_trans hc (by decide)
    · cases e
  · cases e
def fnd (l : List Nat) (c : Nat) : Int := if c ∈ l then (l.idxOf c : Nat) else -1
def dFind : D → List D → Option D
  | .str s, [.str [c]] => some (.int (fnd s c))
  | _, _ => none
theorem find_fnd (l : List Nat) (c : Nat) : Txt.find (⟨l.toArray⟩ : Str) ⟨#[c]⟩ = fnd l c := by
  have e : Txt.find (⟨l.toArray⟩ : Str) ⟨#[c]⟩ = Txt.find3 ⟨l.toArray⟩ ⟨#[c]⟩ 0 := by
    unfold Txt.find Txt.find3
    rw [show PySem.fromIndex (⟨l.toArray⟩ : Str).length 0 = 0 from rfl]
    cases Builtin.Str.occurrences (⟨l.toArray⟩ : Str) ⟨#[c]⟩ 0 (⟨l.toArray⟩ : Str).length 1 <;> rfl
  have f0 : PySem.fromIndex (⟨l.toArray⟩ : Str).length 0 = 0 := rfl
  rw [e]
  unfold fnd
  rcases PySem.StrLaws.find3_spec (⟨l.toArray⟩ : Str) c 0 with ⟨h1, h2⟩ | ⟨k, h1, h2, h3, h4, h5⟩
  · rw [h1, if_neg]
    intro hm
    obtain ⟨j, hj, hj2⟩ := List.getElem_of_mem hm
    refine h2 j (Nat.zero_le _) (by rw [str_len]; exact hj) ?_
    show l.toArray.getD j 0 = c
    simp [Array.getD, hj, hj2]
  · rw [str_len] at h3
    have g : l[k] = c := by
      have h4' : l.toArray.getD k 0 = c := h4
      simpa [Array.getD, h3] using h4'
    rw [h1, if_pos (by rw [← g]; exact List.getElem_mem h3)]
    congr 1
    have hle : l.idxOf c ≤ k := by
      rcases Nat.lt_or_ge k (l.idxOf c) with h | h
      · exact absurd (show (l[k] == c) = true by rw [g]; exact beq_self_eq_true c) (by have := List.not_of_lt_findIdx (p := fun x => x == c) (xs := l) (i := k) h; simpa using this)
      · exact h
    have hlt : l.idxOf c < l.length := Nat.lt_of_le_of_lt hle h3
    have hget : l[l.idxOf c] = c := List.getElem_idxOf hlt
    rcases Nat.lt_or_ge (l.idxOf c) k with h | h
    · refine absurd ?_ (h5 (l.idxOf c) (Nat.zero_le _) h)
      show l.toArray.getD (l.idxOf c) 0 = c
      simp only [Array.getD, List.size_toArray, hlt, dite_true]
      simpa using hget
    · omega
theorem gm_find : GoodM K (fun x xs H Q => ∃ a b, x = .str a ∧ xs = [.str b] ∧ Q (.int (Txt.find a b)) H) dFind := by
  intro x xs z e G H vx vs Tx gh hx hxs Q q
  unfold dFind at e
  split at e
  · rename_i s c
    cases e
    cases hx
    obtain ⟨v, T, rfl, h⟩ := any1 hxs
    cases h
    exact ⟨_, _, rfl, rfl, by rw [show (⟨([c] : List Nat).toArray⟩ : Str) = ⟨#[c]⟩ from rfl, find_fnd]; exact q.here rfl⟩
  · cases e
/-- list.index of flat items, there -/
def idxSc (ys : List D) (x : D) : Option Nat := ys.findIdx? fun z => scEq z x
def dIndex : D → List D → Option D
  | y, [x] => (match y with
    | .lst ds => some ds
    | .rd ds => some ds
    | .own ds => some ds
    | _ => none).bind fun ys => if isSc x && ys.all isSc then (idxSc ys x).map fun j => .int (j : Nat) else none
  | _, _ => none
theorem gm_index : GoodM K (rIndex K) dIndex := by
  intro x xs z e G H vx vs Tx gh hx hxs Q q
  unfold dIndex at e
  split at e
  · rename_i x' d
    obtain ⟨ys, e1, e⟩ := Option.bind_eq_some_iff.mp e
    split at e
    · rename_i hs
      obtain ⟨j, e2, e⟩ := Option.map_eq_some_iff.mp e
      subst e
      rw [Bool.and_eq_true] at hs
      obtain ⟨v, T, rfl, h⟩ := any1 hxs
      have hl : ∃ a ws U, vx = .ref a ∧ SqL K H a ws ∧ Reps K G H ys ws U := by
        split at e1
        · cases e1; obtain ⟨a, ws, rfl, ha, hr⟩ := hx; exact ⟨a, ws, _, rfl, .of (gh _ _ ha), hr⟩
        · cases e1; obtain ⟨a, ws, rfl, ha, hr⟩ := hx; exact ⟨a, ws, _, rfl, gh.seq ha, hr⟩
        · cases e1; obtain ⟨a, ws, U, rfl, ha, _, _, hr⟩ := hx; exact ⟨a, ws, U, rfl, .of ha, hr⟩
        · cases e1
      obtain ⟨a, ws, U, rfl, hq, hr⟩ := hl
      obtain ⟨g1, g2⟩ := any_ok hs.1 h hs.2 hr
      obtain ⟨k1, k2, k3⟩ := List.findIdx?_eq_some_iff_getElem.mp e2
      obtain ⟨w, w1, w2⟩ := hr.get (List.getElem?_eq_getElem k1)
      have sc : ∀ y ∈ ys, isSc y = true := List.all_eq_true.mp hs.2
      refine ⟨a, ws, v, j, w, rfl, rfl, hq, sc_ok hs.1 h, g1, w1, by rw [scEq_ok hs.1 (sc _ (List.getElem_mem k1)) h w2]; exact k2, fun m z' hm hz => ?_, q.here rfl⟩
      obtain ⟨y, y1, y2⟩ := hr.get' hz
      have hml : m < ys.length := (List.getElem?_eq_some_iff.mp y1).1
      have ey : ys[m] = y := by
        rw [List.getElem?_eq_getElem hml] at y1
        exact Option.some.inj y1
      rw [scEq_ok hs.1 (by rw [← ey]; exact sc _ (List.getElem_mem hml)) h y2, ← ey]
      have := k3 m hm
      simpa using this
    · cases e
  · cases e
end
end Den

namespace Den
open PySem PySem.Spec PyProof.Rows L2

/-! ### calls of defs -/
abbrev Dn := List D → Option (R × List D)
def envOf (ds : List D) : Env := ds.map some
def stOf (vs : List V) : L2.St := vs.map some
def RetR (K : PySem.W.Frag) (G H : Hp) (T : Tp) : R → V → Prop
  | .v d, v => Rep K G H d v Em
  | .own d, v => Rep K G H d v T
  | .at _, _ => False
theorem RetR.rep {K : PySem.W.Frag} {G H : Hp} {T : Tp} {r : R} {v : V} {σ : L2.St} (h : RetR K G H T r v) : RepR K G H σ T r v := by
  cases r with
  | v d => exact h
  | own d => exact h
  | «at» i => exact h.elim
/-- what a def promises by its denotation -/
def spOf (K : PySem.W.Frag) (n : Nat) (den : Dn) : Sp := fun vs H Q _ => ∃ ds r ds' G F, ds.length = n ∧ vs.length = n ∧ den ds = some (r, ds') ∧ Sim K G F H (envOf ds) (stOf vs) ∧
  ∀ v G' F' H' T, Sim K G' F' H' (envOf ds') (stOf vs) → Fr G F H G' F' H' T → RetR K G' H' T r v → Q v H'
/-- all arguments shared -/
def xCallV (n : Nat) (den : Dn) (g : Ea) : Ex := fun ρ => (g ρ).bind fun p => (valsR p.1).bind fun ds => if ds.length = n then (den ds).map fun q => (q.1, p.2) else none
/-- the first argument lent from the place i, the others shared -/
def xCallL (n : Nat) (den : Dn) (i : Nat) (g : Ea) : Ex := fun ρ => (lV i ρ).bind fun _ => (g ρ).bind fun p => (valsR p.1).bind fun ds => (gt p.2 i).bind fun d => if ds.length + 1 = n then (den (d :: ds)).bind fun q => match q.2 with
  | d' :: _ => some (q.1, p.2.set i (some d'))
  | [] => none else none
section
variable {K : PySem.W.Frag} {G G1 G2 H H1 H2 : Hp} {F F1 F2 : Nat → Tp} {T T1 T2 : Tp} {ρ ρ1 : Env} {σ σ1 : L2.St} {d : D} {v : V}
theorem reps_slots {ds : List D} {vs : List V} (h : Reps K G H ds vs Em) : ∀ (i : Nat) (d : D), (envOf ds)[i]? = some (some d) → ∃ v, (stOf vs)[i]? = some (some v) ∧ Rep K G H d v Em := by
  intro i d e
  unfold envOf at e
  rw [List.getElem?_map] at e
  obtain ⟨x, e1, e2⟩ := Option.map_eq_some_iff.mp e
  cases e2
  obtain ⟨v, q1, q2⟩ := h.get e1
  exact ⟨v, by unfold stOf; rw [List.getElem?_map, q1]; rfl, q2⟩
theorem good_callV {n : Nat} {den : Dn} {ta : TA} {g : Ea} {E : XK} (hg : GoodA K ta g) : GoodE K (tCall (spOf K n den) [] E ta) (xCallV n den g) := by
  intro ρ r ρ' e G F H σ S Q q
  unfold xCallV at e
  obtain ⟨⟨rs, ρ1⟩, e1, e⟩ := Option.bind_eq_some_iff.mp e
  obtain ⟨ds, e2, e⟩ := Option.bind_eq_some_iff.mp e
  split at e
  · rename_i hn
    obtain ⟨⟨r0, ds'⟩, e3, e⟩ := Option.map_eq_some_iff.mp e
    cases e
    refine hg ρ rs ρ1 e1 G F H σ S _ fun vs G1 F1 H1 T1 S1 f1 h1 => ?_
    have hr := valsR_ok h1 e2
    show spOf K n den (vs ++ []) H1 Q E
    rw [List.append_nil]
    refine ⟨ds, r0, ds', G1, fun _ => Em, hn, by rw [hr.len]; exact hn, e3, ⟨by unfold envOf stOf; rw [List.length_map, List.length_map, hr.len], S1.gh, fun _ _ _ z => z.elim, fun _ _ z => z.elim, fun _ _ z => z.elim, reps_slots hr⟩, fun v G2 Fc H2 T2 S2 f2 h2 => ?_⟩
    have no : ∀ a, (∃ j : Nat, (fun _ : Nat => Em) j a) ∨ H1 a = none → H1 a = none := fun a z => z.elim (fun ⟨j, w⟩ => w.elim) id
    refine q v G2 F1 H2 T2 ⟨S1.len, S2.gh, S1.dis, fun i a h => ?_, fun i a h => f2.live a (S1.fh i a h), fun i x ex => ?_⟩ (f1.seq ⟨f2.g, fun a o ha _ => f2.keep a o ha fun _ z => z, f2.live, fun i a h => .inl ⟨i, h⟩, fun a h => .inr (no a (f2.nt a h)), fun a h => (f2.ng a h).imp id fun z => .inr (no a z), fun a i h z => S1.fh i a z (no a (f2.nt a h)), f2.tg, f2.th⟩) h2.rep
    · cases hG : G2 a with
      | none => rfl
      | some o =>
        rcases f2.ng a (by rw [hG]; exact fun z => nomatch z) with z | z
        · exact absurd (S1.fg i a h) z
        · exact absurd (no a z) (S1.fh i a h)
    · obtain ⟨y, k1, k2⟩ := S1.slot i x ex
      exact ⟨y, k1, Rep.frame x y _ f2.g (fun a o _ ha => f2.keep a o ha fun _ z => z) k2⟩
  · cases e
theorem good_call0 {den : Dn} {E : XK} : GoodE K (tCall (spOf K 0 den) [] E tNil) (xCallV 0 den xNil) := good_callV good_nil
theorem good_callL {n i : Nat} {den : Dn} {ta : TA} {g : Ea} {E : XK} (hg : GoodA K ta g) : GoodE K (tCall (spOf K n den) [] E (tCons (tVar i) ta)) (xCallL n den i g) := by
  intro ρ r ρ' e G F H σ S Q q
  unfold xCallL at e
  obtain ⟨l, e0, e⟩ := Option.bind_eq_some_iff.mp e
  obtain ⟨⟨rs, ρ1⟩, e1, e⟩ := Option.bind_eq_some_iff.mp e
  obtain ⟨ds, e2, e⟩ := Option.bind_eq_some_iff.mp e
  obtain ⟨d, e3, e⟩ := Option.bind_eq_some_iff.mp e
  split at e
  · rename_i hn
    obtain ⟨⟨r0, dl⟩, e4, e⟩ := Option.bind_eq_some_iff.mp e
    dsimp only at e
    split at e
    · rename_i d' ds'
      cases e
      unfold lV at e0
      obtain ⟨x0, g0, e0⟩ := Option.bind_eq_some_iff.mp e0
      obtain ⟨vi, hvi, _⟩ := S.slot i _ (gt_some g0)
      refine ⟨vi, hvi, hg ρ rs ρ1 e1 G F H σ S _ fun vs G1 F1 H1 T1 S1 f1 h1 => ?_⟩
      have hr := valsR_ok h1 e2
      obtain ⟨vi', hvi', hd⟩ := S1.slot i d (gt_some e3)
      rw [hvi] at hvi'
      cases hvi'
      show spOf K n den ((vi :: vs) ++ []) H1 Q E
      rw [List.append_nil]
      have sub : ∀ j a, (if j = 0 then F1 i else Em) a → j = 0 ∧ F1 i a := fun j a h => by
        by_cases z : j = 0
        · rw [if_pos z] at h
          exact ⟨z, h⟩
        · rw [if_neg z] at h
          exact h.elim
      refine ⟨d :: ds, r, d' :: ds', G1, fun j => if j = 0 then F1 i else Em, hn, by rw [List.length_cons, hr.len]; exact hn, e4, ⟨?_, S1.gh, fun j k a h1 h2 => by rw [(sub j a h1).1, (sub k a h2).1], fun j a h => S1.fg i a (sub j a h).2, fun j a h => S1.fh i a (sub j a h).2, fun j x ex => ?_⟩, fun v G2 Fc H2 T2 S2 f2 h2 => ?_⟩
      · unfold envOf stOf
        rw [List.length_map, List.length_map, List.length_cons, List.length_cons, hr.len]
      · cases j with
        | zero =>
          have ex1 : d = x := Option.some.inj (Option.some.inj ex)
          subst ex1
          exact ⟨vi, rfl, by rw [if_pos rfl]; exact hd⟩
        | succ j =>
          obtain ⟨y, k1, k2⟩ := reps_slots hr j x ex
          exact ⟨y, k1, by rw [if_neg (Nat.succ_ne_zero j)]; exact k2⟩
      · have back : ∀ a, (∃ j : Nat, (fun j => if j = 0 then F1 i else Em) j a) ∨ H1 a = none → F1 i a ∨ H1 a = none := fun a z => z.imp (fun ⟨j, w⟩ => (sub j a w).2) id
        have keep : ∀ j a o, j ≠ i → F1 j a → H1 a = some o → H2 a = some o := fun j a o hj h ha => f2.keep a o ha fun k z => hj (S1.dis j i a h (sub k a z).2)
        have sub2 : ∀ j a, (if j = i then Fc 0 else F1 j) a → (j = i ∧ Fc 0 a) ∨ (j ≠ i ∧ F1 j a) := fun j a h => by
          by_cases z : j = i
          · rw [if_pos z] at h
            exact .inl ⟨z, h⟩
          · rw [if_neg z] at h
            exact .inr ⟨z, h⟩
        have apart : ∀ j a, j ≠ i → F1 j a → (∃ j : Nat, (fun j => if j = 0 then F1 i else Em) j a) ∨ H1 a = none → False := fun j a hj h z => by
          rcases back a z with w | w
          · exact hj (S1.dis j i a h w)
          · exact S1.fh j a h w
        refine q v G2 (fun j => if j = i then Fc 0 else F1 j) H2 T2 ⟨by rw [List.length_set]; exact S1.len, S2.gh, fun j k a h1 h2 => ?_, fun j a h => ?_, fun j a h => ?_, fun j x ex => ?_⟩
          (f1.seq ⟨f2.g, fun a o ha nf => f2.keep a o ha fun k z => nf i (sub k a z).2, f2.live, fun j a h => ?_, fun a h => (back a (f2.nt a h)).imp (fun w => ⟨i, w⟩) id, fun a h => (f2.ng a h).imp id fun z => (back a z).imp (fun w => ⟨i, w⟩) id, fun a j h z => ?_, f2.tg, f2.th⟩) h2.rep
        · rcases sub2 j a h1 with ⟨j1, t1⟩ | ⟨j1, t1⟩ <;> rcases sub2 k a h2 with ⟨j2, t2⟩ | ⟨j2, t2⟩
          · rw [j1, j2]
          · exact (apart k a j2 t2 (f2.nf 0 a t1)).elim
          · exact (apart j a j1 t1 (f2.nf 0 a t2)).elim
          · exact S1.dis j k a t1 t2
        · rcases sub2 j a h with ⟨j1, t1⟩ | ⟨j1, t1⟩
          · exact S2.fg 0 a t1
          · cases hG : G2 a with
            | none => rfl
            | some o =>
              rcases f2.ng a (by rw [hG]; exact fun z => nomatch z) with z | z
              · exact absurd (S1.fg j a t1) z
              · exact (apart j a j1 t1 z).elim
        · rcases sub2 j a h with ⟨j1, t1⟩ | ⟨j1, t1⟩
          · exact S2.fh 0 a t1
          · exact f2.live a (S1.fh j a t1)
        · by_cases hj : j = i
          · subst hj
            have hl : j < (ρ1.set j (some d')).length := (List.getElem?_eq_some_iff.mp ex).1
            rw [List.length_set] at hl
            rw [List.getElem?_set_self hl] at ex
            have ex1 : d' = x := Option.some.inj (Option.some.inj ex)
            subst ex1
            obtain ⟨y, k1, k2⟩ := S2.slot 0 d' rfl
            have k3 : vi = y := Option.some.inj (Option.some.inj k1)
            subst k3
            exact ⟨vi, hvi, by rw [if_pos rfl]; exact k2⟩
          · rw [List.getElem?_set_ne (fun z => hj z.symm)] at ex
            obtain ⟨y, k1, k2⟩ := S1.slot j x ex
            exact ⟨y, k1, by rw [if_neg hj]; exact Rep.frame x y _ f2.g (fun a o t ha => keep j a o hj t ha) k2⟩
        · rcases sub2 j a h with ⟨j1, t1⟩ | ⟨j1, t1⟩
          · exact (back a (f2.nf 0 a t1)).imp (fun w => ⟨i, w⟩) id
          · exact .inl ⟨j, t1⟩
        · rcases sub2 j a z with ⟨j1, t1⟩ | ⟨j1, t1⟩
          · exact f2.tf a 0 h t1
          · exact apart j a j1 t1 (f2.nt a h)
    · cases e
  · cases e

/-! ### a def's body -/
def finR : R → Option R
  | .v d => some (.v d)
  | .own d => some (.own d)
  | .at _ => none
/-- the parameters' data behind the body: what was lent as it is then; W: the places that are stored -/
def argsB (W : List Nat) (ρ : Env) : Nat → List D → Option (List D)
  | _, [] => some []
  | i, d :: ds => (if d.flat then some d else if W.contains i then none else gt ρ i).bind fun x => (argsB W ρ (i + 1) ds).map fun xs => x :: xs
/-- the denotation of a def: n parameters, N names -/
def dnOf (W : List Nat) (n N : Nat) (body : Es) : Dn := fun ds => if ds.length = n then (body (ds.map some ++ List.replicate (N - n) none)).bind fun o => match o with
  | .rt r ρ => (finR r).bind fun r => (argsB W ρ 0 ds).map fun xs => (r, xs)
  | .nx ρ => (argsB W ρ 0 ds).map fun xs => (.v .non, xs)
  | _ => none else none
theorem argsB_ok {W : List Nat} {ρ : Env} : ∀ {ds : List D} {i : Nat} {es : List D}, argsB W ρ i ds = some es → es.length = ds.length ∧ ∀ (j : Nat) (d : D), ds[j]? = some d → ∃ x, es[j]? = some x ∧ ((d.flat = true ∧ x = d) ∨ (d.flat = false ∧ (i + j) ∉ W ∧ gt ρ (i + j) = some x))
  | [], i, es, e => by
    cases e
    exact ⟨rfl, fun j d h => by simp at h⟩
  | d :: ds, i, es, e => by
    unfold argsB at e
    obtain ⟨x, e1, e⟩ := Option.bind_eq_some_iff.mp e
    obtain ⟨xs, e2, e⟩ := Option.map_eq_some_iff.mp e
    subst e
    obtain ⟨h1, h2⟩ := argsB_ok e2
    refine ⟨by rw [List.length_cons, List.length_cons, h1], fun j d' h => ?_⟩
    cases j with
    | zero =>
      have e3 : d = d' := by simpa using h
      subst e3
      refine ⟨x, rfl, ?_⟩
      by_cases f : d.flat = true
      · rw [if_pos f] at e1
        exact .inl ⟨f, (Option.some.inj e1).symm⟩
      · rw [if_neg f] at e1
        by_cases w : W.contains i = true
        · rw [if_pos w] at e1
          cases e1
        · rw [if_neg w] at e1
          exact .inr ⟨by simpa using f, by simpa using w, e1⟩
    | succ j =>
      obtain ⟨y, q1, q2⟩ := h2 j d' (by simpa using h)
      exact ⟨y, by simpa using q1, by rw [show i + (j + 1) = i + 1 + j by omega]; exact q2⟩
section
variable {P : Program} {w : World} {K : PySem.W.Frag} {mg : Str → Option Value} {base : Heap}
theorem def_ok {x qual : Str} {st : Stmt} {f : Addr} {fd : FuncData} {N ps : List Str} {k : Nat} {W : List Nat} {b : Es} (Fu : Fun K x qual st f fd) (Sc : FnScope N ps (defScope st))
    (hN : ps.length ≤ N.length) (hb : ∀ (cdv : Value) (A : Around) (outer : List PySem.Env) (s : Shared) (H : Hp) (E : XK), Room k (A.deeper (envOfC qual (defScope st) s.heap.objs.size f cdv)) →
      ASs (cxOf CX0 P w K mg base N qual (defScope st) f cdv A outer s H E).nox W (defBody st) b) :
    FnOk P w K mg base CX0 (k + 1) f fd ps (spOf K ps.length (dnOf W ps.length N.length b)) := by
  refine Fu.ok Sc (fun vs H Q E h => ?_) (fun cdv A outer s H vs Q E hr h => ?_)
  · obtain ⟨ds, r, ds', G, F, hl, hv, _⟩ := h
    exact hv
  · obtain ⟨ds, r, ds', G, F, hl, hv, e, S, q⟩ := h
    obtain ⟨t, p, g⟩ := hb cdv A outer s H E hr
    unfold dnOf at e
    rw [if_pos hl] at e
    obtain ⟨o, eo, e⟩ := Option.bind_eq_some_iff.mp e
    have hdv : ds.length = vs.length := hl.trans hv.symm
    have S0 : Sim K G F H (ds.map some ++ List.replicate (N.length - ps.length) none) (start N vs) := by
      refine ⟨?_, S.gh, S.dis, S.fg, S.fh, fun i d ei => ?_⟩
      · unfold L2.start
        rw [List.length_append, List.length_append, List.length_map, List.length_map, List.length_replicate, List.length_replicate, hdv, hv]
      · by_cases hi : i < ds.length
        · rw [List.getElem?_append_left (by rw [List.length_map]; exact hi)] at ei
          obtain ⟨v, k1, k2⟩ := S.slot i d ei
          refine ⟨v, ?_, k2⟩
          unfold L2.start
          rw [List.getElem?_append_left (by rw [List.length_map]; omega)]
          exact k1
        · rw [List.getElem?_append_right (by rw [List.length_map]; omega), List.getElem?_replicate] at ei
          split at ei <;> cases ei
    have fin : ∀ (ρ : Env) (xs : List D), argsB W ρ 0 ds = some xs → ∀ (v : V) (r0 : R) (G' : Hp) (F' : Nat → Tp) (H' : Hp) (σ' : L2.St) (T : Tp), Sim K G' F' H' ρ σ' → Fr G F H G' F' H' T → Agr W (start N vs) σ' → RetR K G' H' T r0 v → some (r0, xs) = some (r, ds') → Q v H' := by
      intro ρ xs ea v r0 G' F' H' σ' T S' f' a' hr' ee
      cases ee
      obtain ⟨g1, g2⟩ := argsB_ok ea
      refine q v G' (fun j a => (∃ d, ds[j]? = some d ∧ d.flat = false) ∧ F' j a) H' T ⟨?_, S'.gh, fun i j a h1 h2 => S'.dis i j a h1.2 h2.2, fun i a h => S'.fg i a h.2, fun i a h => S'.fh i a h.2, fun i d ei => ?_⟩ ⟨f'.g, f'.keep, f'.live, fun i a h => f'.nf i a h.2, f'.nt, f'.ng, fun a i t h => f'.tf a i t h.2, f'.tg, f'.th⟩ hr'
      · unfold envOf stOf
        rw [List.length_map, List.length_map, g1, hdv]
      · unfold envOf at ei
        rw [List.getElem?_map] at ei
        obtain ⟨y, y1, y2⟩ := Option.map_eq_some_iff.mp ei
        cases y2
        have hil : i < ds.length := by rw [← g1]; exact (List.getElem?_eq_some_iff.mp y1).1
        obtain ⟨z, z1, z2⟩ := g2 i ds[i] (List.getElem?_eq_getElem hil)
        rw [y1] at z1
        cases z1
        obtain ⟨v0, k1, k2⟩ := S.slot i ds[i] (by unfold envOf; rw [List.getElem?_map, List.getElem?_eq_getElem hil]; rfl)
        rcases z2 with ⟨fl, ez⟩ | ⟨fl, nw, ez⟩
        · subst ez
          exact ⟨v0, k1, Rep.flat (T := Em) fl (Rep.shared f'.g (Rep.flat fl k2))⟩
        · rw [Nat.zero_add] at nw ez
          obtain ⟨v1, m1, m2⟩ := S'.slot i d (gt_some ez)
          have e0 : (start N vs)[i]? = some (some v0) := by
            unfold L2.start
            rw [List.getElem?_append_left (by rw [List.length_map]; omega)]
            exact k1
          rw [a'.2 i nw, e0] at m1
          cases m1
          exact ⟨v0, k1, Rep.mono _ _ _ _ (fun a h => ⟨⟨_, List.getElem?_eq_getElem hil, fl⟩, h⟩) m2⟩
    refine ⟨t, p, g _ o eo G F H (start N vs) S0 _ ?_⟩
    cases o with
    | nx ρ =>
      obtain ⟨xs, ea, ee⟩ := Option.map_eq_some_iff.mp e
      exact fun G' F' H' σ' S' f' a' => fin ρ xs ea .non (.v .non) G' F' H' σ' Em S' f' a' rfl (congrArg some ee)
    | rt r0 ρ =>
      obtain ⟨r1, er, e⟩ := Option.bind_eq_some_iff.mp e
      obtain ⟨xs, ea, ee⟩ := Option.map_eq_some_iff.mp e
      refine fun v G' F' H' σ' T S' f' a' h' => fin ρ xs ea v _ G' F' H' σ' T S' f' a' ?_ (congrArg some ee)
      cases r0 with
      | v d => cases er; exact h'
      | own d => cases er; exact h'
      | «at» i => cases er
    | bk ρ => cases e
    | ct ρ => cases e
end
end
end Den

namespace Den
open PySem PySem.Spec PyProof.Rows L2

/-! ### enumerate over a text -/
def ItEs (x : Str) : It :=
  ⟨fun i _ => i < x.cps.size, fun i H v H' => ∃ T c, v = .ref T ∧ H T = none ∧ x.cps[i]? = some c ∧ H' = upd H T (.tup [.int (i : Nat), .str ⟨#[c]⟩]), fun i _ => x.cps.size ≤ i⟩
theorem turn_enumS {P : Program} {w : World} {K : PySem.W.Frag} {elts : List Expr} {kk : Nat} {tpos : Pos} (x : Str) (t : Tok) (e it : Addr) :
    Turn P w K (.Tuple elts kk tpos) (ItEs x) [e, it] e (fun i h => (∃ old, IsEnum h e it ((i : Nat) : Int) old) ∧ h.IsStrIter it (strIterType x) x t i ∧ e ≠ it ∧ i ≤ x.cps.size) where
  mem := by simp
  obj := fun i h st b hb => by
    obtain ⟨⟨old, he⟩, ⟨o, ho, hc, hd⟩, _⟩ := st
    have e' : b = e ∨ b = it := by simpa using hb
    rcases e' with z | z
    · rw [z]; exact ⟨_, he, fun v q => nomatch q⟩
    · rw [z]; exact ⟨o, ho, fun v q => by rw [hd] at q; cases q⟩
  keep := fun i h h' st k => let ⟨⟨old, he⟩, ⟨o, ho, r⟩, hne, hl⟩ := st; ⟨⟨old, k e (by simp) _ he⟩, ⟨o, k it (by simp) o ho, r⟩, hne, hl⟩
  item := by
    intro X hP hw hK hc i pins s σ H E I hf st hg
    subst hP hw hK
    obtain ⟨⟨old, he⟩, hit, hne, hle⟩ := st
    have hel : e < s.heap.objs.size := Heap.lt_size he
    have hil : it < s.heap.objs.size := by obtain ⟨_, q, _⟩ := hit; exact Heap.lt_size q
    have D := Draws.text (prog := X.prog) (w := X.w) (A := X.A.in1) (I.ok.hd hc) it x t
    refine wpAny_pyNext_enum_itemD D he hit hg hne (by simpa using hne) fun u h' tk hP ho hit' hT hsz hk => ?_
    obtain ⟨c, tc, hcx, rfl⟩ := hP
    refine ⟨_, rfl, wpAny_letOwnedTupleGo_enum (s := { s with heap := h', toks := tk + 1 }) ho fun h'' he' sb => ?_⟩
    have hT2 : h''.get? s.heap.objs.size = some { cls := .type "tuple", data := .seq #[.int i tk, .str ⟨#[c]⟩ tc] } := (sb.2 _ (Nat.ne_of_gt hel)).trans hT
    have new : ObjOk X.prog X.w (upd H s.heap.objs.size (.tup [.int (i : Nat), .str ⟨#[c]⟩])) h'' s.heap.objs.size (.tup [.int (i : Nat), .str ⟨#[c]⟩]) :=
      ⟨by show 2 ≤ sizeLine; decide, [.int i tk, .str ⟨#[c]⟩ tc], .cons ⟨_, rfl⟩ (.cons ⟨_, rfl⟩ .nil), ⟨_, hT2, rfl, _, rfl⟩⟩
    have I1 : Inv X pins σ (upd H s.heap.objs.size (.tup [.int (i : Nat), .str ⟨#[c]⟩])) { s with heap := h'', toks := tk + 1 } :=
      I.turnedNew (ch := [e, it]) (fun b ob hb q => (sb.2 b (fun z => hb (by simp [z]))).trans (hk b ob (fun z => hb (by simp [z])) (fun z => hb (by simp [z])) q)) hf (Nat.le_refl _) new
    refine ⟨.ref s.heap.objs.size, _, I1, rfl, ⟨_, c, rfl, I.hok.fresh (Nat.le_refl _), hcx, rfl⟩, ⟨⟨.str ⟨#[c]⟩ tc, ?_⟩, ?_, hne, hg⟩, fun b hb => ?_⟩
    · have e1 : ((i + 1 : Nat) : Int) = (i : Int) + 1 := by omega
      rw [e1]; exact he'
    · obtain ⟨o, ho, r⟩ := hit'
      exact ⟨o, (sb.2 it (Ne.symm hne)).trans ho, r⟩
    · have hb' : b < s.heap.objs.size := by
        have e' : b = e ∨ b = it := by simpa using hb
        rcases e' with z | z
        · rw [z]; exact hel
        · rw [z]; exact hil
      rw [upd_ne (Nat.ne_of_lt hb')]
      exact (hf b hb).1
  done := by
    intro X hP hw hK hc i pins s σ H E I hf st hg
    subst hP hw hK
    obtain ⟨⟨old, he⟩, hit, hne, hle⟩ := st
    have hi : i = x.cps.size := Nat.le_antisymm hle hg
    subst hi
    obtain ⟨f0, f1, f2, f3, f4, f5⟩ := hf it (by simp)
    exact wpAny_pyNext_enum_endD (Draws.text (prog := X.prog) (w := X.w) (A := X.A.in1) (I.ok.hd hc) it x t) he hit fun h' eb => ⟨rfl, I.turned (t' := s.toks) (fun b o hb q => eb b o hb q) f0 f1 f3 f4 f5⟩
  self := fun A i s Q E st h => let ⟨⟨_, he⟩, _⟩ := st; wpAny_pyIter_enum he h
def iEnumS (ta : TA) : TI := fun σ H R => ta σ H fun vs H1 => ∃ x, vs = [.str x] ∧ R (ItEs x) H1
theorem pi_enumS {X : Cx} {e : Expr} {ta : TA} {p pos tpos : Pos} {elts : List Expr} {kk : Nat} (hg : Gl X "enumerate") (hm : X.mg "enumerate" = none) (ha : PA X [e] ta) (hs : starEach [e] X.env = [(false, eval e X.env)] := by rfl) :
    PI X (.Tuple elts kk tpos) (.Call (.Name "enumerate" p) [e] [] pos) (iEnumS ta) := by
  refine ⟨fun pins s σ H R I h => ?_⟩
  refine Call_ (ld_blt I hg hm boot_enumerate (PyProof.Rows.callWith_type1 (thn (ha.run pos pins s σ H _ I h) fun us s1 ⟨vs, H1, I1, r1, q1⟩ => ?_) hs rfl))
  obtain ⟨x, ex, q⟩ := q1
  subst ex
  cases r1 with
  | cons r rr =>
    cases rr
    obtain ⟨t, rfl⟩ := r
    refine call_enumerate_str fun h' he hit hsz hk => wpAny_pyIter_enum he ?_
    have I2 : Inv X pins σ H1 { s1 with heap := h' } := I1.kept (t' := s1.toks) hk
    refine ⟨s1.heap.objs.size + 1, [s1.heap.objs.size + 1, s1.heap.objs.size], _, _, H1, rfl, I2, turn_enumS x t (s1.heap.objs.size + 1) s1.heap.objs.size, ⟨⟨.none, he⟩, hit, Nat.succ_ne_self _, Nat.zero_le _⟩, fun b hb => ?_, q⟩
    have e' : b = s1.heap.objs.size + 1 ∨ b = s1.heap.objs.size := by simpa using hb
    have hle : s1.heap.objs.size ≤ b := by
      rcases e' with z | z
      · rw [z]; exact Nat.le_add_right _ _
      · rw [z]; exact Nat.le_refl _
    exact I1.fpOk hle (I1.hok.fresh hle)
def iES (g : Ea) : Ei := fun ρ => (g ρ).bind fun p => match p.1 with
  | [.v (.str s)] => some (enumL 0 (signs s), p.2)
  | _ => none
section
variable {K : PySem.W.Frag} {G H : Hp} {T : Tp} {W : List Nat} {v : V} {d : D}
theorem itok_enumS {s : List Nat} : ItOk K (ItEs ⟨s.toArray⟩) (enumL 0 (signs s)) G := by
  intro G' H' g gh
  have hn : (enumL 0 (signs s)).length = s.toArray.size := by rw [enumL_len]; simp [signs]
  refine ⟨by rw [hn]; exact Nat.le_refl _, fun i hi => ⟨by rw [hn] at hi; exact hi, fun x H2 y => ?_⟩⟩
  obtain ⟨p, c, rfl, hp, hc, rfl⟩ := y
  have hc' : s[i]? = some c := by simpa using hc
  refine ⟨upd G' p (.tup [.int (i : Nat), .str ⟨#[c]⟩]), _, .inr ⟨p, _, hp, rfl, rfl⟩, enumL_get (signs s) 0 i (.str [c]) (by simp [signs, hc']), p, _, rfl, .inl (.inl upd_same), ?_⟩
  exact reps2 (by rw [Nat.zero_add]; rfl) rfl
theorem good_ies {ta : TA} {g : Ea} (h : GoodA K ta g) : GoodI K (iEnumS ta) (iES g) := by
  intro ρ ds ρ' e G F H σ S R q
  unfold iES at e
  obtain ⟨⟨rs, ρ1⟩, e1, e⟩ := Option.bind_eq_some_iff.mp e
  refine h ρ rs ρ1 e1 G F H σ S _ fun vs G1 F1 H1 T1 S1 f1 h1 => ?_
  dsimp only at e
  split at e
  · cases e
    obtain ⟨v, ws, U, W, rfl, hu, hw, hd, h1, h2⟩ := h1
    cases h2
    cases h1
    exact ⟨_, rfl, q _ G1 F1 H1 S1 f1.em itok_enumS⟩
  · cases e
/-! ### unpacking a list -/
def gU (n : Nat) (g : List D → Env → Option Env) : Eg := fun d ρ => match d with
  | .lst ds => if ds.length = n then g ds ρ else none
  | _ => none
theorem good_gu {n : Nat} {tu : TGs} {f : List D → Env → Option Env} (h : GoodGs K W tu f) : GoodG K W (gUnl K n tu) (gU n f) := by
  intro d ρ ρ' e G F H σ v S hr Q q
  unfold gU at e
  split at e
  · rename_i ds
    by_cases hn : ds.length = n
    · rw [if_pos hn] at e
      obtain ⟨a, vs, rfl, ha, hv⟩ := hr
      exact ⟨a, vs, rfl, .of (S.gh _ _ ha), by rw [hv.len]; exact hn, h ds ρ ρ' e G F H σ vs S hv Q q⟩
    · rw [if_neg hn] at e
      cases e
  · cases e

/-! ### the module's dict of texts: d.get(k, x) -/
/-- what the dict at a holds, told for every text -/
def TabK (K : PySem.W.Frag) (w : World) (a : Addr) (tab : List (List Nat × List Nat)) : Prop :=
  ∃ es n, K.lookup a = some ⟨.type "dict", none, .dict es n, #[]⟩ ∧ PySem.W.KeysLit w.params es.toList ∧ (a == sysModules) = false ∧
    ∀ s : List Nat, match tab.lookup s with
      | some z => ∃ t, PySem.W.nsIn K a ⟨s.toArray⟩ = some (some (.str ⟨z.toArray⟩ t))
      | none => PySem.W.nsIn K a ⟨s.toArray⟩ = some none
def tKGet (tab : List (List Nat × List Nat)) (ty tx : TE) : TE := fun σ H Q => ty σ H fun y H2 => tx σ H2 fun z H3 => ∃ s : List Nat, y = .str ⟨s.toArray⟩ ∧ Q (match tab.lookup s with
  | some v => .str ⟨v.toArray⟩
  | none => z) H3
theorem pe_kget {X : Cx} {x : Str} {a : Addr} {tab : List (List Nat × List Nat)} {e f : Expr} {p apos cpos : Pos} {ty tx : TE} (hg : Gl X x) (hm : X.mg x = some (.ref a)) (ht : TabK X.K X.w a tab) (he : PE X e ty) (hf : PE X f tx)
    (m : M2 X (.Name x p) "get" apos e f cpos := by exact ⟨by rfl, by rfl, by rfl, by rfl⟩) (hdb : (x == ("__debug__" : Str)) = false := by decide) : PE X (.Call (.Attribute (.Name x p) "get" apos) [e, f] [] cpos) (tKGet tab ty tx) := by
  obtain ⟨es, n, hl, hk, low, hT⟩ := ht
  refine ⟨fun pins s σ H Q I h => ?_⟩
  refine wpAny_Call_method m.base m.few m.line PySem.F.plainAttrs_dict PySem.F.slot_dict_get PySem.F.type_dict_get (ld_glob I hg hm ?_ hdb)
  have hmap := PySem.W.mapOf_K (prog := X.prog) (w := X.w) I.kIn hl hk
  refine ⟨hmap.typeIs, fun b eb => ?_, ?_⟩
  · cases eb
    exact ⟨_, I.kIn _ _ hl, rfl⟩
  rw [m.trees]
  refine Calls.callWith_builtin rfl (Calls.evalArgs_plain (Calls.spliced_cons (thn (he.run pins s σ H _ I h) fun iv s2 ⟨y, H2, I2, ry, q2⟩ =>
    Calls.spliced_cons (thn (hf.run pins s2 σ H2 _ I2 q2) fun fv s3 ⟨z, H3, I3, rz, k, ek, q3⟩ => Calls.spliced_nil ?_))))
  subst ek
  obtain ⟨t, rfl⟩ := ry
  have hmap3 := PySem.W.mapOf_K (prog := X.prog) (w := X.w) I3.kIn hl hk
  refine call_meetsIn PySem.F.slot_dict_get hmap3.typeIs PySem.F.entry_dict_get (PySem.F.args_dict_get_3 _ _ _) (meets_dict_get_default (strKind X.prog X.w) a (strKind_is X.prog X.w _ t) low fv) ⟨_, hmap3, ?_⟩
  have hk3 := hT k
  cases hq : tab.lookup k with
  | some v =>
    rw [hq] at hk3 q3
    obtain ⟨t2, h2⟩ := hk3
    rw [PySem.W.find_K hl h2]
    exact ⟨.str ⟨v.toArray⟩, H3, I3.tok _, ⟨t2, rfl⟩, q3⟩
  | none =>
    rw [hq] at hk3 q3
    rw [PySem.W.find_K hl hk3]
    exact ⟨z, H3, I3.tok _, rz, q3⟩
def rStr : R → Option (List Nat)
  | .v (.str s) => some s
  | _ => none
theorem rStr_ok {r : R} {s : List Nat} {σ : L2.St} (e : rStr r = some s) (h : RepR K G H σ T r v) : v = .str ⟨s.toArray⟩ := by
  unfold rStr at e
  split at e
  · cases e
    exact h
  · cases e
def xKGet (tab : List (List Nat × List Nat)) (f g : Ex) : Ex := fun ρ => (f ρ).bind fun p => (g p.2).bind fun q => (rStr p.1).bind fun s => (rVal q.1).map fun d => (.v (match tab.lookup s with
    | some z => .str z
    | none => d), q.2)
theorem good_kget {tab : List (List Nat × List Nat)} {ty tx : TE} {f g : Ex} (hf : GoodE K ty f) (hg : GoodE K tx g) : GoodE K (tKGet tab ty tx) (xKGet tab f g) := by
  intro ρ r ρ' e G F H σ S Q q
  unfold xKGet at e
  obtain ⟨⟨r1, ρ1⟩, e1, e⟩ := Option.bind_eq_some_iff.mp e
  obtain ⟨⟨r2, ρ2⟩, e2, e⟩ := Option.bind_eq_some_iff.mp e
  obtain ⟨s, e3, e⟩ := Option.bind_eq_some_iff.mp e
  obtain ⟨d, e4, e⟩ := Option.map_eq_some_iff.mp e
  cases e
  refine hf ρ r1 ρ1 e1 G F H σ S _ fun v1 G1 F1 H1 T1 S1 f1 h1 => ?_
  refine hg ρ1 r2 ρ2 e2 G1 F1 H1 σ S1 _ fun v2 G2 F2 H2 T2 S2 f2 h2 => ?_
  refine ⟨s, rStr_ok e3 h1, q _ G2 F2 H2 Em S2 (f1.seq f2).em ?_⟩
  cases tab.lookup s with
  | some z => rfl
  | none => exact rval_ok e4 h2

/-! ### {'k': 'v', ..}[x]: a display of written texts, subscripted -/
def kvOf (tab : List (List Nat × List Nat)) : List (Key × V) := tab.map fun p => (Sum.inr ⟨p.1.toArray⟩, V.str ⟨p.2.toArray⟩)
def dispAt (tab : List (List Nat × List Nat)) (s : List Nat) : Option (List Nat) := match valV (mergeK [] (kvOf tab)) (Sum.inr (⟨s.toArray⟩ : Str)) with
  | some (.str z) => some z.cps.toList
  | _ => none
def tConst (ps : List (Str × Str)) : List (TE × TE) := ps.map fun p => (tC (.str p.1), tC (.str p.2))
theorem tPairs_const : ∀ (ps : List (Str × Str)) (σ : L2.St) (H : Hp) (Q : List (V × V) → Hp → Prop), Q (ps.map fun p => (V.str p.1, V.str p.2)) H → tPairs (tConst ps) σ H Q
  | [], σ, H, Q, q => q
  | p :: ps, σ, H, Q, q => tPairs_const ps σ H (fun r H3 => Q ((V.str p.1, V.str p.2) :: r) H3) q
def strK (tab : List (List Nat × List Nat)) : List (Str × Str) := tab.map fun p => (⟨p.1.toArray⟩, ⟨p.2.toArray⟩)
def xDisp (tab : List (List Nat × List Nat)) (f : Ex) : Ex := fun ρ => (f ρ).bind fun p => (rStr p.1).bind fun s => (dispAt tab s).map fun z => (.v (.str z), p.2)
theorem good_disp {tab : List (List Nat × List Nat)} {ty : TE} {f : Ex} (h15 : tab.length ≤ 15) (hf : GoodE K ty f) : GoodE K (tDGet (tDisp (tConst (strK tab))) ty) (xDisp tab f) := by
  intro ρ r ρ' e G F H σ S Q q
  unfold xDisp at e
  obtain ⟨⟨r1, ρ1⟩, e1, e⟩ := Option.bind_eq_some_iff.mp e
  obtain ⟨s, e2, e⟩ := Option.bind_eq_some_iff.mp e
  obtain ⟨z, e3, e⟩ := Option.map_eq_some_iff.mp e
  cases e
  intro p hp
  refine tPairs_const (strK tab) σ _ _ ⟨upd_same, (strK tab).map fun q => (Sum.inr q.1, V.str q.2), ?_, ?_, ?_⟩
  · rw [List.map_map]
    rfl
  · rw [List.length_map]
    unfold strK
    rw [List.length_map]
    exact h15
  · rw [upd_upd]
    have ek : ((strK tab).map fun q => ((Sum.inr q.1 : Key), V.str q.2)) = kvOf tab := by
      unfold strK kvOf
      rw [List.map_map]
      rfl
    rw [ek]
    obtain ⟨S0, f0⟩ := S.newOwn (o := .dK (mergeK [] (kvOf tab))) hp
    refine hf ρ r1 _ e1 G F _ σ S0 _ fun v1 G1 F1 H1 T1 S1 f1 h1 => ?_
    obtain ⟨p1, p2, p3, p4, p5⟩ := f1.temp f0.tf f0.tg f0.th
    have hd : H1 p = some (.dK (mergeK [] (kvOf tab))) := p5 p _ rfl upd_same
    unfold dispAt at e3
    split at e3
    · rename_i w hw
      have e4 : w.cps.toList = z := Option.some.inj e3
      refine ⟨p, .str w, rfl, ?_, q _ G1 F1 H1 Em S1 (f0.seq f1).em (by subst e4; rfl)⟩
      rw [rStr_ok e2 h1]
      have hk := DGet.k (k := (Sum.inr (⟨s.toArray⟩ : Str) : Key)) hd
      rw [hw] at hk
      exact hk
    · cases e3
theorem pps_const {X : Cx} {pos : Pos} : ∀ (cs : List (Str × Nat × Pos × Str × Nat × Pos)), PPs X pos (cs.map fun c => some (.Constant (.str c.1) c.2.1 c.2.2.1)) (cs.map fun c => .Constant (.str c.2.2.2.1) c.2.2.2.2.1 c.2.2.2.2.2) (tConst (cs.map fun c => (c.1, c.2.2.2.1)))
  | [] => pps_nil
  | c :: cs => pps_cons pe_str pe_str (pps_const cs)
end
end Den

namespace Den
open PySem PySem.Spec PyProof.Rows L2

/-- an own object leaves its place -/
def xMv (i : Nat) : Ex := fun ρ => (gt ρ i).bind fun d => if d.flat then none else some (.own d, ρ.set i none)
section
variable {K : PySem.W.Frag} {G H : Hp} {F : Nat → Tp} {ρ : Env} {σ : L2.St}
theorem good_mv {i : Nat} : GoodE K (tVar i) (xMv i) := by
  intro ρ r ρ' e G F H σ S Q q
  unfold xMv at e
  obtain ⟨d, e1, e⟩ := Option.bind_eq_some_iff.mp e
  split at e
  · cases e
  · cases e
    obtain ⟨v, h1, h2⟩ := S.slot i d (gt_some e1)
    have sub : ∀ j a, (if j = i then Em else F j) a → F j a ∧ j ≠ i := fun j a h => by
      by_cases q : j = i
      · rw [if_pos q] at h
        exact h.elim
      · rw [if_neg q] at h
        exact ⟨h, q⟩
    refine ⟨v, h1, q v G (fun j => if j = i then Em else F j) H (F i) ⟨by rw [List.length_set]; exact S.len, S.gh, fun j k a h h' => S.dis j k a (sub j a h).1 (sub k a h').1, fun j a h => S.fg j a (sub j a h).1, fun j a h => S.fh j a (sub j a h).1, fun j x e => ?_⟩ ⟨Same.refl _, fun a o e _ => e, fun a h => h, fun j a h => .inl ⟨j, (sub j a h).1⟩, fun a h => .inl ⟨i, h⟩, fun a h => .inl h, fun a j t h => (sub j a h).2 (S.dis j i a (sub j a h).1 t), fun a t => S.fg i a t, fun a t => S.fh i a t⟩ h2⟩
    by_cases q : j = i
    · subst q
      have hl : j < (ρ.set j none).length := (List.getElem?_eq_some_iff.mp e).1
      rw [List.length_set] at hl
      rw [List.getElem?_set_self hl] at e
      cases e
    · rw [List.getElem?_set_ne (fun z => q z.symm)] at e
      obtain ⟨y, k1, k2⟩ := S.slot j x e
      exact ⟨y, k1, by rw [if_neg q]; exact k2⟩
end
theorem hu64 {A : Around} {k : Nat} (hr : Room k A) : A.units + 64 < cLine := hr.units
theorem hu65 {A : Around} {k : Nat} (hr : Room k A) : A.units + 65 < cLine := by
  have := hr.un
  omega
theorem hu1 {A : Around} {k : Nat} (hr : Room k A) : A.units + 1 < cLine := hu_of hr
section
variable {X : Cx} {e a b c o tg : Expr} {es rest : List Expr} {f g h : Ex} {fa : Ea} {t u : Et} {pos apos p : Pos} {W : List Nat}
theorem ae_mv (i : Nat) {x : Str} {pos : Pos} (hN : X.N[i]? = some x := by rfl) (hv : Vis X.env.scope x := by first | exact Or.inl rfl | exact Or.inr (Or.inl rfl) | exact Or.inr (Or.inr rfl)) (hd : (x == ("__debug__" : Str)) = false := by decide)
    (hcd : (x == ("__classdict__" : Str)) = false := by decide) : AE X (.Name x pos) (xMv i) := ⟨_, pe_var hN hv hd hcd, good_mv⟩
/-- a module's constant -/
theorem ae_glob {x : Str} {v : V} {u : Value} {d : D} (hg : Gl X x) (hm : X.mg x = some u) (r : RelV v u) (hr : ∀ G H, Rep X.K G H d v Em) (hd : (x == ("__debug__" : Str)) = false := by decide) : AE X (.Name x pos) (xC d) := ⟨_, pe_glob hg hm r hd, good_c hr⟩
/-- a built-in type as a value -/
theorem ae_ty {x : Str} {n : String} (hg : Gl X x) (hm : X.mg x = none) (hv : bootBuiltins x = some (.type n)) (hn : x ≠ "__name__" := by decide) (hd : (x == ("__debug__" : Str)) = false := by decide) : AE X (.Name x pos) (xC (.ty n)) := ⟨_, pe_bltn (v := .ty n) hg hm hv rfl hn hd, good_c fun _ _ => rfl⟩
theorem ae_callV {x : Str} {k n : Nat} {fA : Addr} {fd : FuncData} {ps : List Str} {den : Dn} (F : FnOk X.prog X.w X.K X.mg X.base CX0 k fA fd ps (spOf X.K n den)) (hr : Room k X.A) (hg : Gl X x) (hm : X.mg x = some (.ref fA)) (hk : PySem.W.keepIn X.K (.ref fA) = true) (hb : Binds X.K fd ps [])
    (ha : AA X (e :: es) fa) (hdb : (x == ("__debug__" : Str)) = false := by decide) (he : starEach (e :: es) X.env = (false, eval e X.env) :: starEach es X.env := by rfl) (hpl : (backTo pos (starEach es X.env)).any (·.1) = false := by rfl) :
    AE X (.Call (.Name x p) (e :: es) [] pos) (xCallV n den fa) := let ⟨_, q, q'⟩ := ha; ⟨_, pe_call (E := E0) F hr hg hm hk hb .nil pass0 q hdb he hpl, good_callV q'⟩
theorem ae_call0 {x : Str} {k : Nat} {fA : Addr} {fd : FuncData} {den : Dn} (F : FnOk X.prog X.w X.K X.mg X.base CX0 k fA fd [] (spOf X.K 0 den)) (hr : Room k X.A) (hg : Gl X x) (hm : X.mg x = some (.ref fA)) (hk : PySem.W.keepIn X.K (.ref fA) = true) (hb : Binds X.K fd [] [])
    (hdb : (x == ("__debug__" : Str)) = false := by decide) : AE X (.Call (.Name x p) [] [] pos) (xCallV 0 den xNil) := ⟨_, pe_call0 (E := E0) F hr hg hm hk hb .nil pass0 hdb, good_call0⟩
theorem ae_callL {x y : Str} {k n i : Nat} {fA : Addr} {fd : FuncData} {ps : List Str} {den : Dn} {py' : Pos} (F : FnOk X.prog X.w X.K X.mg X.base CX0 k fA fd ps (spOf X.K n den)) (hr : Room k X.A) (hg : Gl X x) (hm : X.mg x = some (.ref fA)) (hk : PySem.W.keepIn X.K (.ref fA) = true) (hb : Binds X.K fd ps [])
    (ha : AA X es fa) (hN : X.N[i]? = some y := by rfl) (hv : Vis X.env.scope y := by first | exact Or.inl rfl | exact Or.inr (Or.inl rfl) | exact Or.inr (Or.inr rfl)) (hd : (y == ("__debug__" : Str)) = false := by decide) (hcd : (y == ("__classdict__" : Str)) = false := by decide)
    (hdb : (x == ("__debug__" : Str)) = false := by decide) (he : starEach (.Name y py' :: es) X.env = (false, eval (.Name y py') X.env) :: starEach es X.env := by rfl) (hpl : (backTo pos (starEach es X.env)).any (·.1) = false := by rfl) :
    AE X (.Call (.Name x p) (.Name y py' :: es) [] pos) (xCallL n den i fa) := let ⟨_, q, q'⟩ := ha; ⟨_, pe_call (E := E0) F hr hg hm hk hb .nil pass0 (pa_cons (pe_var hN hv hd hcd) q he) hdb he hpl, good_callL q'⟩
theorem ae_bm {T id : String} {name : Str} {r : V → List V → Hp → VK → Prop} {oo : D → List D → Option D} (pa : PlainAttrs T) (slot : Slot T name id) (hty : typeOf (.builtin id) = pure (.type "method_descriptor")) (hm : MtR X id r) (go : GoodM X.K r oo) (ho : AE X o f) (ha : AA X (e :: es) fa)
    (hbase : attributeBase o name X.env (eval o X.env) = eval o X.env := by rfl)
    (hfew : ((backTo pos (starEach (e :: es) X.env)).all (fun x => !x.1) && (backToKw pos (keywordEach [] X.env)).all (fun x => x.1.isSome)
      && decide ((e :: es).length + ([] : List Keyword).length + (if ([] : List Keyword).isEmpty then 0 else 1) < 30)) = true := by rfl)
    (hline : (apos.endLine == pos.line) = true := by rfl) (hs : starEach (e :: es) X.env = (false, eval e X.env) :: starEach es X.env := by rfl) (hplain : (backTo pos (starEach es X.env)).any (·.1) = false := by rfl) :
    AE X (.Call (.Attribute o name apos) (e :: es) [] pos) (xBM T oo f fa) := let ⟨_, p1, q1⟩ := ho; let ⟨_, p2, q2⟩ := ha; ⟨_, pe_bm pa slot hty hm p1 p2 hbase hfew hline hs hplain, good_bm go q1 q2⟩
/-- x.append(e), x in the place i -/
theorem ae_app {i : Nat} {y : Str} {py' : Pos} (he : AE X e f) (hN : X.N[i]? = some y := by rfl) (hv : Vis X.env.scope y := by first | exact Or.inl rfl | exact Or.inr (Or.inl rfl) | exact Or.inr (Or.inr rfl)) (hd : (y == ("__debug__" : Str)) = false := by decide) (hcd : (y == ("__classdict__" : Str)) = false := by decide)
    (hbase : attributeBase (.Name y py') "append" X.env (eval (.Name y py') X.env) = eval (.Name y py') X.env := by rfl)
    (hfew : ((backTo pos (starEach [e] X.env)).all (fun x => !x.1) && (backToKw pos (keywordEach [] X.env)).all (fun x => x.1.isSome)
      && decide (([e] : List Expr).length + ([] : List Keyword).length + (if ([] : List Keyword).isEmpty then 0 else 1) < 30)) = true := by rfl)
    (hline : (apos.endLine == pos.line) = true := by rfl) (hs : starEach [e] X.env = (false, eval e X.env) :: starEach [] X.env := by rfl) (hplain : (backTo pos (starEach [] X.env)).any (·.1) = false := by rfl) :
    AE X (.Call (.Attribute (.Name y py') "append" apos) [e] [] pos) (xApp i f) := let ⟨_, p2, q2⟩ := he; ⟨_, pe_bm PySem.F.plainAttrs_list PySem.F.slot_list_append PySem.F.type_list_append mt_append (pe_var hN hv hd hcd) (pa_cons p2 pa_nil hs) hbase hfew hline hs hplain, good_app q2⟩
theorem ae_ext {i : Nat} {y : Str} {py' : Pos} (he : AE X e f) (hN : X.N[i]? = some y := by rfl) (hv : Vis X.env.scope y := by first | exact Or.inl rfl | exact Or.inr (Or.inl rfl) | exact Or.inr (Or.inr rfl)) (hd : (y == ("__debug__" : Str)) = false := by decide) (hcd : (y == ("__classdict__" : Str)) = false := by decide)
    (hbase : attributeBase (.Name y py') "extend" X.env (eval (.Name y py') X.env) = eval (.Name y py') X.env := by rfl)
    (hfew : ((backTo pos (starEach [e] X.env)).all (fun x => !x.1) && (backToKw pos (keywordEach [] X.env)).all (fun x => x.1.isSome)
      && decide (([e] : List Expr).length + ([] : List Keyword).length + (if ([] : List Keyword).isEmpty then 0 else 1) < 30)) = true := by rfl)
    (hline : (apos.endLine == pos.line) = true := by rfl) (hs : starEach [e] X.env = (false, eval e X.env) :: starEach [] X.env := by rfl) (hplain : (backTo pos (starEach [] X.env)).any (·.1) = false := by rfl) :
    AE X (.Call (.Attribute (.Name y py') "extend" apos) [e] [] pos) (xExt i f) := let ⟨_, p2, q2⟩ := he; ⟨_, pe_bm PySem.F.plainAttrs_list PySem.F.slot_list_extend PySem.F.type_list_extend mt_extend (pe_var hN hv hd hcd) (pa_cons p2 pa_nil hs) hbase hfew hline hs hplain, good_ext q2⟩
theorem ak_c {i : Int} {j : Nat} : AK X (.Constant (.int i) j pos) (kC i) := ⟨_, pe_int, good_kc⟩
theorem ak_n {i : Int} {j : Nat} : AK X (.UnaryOp .USub (.Constant (.int i) j p) pos) (kC (-i)) := ⟨_, pe_un un_neg pe_int, good_kn⟩
theorem ak_v (i : Nat) {x : Str} {pos : Pos} (hN : X.N[i]? = some x := by rfl) (hv : Vis X.env.scope x := by first | exact Or.inl rfl | exact Or.inr (Or.inl rfl) | exact Or.inr (Or.inr rfl)) (hd : (x == ("__debug__" : Str)) = false := by decide)
    (hcd : (x == ("__classdict__" : Str)) = false := by decide) : AK X (.Name x pos) (kV i) := ⟨_, pe_var hN hv hd hcd, good_kv⟩
theorem ap_v (i : Nat) {x : Str} {pos : Pos} (hN : X.N[i]? = some x := by rfl) (hv : Vis X.env.scope x := by first | exact Or.inl rfl | exact Or.inr (Or.inl rfl) | exact Or.inr (Or.inr rfl)) (hd : (x == ("__debug__" : Str)) = false := by decide)
    (hcd : (x == ("__classdict__" : Str)) = false := by decide) : AP X (.Name x pos) (pV i) := ⟨_, pe_var hN hv hd hcd, good_pv⟩
theorem al_v (i : Nat) {x : Str} {pos : Pos} (hN : X.N[i]? = some x := by rfl) (hv : Vis X.env.scope x := by first | exact Or.inl rfl | exact Or.inr (Or.inl rfl) | exact Or.inr (Or.inr rfl)) (hd : (x == ("__debug__" : Str)) = false := by decide)
    (hcd : (x == ("__classdict__" : Str)) = false := by decide) : AL X (.Name x pos) (lV i) := ⟨_, pe_var hN hv hd hcd, good_lv⟩
theorem al_ix {lp : Ep} {k : Ek} (ha : AL X a lp) (hb : AK X b k) (hs : PlainIx b := by exact fun _ _ => rfl) : AL X (.Subscript a b pos) (lIx lp k) := let ⟨_, p1, q1⟩ := ha; let ⟨_, p2, q2⟩ := hb; ⟨_, pe_ix ix_list p1 p2 hs, good_lix q1 q2⟩
/-- l.append(y), l an item of an item .., y a name -/
theorem ae_appP {lp : Ep} {q : Eq'} (ho : AL X o lp) (he : AP X e q) (hbase : attributeBase o "append" X.env (eval o X.env) = eval o X.env := by rfl)
    (hfew : ((backTo pos (starEach [e] X.env)).all (fun x => !x.1) && (backToKw pos (keywordEach [] X.env)).all (fun x => x.1.isSome)
      && decide (([e] : List Expr).length + ([] : List Keyword).length + (if ([] : List Keyword).isEmpty then 0 else 1) < 30)) = true := by rfl)
    (hline : (apos.endLine == pos.line) = true := by rfl) (hs : starEach [e] X.env = (false, eval e X.env) :: starEach [] X.env := by rfl) (hplain : (backTo pos (starEach [] X.env)).any (·.1) = false := by rfl) :
    AE X (.Call (.Attribute o "append" apos) [e] [] pos) (xAppP lp q) := let ⟨_, p1, q1⟩ := ho; let ⟨_, p2, q2⟩ := he; ⟨_, pe_bm PySem.F.plainAttrs_list PySem.F.slot_list_append PySem.F.type_list_append mt_append p1 (pa_cons p2 pa_nil hs) hbase hfew hline hs hplain, good_appP q1 q2⟩
/-- o[i] = e -/
theorem as_sto {lp : Ep} {k : Ek} {i : Expr} {tpos : Pos} (he : AE X e f) (ho : AL X o lp) (hi : AK X i k)
    (ha : ∀ v, assign (.Subscript o i tpos) X.env v = (do
      let ov ← holding [v] (eval o X.env)
      let iv ← holding [v, ov] (eval i X.env)
      standAt tpos
      holding [v, ov, iv] (setItem ov iv v)
      release [v, ov, iv] []) := by intro _; rfl)
    (hs : swapsWithSole [.Subscript o i tpos] e pos.line X.env = pure false := by rfl) (hw : swappedStores [.Subscript o i tpos] e X.env = pure none := by rfl)
    (h1 : (assignEach [.Subscript o i tpos] X.env).map (·.2) = [assign (.Subscript o i tpos) X.env] := by rfl) : AS X W (.Assign [.Subscript o i tpos] e pos) (sSto f lp k) :=
  let ⟨_, p0, q0⟩ := he; let ⟨_, p1, q1⟩ := ho; let ⟨_, p2, q2⟩ := hi; ⟨_, ps_asg p0 (pg_sub p1 p2 set_list ha) hs hw h1, good_sto q0 q1 q2⟩
theorem ai_es {elts : List Expr} {kk : Nat} {tpos : Pos} (hg : Gl X "enumerate") (hm : X.mg "enumerate" = none) (h : AA X [a] fa) (hs : starEach [a] X.env = [(false, eval a X.env)] := by rfl) : AI X (.Tuple elts kk tpos) (.Call (.Name "enumerate" p) [a] [] pos) (iES fa) := let ⟨_, q, q'⟩ := h; ⟨_, pi_enumS hg hm q hs, good_ies q'⟩
theorem ag_u {k : Nat} {n : Nat} {gs : List D → Env → Option Env} (hc : X.calm = true) (h : AGs X W es gs) (hn : (assignEach es X.env).length = n := by rfl) (hst : (assignEach es X.env).findIdx? (·.1) = none := by rfl) : AG X W (.Tuple es k pos) (gU n gs) := let ⟨_, p, q⟩ := h; ⟨_, pg_unl hc p hn hst, good_gu q⟩
theorem ae_kget {x : Str} {aA : Addr} {tab : List (List Nat × List Nat)} {cpos : Pos} (hg : Gl X x) (hm : X.mg x = some (.ref aA)) (ht : TabK X.K X.w aA tab) (he : AE X a f) (hf : AE X b g)
    (m : M2 X (.Name x p) "get" apos a b cpos := by exact ⟨by rfl, by rfl, by rfl, by rfl⟩) (hdb : (x == ("__debug__" : Str)) = false := by decide) : AE X (.Call (.Attribute (.Name x p) "get" apos) [a, b] [] cpos) (xKGet tab f g) :=
  let ⟨_, p1, q1⟩ := he; let ⟨_, p2, q2⟩ := hf; ⟨_, pe_kget hg hm ht p1 p2 m hdb, good_kget q1 q2⟩
theorem ae_disp {keys : List (Option Expr)} {values : List Expr} {dpos : Pos} {tab : List (List Nat × List Nat)} {trs : List (TE × TE)} (hu : X.A.units + 1 < cLine) (hd : PPs X dpos keys values trs) (et : trs = tConst (strK tab)) (he : AE X b f) (h15 : tab.length ≤ 15)
    (hall : keys.all (·.isSome) = true := by rfl) (hl : keys.length = values.length := by rfl) (h0 : keys ≠ [] := by exact fun z => by cases z) (hk15 : keys.length ≤ 15 := by decide) (hs : NoSl b := by exact fun _ _ => rfl) : AE X (.Subscript (.Dict keys values dpos) b pos) (xDisp tab f) := by
  subst et
  obtain ⟨_, p2, q2⟩ := he
  exact ⟨_, pe_dget hu (pe_disp hd hall hl h0 hk15) p2 hs, good_disp h15 q2⟩
end
end Den

namespace Den
open PySem PySem.Spec PyProof.Rows L2
/-! what is walked, and what is unpacked, by the datum -/
def itemsOf : D → Option (List D)
  | .lst ds => some ds
  | .rd ds => some ds
  | .tup ds => some ds
  | .str s => some (signs s)
  | _ => none
def iA (f : Ex) : Ei := fun ρ => (f ρ).bind fun p => (rVal p.1).bind fun d => (itemsOf d).map fun ds => (ds, p.2)
def iEA (g : Ea) : Ei := fun ρ => (g ρ).bind fun p => match p.1 with
  | [.v d] => (match d with
    | .lst ds => some ds
    | .rd ds => some ds
    | .str s => some (signs s)
    | _ => none).map fun ds => (enumL 0 ds, p.2)
  | _ => none
def gA (n : Nat) (g : List D → Env → Option Env) : Eg := fun d ρ => match d with
  | .tup ds => if ds.length = n then g ds ρ else none
  | .lst ds => if ds.length = n then g ds ρ else none
  | _ => none
section
variable {K : PySem.W.Frag} {W : List Nat}
theorem good_ia {te : TE} {f : Ex} (h : GoodE K te f) : GoodI K (fun σ H R => iList K te σ H R ∨ iTup K te σ H R ∨ iStr te σ H R) (iA f) := by
  intro ρ ds ρ' e G F H σ S R q
  unfold iA at e
  obtain ⟨⟨r1, ρ1⟩, e1, e⟩ := Option.bind_eq_some_iff.mp e
  obtain ⟨d, e2, e⟩ := Option.bind_eq_some_iff.mp e
  obtain ⟨es, e3, e⟩ := Option.map_eq_some_iff.mp e
  cases e
  cases d with
  | lst xs =>
    refine .inl (good_il h ρ _ _ ?_ G F H σ S R q)
    unfold iL
    rw [e1]
    simp only [Option.bind_some, e2]
    exact congrArg (Option.map _) e3
  | rd xs =>
    refine .inl (good_il h ρ _ _ ?_ G F H σ S R q)
    unfold iL
    rw [e1]
    simp only [Option.bind_some, e2]
    exact congrArg (Option.map _) e3
  | tup xs =>
    refine .inr (.inl (good_it h ρ _ _ ?_ G F H σ S R q))
    unfold iT
    rw [e1]
    simp only [Option.bind_some, e2]
    exact congrArg (Option.map _) e3
  | str s =>
    refine .inr (.inr (good_is h ρ _ _ ?_ G F H σ S R q))
    unfold iS
    rw [e1]
    cases r1 with
    | v x =>
      cases e2
      cases e3
      rfl
    | _ => cases e2
  | _ => cases e3
theorem good_iea {ta : TA} {g : Ea} (h : GoodA K ta g) : GoodI K (fun σ H R => iEnum K ta σ H R ∨ iEnumS ta σ H R) (iEA g) := by
  intro ρ ds ρ' e G F H σ S R q
  unfold iEA at e
  obtain ⟨⟨rs, ρ1⟩, e1, e⟩ := Option.bind_eq_some_iff.mp e
  dsimp only at e
  split at e
  · obtain ⟨es, e3, e⟩ := Option.map_eq_some_iff.mp e
    cases e
    split at e3
    · cases e3
      exact .inl (good_ie h ρ _ ρ' (by unfold iE; rw [e1]; rfl) G F H σ S R q)
    · cases e3
      exact .inl (good_ie h ρ _ ρ' (by unfold iE; rw [e1]; rfl) G F H σ S R q)
    · cases e3
      exact .inr (good_ies h ρ _ ρ' (by unfold iES; rw [e1]; rfl) G F H σ S R q)
    · cases e3
  · cases e
theorem good_ga {n : Nat} {tu : TGs} {f : List D → Env → Option Env} (h : GoodGs K W tu f) : GoodG K W (fun v σ H Q => gTup K n tu v σ H Q ∨ gUnl K n tu v σ H Q) (gA n f) := by
  intro d ρ ρ' e G F H σ v S hr Q q
  cases d with
  | tup ds => exact .inl (good_gt h (.tup ds) ρ ρ' e G F H σ v S hr Q q)
  | lst ds => exact .inr (good_gu h (.lst ds) ρ ρ' e G F H σ v S hr Q q)
  | _ => cases e
end
section
variable {X : Cx} {W : List Nat} {e a b tg : Expr} {es : List Expr} {x : Ex} {fa : Ea} {pos p : Pos}
theorem ai_a (h : AE X e x) : AI X tg e (iA x) := by
  obtain ⟨t, p, q⟩ := h
  refine ⟨_, ⟨fun pins s σ H R I w => ?_⟩, good_ia q⟩
  rcases w with w | w | w
  · exact (pi_list p).run pins s σ H R I w
  · exact (pi_tup p).run pins s σ H R I w
  · exact (pi_str p).run pins s σ H R I w
theorem ai_ea {elts : List Expr} {kk : Nat} {tpos : Pos} (hg : Gl X "enumerate") (hm : X.mg "enumerate" = none) (h : AA X [a] fa) (hs : starEach [a] X.env = [(false, eval a X.env)] := by rfl) : AI X (.Tuple elts kk tpos) (.Call (.Name "enumerate" p) [a] [] pos) (iEA fa) := by
  obtain ⟨t, q, q'⟩ := h
  refine ⟨_, ⟨fun pins s σ H R I w => ?_⟩, good_iea q'⟩
  rcases w with w | w
  · exact (pi_enum hg hm q hs).run pins s σ H R I w
  · exact (pi_enumS hg hm q hs).run pins s σ H R I w
theorem ag_a {k : Nat} {n : Nat} {gs : List D → Env → Option Env} (hc : X.calm = true) (h : AGs X W es gs) (hn : (assignEach es X.env).length = n := by rfl) (hst : (assignEach es X.env).findIdx? (·.1) = none := by rfl) : AG X W (.Tuple es k pos) (gA n gs) := by
  obtain ⟨t, p, q⟩ := h
  refine ⟨_, ⟨fun pins s σ H v u Q I r w => ?_⟩, good_ga q⟩
  rcases w with w | w
  · exact (pg_tup hc p hn hst).run pins s σ H v u Q I r w
  · exact (pg_unl hc p hn hst).run pins s σ H v u Q I r w
end
end Den

namespace Den
open PySem PySem.Spec PyProof.Rows L2
/-- the def x of the text stands behind the top -/
def HasDef (K : PySem.W.Frag) (mg : Str → Option Value) (x : Str) (st : Stmt) : Prop := ∃ fA fd, Fun K x x st fA fd ∧ mg x = some (.ref fA)
/-- the def x keeps its denotation -/
def OkDef (P : Program) (w : World) (K : PySem.W.Frag) (mg : Str → Option Value) (base : Heap) (k : Nat) (x : Str) (ps : List Str) (den : Dn) : Prop :=
  ∃ fA fd, FnOk P w K mg base CX0 k fA fd ps (spOf K ps.length den) ∧ mg x = some (.ref fA) ∧ PySem.W.keepIn K (.ref fA) = true ∧ Binds K fd ps []
theorem okdef {P : Program} {w : World} {K : PySem.W.Frag} {mg : Str → Option Value} {base : Heap} {x : Str} {st : Stmt} {N ps : List Str} {k : Nat} {W : List Nat} {b : Es} (h : HasDef K mg x st) (Sc : FnScope N ps (defScope st)) (hN : ps.length ≤ N.length)
    (hbind : ∀ (kV doc pm : Value) (an : Option Addr) (cdv ct : Value) (us : List Value), us.length = ps.length → bindArgs (PySem.W.fnOf x x (defArgs st) (defBody st) (defScope st) .none kV doc pm an cdv ct) ⟨us, []⟩ = pure (ps.zip us))
    (hb : ∀ (f : Addr) (cdv : Value) (A : Around) (outer : List PySem.Env) (s : Shared) (H : Hp) (E : XK), Room k (A.deeper (envOfC x (defScope st) s.heap.objs.size f cdv)) →
      ASs (cxOf CX0 P w K mg base N x (defScope st) f cdv A outer s H E).nox W (defBody st) b) : OkDef P w K mg base (k + 1) x ps (dnOf W ps.length N.length b) := by
  obtain ⟨fA, fd, F, hm⟩ := h
  exact ⟨fA, fd, def_ok F Sc hN (hb fA), hm, F.kp, F.binds hbind⟩
structure TopIs (X : Cx) (P : Program) (w : World) (K : PySem.W.Frag) (mg : Str → Option Value) (base : Heap) : Prop where
  p : X.prog = P
  w : X.w = w
  k : X.K = K
  m : X.mg = mg
  b : X.base = base
section
variable {X : Cx} {P : Program} {w : World} {K : PySem.W.Frag} {mg : Str → Option Value} {base : Heap} {e : Expr} {es : List Expr} {fa : Ea} {pos p : Pos}
theorem ae_cV {x : Str} {k : Nat} {ps : List Str} {den : Dn} (c : OkDef P w K mg base k x ps den) (hr : Room k X.A) (hg : Gl X x)
    (ha : AA X (e :: es) fa) (t : TopIs X P w K mg base := by exact ⟨rfl, rfl, rfl, rfl, rfl⟩) (hdb : (x == ("__debug__" : Str)) = false := by decide) (he : starEach (e :: es) X.env = (false, eval e X.env) :: starEach es X.env := by rfl) (hpl : (backTo pos (starEach es X.env)).any (·.1) = false := by rfl) :
    AE X (.Call (.Name x p) (e :: es) [] pos) (xCallV ps.length den fa) := by
  obtain ⟨rfl, rfl, rfl, rfl, rfl⟩ := t
  obtain ⟨fA, fd, F, hm, hk, hb⟩ := c
  exact ae_callV F hr hg hm hk hb ha hdb he hpl
theorem ae_c0 {x : Str} {k : Nat} {den : Dn} (c : OkDef P w K mg base k x [] den) (hr : Room k X.A) (hg : Gl X x) (t : TopIs X P w K mg base := by exact ⟨rfl, rfl, rfl, rfl, rfl⟩) (hdb : (x == ("__debug__" : Str)) = false := by decide) : AE X (.Call (.Name x p) [] [] pos) (xCallV 0 den xNil) := by
  obtain ⟨rfl, rfl, rfl, rfl, rfl⟩ := t
  obtain ⟨fA, fd, F, hm, hk, hb⟩ := c
  exact ae_call0 F hr hg hm hk hb hdb
theorem ae_cL {x y : Str} {k : Nat} {ps : List Str} {den : Dn} (i : Nat) {py' : Pos} (c : OkDef P w K mg base k x ps den) (hr : Room k X.A) (hg : Gl X x)
    (ha : AA X es fa) (t : TopIs X P w K mg base := by exact ⟨rfl, rfl, rfl, rfl, rfl⟩) (hN : X.N[i]? = some y := by rfl) (hv : Vis X.env.scope y := by first | exact Or.inl rfl | exact Or.inr (Or.inl rfl) | exact Or.inr (Or.inr rfl)) (hd : (y == ("__debug__" : Str)) = false := by decide) (hcd : (y == ("__classdict__" : Str)) = false := by decide)
    (hdb : (x == ("__debug__" : Str)) = false := by decide) (he : starEach (.Name y py' :: es) X.env = (false, eval (.Name y py') X.env) :: starEach es X.env := by rfl) (hpl : (backTo pos (starEach es X.env)).any (·.1) = false := by rfl) :
    AE X (.Call (.Name x p) (.Name y py' :: es) [] pos) (xCallL ps.length den i fa) := by
  obtain ⟨rfl, rfl, rfl, rfl, rfl⟩ := t
  obtain ⟨fA, fd, F, hm, hk, hb⟩ := c
  exact ae_callL F hr hg hm hk hb ha hN hv hd hcd hdb he hpl
theorem ae_gl {x : Str} {v : V} {u : Value} {d : D} (hm : mg x = some u) (hr : ∀ G H, Rep K G H d v Em) (r : RelV v u) (hg : Gl X x) (tm : X.mg = mg := by rfl) (tk : X.K = K := by rfl) (hd : (x == ("__debug__" : Str)) = false := by decide) : AE X (.Name x pos) (xC d) := by
  subst tm tk
  exact ae_glob hg hm r hr hd
theorem ae_kg {x : Str} {a b : Expr} {f g : Ex} {aA : Addr} {tab : List (List Nat × List Nat)} {apos cpos : Pos} (hm : mg x = some (.ref aA)) (ht : TabK K w aA tab) (hg : Gl X x) (he : AE X a f) (hf : AE X b g) (tm : X.mg = mg := by rfl) (tk : X.K = K := by rfl) (tw : X.w = w := by rfl)
    (m : M2 X (.Name x p) "get" apos a b cpos := by exact ⟨by rfl, by rfl, by rfl, by rfl⟩) (hdb : (x == ("__debug__" : Str)) = false := by decide) : AE X (.Call (.Attribute (.Name x p) "get" apos) [a, b] [] cpos) (xKGet tab f g) := by
  subst tm tk tw
  exact ae_kget hg hm ht he hf m hdb
end
end Den
namespace Den
open PySem PySem.Spec PyProof.Rows L2
theorem hasDef_of {K : PySem.W.Frag} {h : Heap} {mg : Str → Option Value} (X : K.In h) (G : h.Ns mainGlobals mg) {x : Str} {st : Stmt} {f : Addr} {oc : Value} {od an : Option Addr} {osl : Array (Option Value)} {kV doc pm cdv ct : Value}
    (a : PySem.W.nsIn K mainGlobals x = some (some (.ref f))) (l : K.lookup f = some ⟨oc, od, .func (PySem.W.fnOf x x (defArgs st) (defBody st) (defScope st) .none kV doc pm an cdv ct), osl⟩)
    (c : PySem.W.codeIn K cdv x = true) (k : PySem.W.keepIn K (.ref f) = true) : HasDef K mg x st := ⟨f, _, fun_mk l c k, PySem.W.mg_of X G a⟩
/-- a law's promise -/
def spLaw (K : PySem.W.Frag) : Sp := fun vs H Q _ => ∃ (a : Addr) (ns : List Int), vs = [.ref a] ∧ SqL K H a (ns.map V.int) ∧ ns.length ≤ 63 ∧ ∀ H', Q (.bl true) H'
theorem reps_ints {K : PySem.W.Frag} {G H : Hp} : ∀ ns : List Int, Reps K G H (ns.map D.int) (ns.map V.int) Em
  | [] => rfl
  | n :: ns => ⟨_, _, Em, Em, rfl, fun _ z => z, fun _ z => z, fun _ z _ => z, rfl, reps_ints ns⟩
theorem law_of {P : Program} {w : World} {K : PySem.W.Frag} {mg : Str → Option Value} {base : Heap} {k : Nat} {f : Addr} {fd : FuncData} {ps : List Str} {den : Dn} (F : FnOk P w K mg base CX0 k f fd ps (spOf K 1 den))
    (pb : ∀ ns : List Int, ns.length ≤ 63 → ∃ es, den [.rd (ns.map D.int)] = some (.v (.bl true), es)) : FnOk P w K mg base CX0 k f fd ps (spLaw K) := by
  refine F.imp fun vs H Q E h => ?_
  obtain ⟨a, ns, rfl, hS, hl, q⟩ := h
  obtain ⟨es, e⟩ := pb ns hl
  refine ⟨[.rd (ns.map D.int)], _, es, H, fun _ => Em, rfl, rfl, e, ⟨rfl, Same.refl _, fun _ _ _ z => z.elim, fun _ _ z => z.elim, fun _ _ z => z.elim, fun i d ei => ?_⟩, fun v G' F' H' T _ _ hr => ?_⟩
  · cases i with
    | zero =>
      cases ei
      exact ⟨.ref a, rfl, a, ns.map V.int, rfl, hS, reps_ints ns⟩
    | succ i => simp [envOf] at ei
  · cases hr
    exact q H'
/-- a written dict of texts -/
theorem tabK_of {K : PySem.W.Frag} {w : World} {a : Addr} {es : Array DictEntry} {n : Nat} {tab : List (List Nat × List Nat)} (hl : K.lookup a = some ⟨.type "dict", none, .dict es n, #[]⟩) (hk : PySem.W.KeysLit w.params es.toList) (low : (a == sysModules) = false)
    (ht : Paired (fun (p : List Nat × List Nat) (e : DictEntry) => (∃ t, e.key = .str ⟨p.1.toArray⟩ t) ∧ ∃ t, e.val = .str ⟨p.2.toArray⟩ t) tab es.toList) : TabK K w a tab := by
  refine ⟨es, n, hl, hk, low, fun s => ?_⟩
  have go : ∀ {tab : List (List Nat × List Nat)} {l : List DictEntry}, Paired (fun (p : List Nat × List Nat) (e : DictEntry) => (∃ t, e.key = .str ⟨p.1.toArray⟩ t) ∧ ∃ t, e.val = .str ⟨p.2.toArray⟩ t) tab l →
      (match tab.lookup s with
        | some z => ∃ e t, l.find? (·.key.isStr ⟨s.toArray⟩) = some e ∧ e.val = .str ⟨z.toArray⟩ t
        | none => l.find? (·.key.isStr ⟨s.toArray⟩) = none) ∧ l.any (·.refKey) = false := by
    intro tab l h
    induction h with
    | nil => exact ⟨rfl, rfl⟩
    | @cons p e ps es r t ih =>
      obtain ⟨⟨t1, e1⟩, t2, e2⟩ := r
      have hs : e.key.isStr ⟨s.toArray⟩ = decide (p.1 = s) := by
        rw [e1, PySem.W.isStr_of]
        show ((⟨p.1.toArray⟩ : Str) == ⟨s.toArray⟩) = _
        rw [Bool.eq_iff_iff]
        simp [Str.mk.injEq]
      refine ⟨?_, ?_⟩
      · by_cases q : p.1 = s
        · have hb : (s == p.1) = true := by rw [q]; exact beq_self_eq_true s
          have : List.lookup s (p :: ps) = some p.2 := by
            obtain ⟨p1, p2⟩ := p
            simp only [List.lookup, hb]
          rw [this]
          exact ⟨e, t2, by rw [List.find?_cons, hs, decide_eq_true q], e2⟩
        · have hb : (s == p.1) = false := beq_eq_false_iff_ne.mpr fun z => q z.symm
          have : List.lookup s (p :: ps) = List.lookup s ps := by
            obtain ⟨p1, p2⟩ := p
            simp only [List.lookup, hb]
          rw [this, List.find?_cons, hs, decide_eq_false q]
          exact ih.1
      · rw [List.any_cons, ih.2, Bool.or_false]
        unfold DictEntry.refKey
        rw [e1]
  obtain ⟨h1, h2⟩ := go ht
  unfold PySem.W.nsIn
  rw [hl]
  dsimp only
  cases hq : tab.lookup s with
  | some z =>
    rw [hq] at h1
    obtain ⟨e, t, h3, h4⟩ := h1
    exact ⟨t, by rw [h3]; dsimp only; rw [h4]⟩
  | none =>
    rw [hq] at h1
    rw [h1]
    dsimp only
    rw [h2] <;> rfl
/-- a written tuple -/
theorem repK_tup {K : PySem.W.Frag} {a : Addr} {o : Obj} {its : Array Value} {n : Nat} {vs : List V} {ds : List D} (hl : K.lookup a = some o) (hc : o.cls = .type "tuple") (hd : o.data = .seq its n) (hz : its.size ≤ sizeLine) (hv : Vals vs its.toList)
    (hr : ∀ G H, Reps K G H ds vs Em) (G H : Hp) : Rep K G H (.tup ds) (.ref a) Em := ⟨a, vs, rfl, .inr ⟨o, its, n, hl, hc, hd, hz, hv⟩, hr G H⟩
end Den

/-! str.replace of written texts: what wants a token out -/
namespace Den
open PySem PySem.Spec PyProof.Rows L2
structure AET (X : Cx) (e : Expr) (f : Ex) : Prop where
  ex : ∃ t, PET X e t ∧ GoodE X.K t f
structure AST (X : Cx) (W : List Nat) (s : Stmt) (f : Es) : Prop where
  ex : ∃ t, PST X s t ∧ GoodS X.K W t f
structure ASsT (X : Cx) (W : List Nat) (s : List Stmt) (f : Es) : Prop where
  ex : ∃ t, PSsT X s t ∧ GoodS X.K W t f
/-- the text with each y replaced by z -/
def replT (y z : Str) (l : List Nat) : List Nat := (Txt.replace (⟨l.toArray⟩ : Str) y z).cps.toList
def xRepl (y z : Str) (f : Ex) : Ex := fun ρ => (f ρ).bind fun p => (rStr p.1).bind fun s => if s.length + (s.length + 1) * z.length ≤ 16777216 then some (.v (.str (replT y z s)), p.2) else none
section
variable {X : Cx} {W : List Nat} {e a b c o : Expr} {ss ss' : List Stmt} {s : Stmt} {f g : Ex} {t : Et} {u u' : Es} {y z : Str} {j k : Nat} {c0 c1 apos pos p : Pos}
theorem good_repl {to : TE} (h : GoodE X.K to f) : GoodE X.K (CwR.tReplC to y z) (xRepl y z f) := by
  intro ρ r ρ' e G F H σ S Q q
  unfold xRepl at e
  obtain ⟨⟨r1, ρ1⟩, e1, e⟩ := Option.bind_eq_some_iff.mp e
  obtain ⟨s, e2, e⟩ := Option.bind_eq_some_iff.mp e
  split at e
  · rename_i hl
    cases e
    refine h ρ r1 ρ1 e1 G F H σ S _ fun v G1 F1 H1 T1 S1 f1 h1 => ?_
    refine ⟨_, rStr_ok e2 h1, ?_, q _ G1 F1 H1 Em S1 f1.em ?_⟩
    · exact hl
    · show V.str _ = V.str _
      congr 1
  · cases e
theorem aet_of (h : AE X e f) : AET X e f := let ⟨_, p, q⟩ := h; ⟨_, CwR.PET.of p, q⟩
theorem ast_of (h : AS X W s u) : AST X W s u := let ⟨_, p, q⟩ := h; ⟨_, PST.of p, q⟩
theorem asst_of (h : ASs X W ss u) : ASsT X W ss u := let ⟨_, p, q⟩ := h; ⟨_, PSsT.of p, q⟩
theorem aet_repl (h : AET X o f) (hyz : (y == z) = false := by decide)
    (hst : starEach [.Constant (.str y) j c0, .Constant (.str z) k c1] X.env = [(false, eval (.Constant (.str y) j c0) X.env), (false, eval (.Constant (.str z) k c1) X.env)] := by rfl)
    (hbase : attributeBase o "replace" X.env (eval o X.env) = eval o X.env := by rfl) (hline : (apos.endLine == pos.line) = true := by rfl) :
    AET X (.Call (.Attribute o "replace" apos) [.Constant (.str y) j c0, .Constant (.str z) k c1] [] pos) (xRepl y z f) := let ⟨_, p, q⟩ := h; ⟨_, CwR.pet_replT p hyz hst hbase hline, good_repl q⟩
theorem aet_op {op : Operator} {r : R2} {o : D → D → Option D} (ho : OpR X (binaryOp op) r) (hg : GoodR X.K r o) (ha : AET X a f) (hb : AET X b g) : AET X (.BinOp a op b pos) (xOp o f g) :=
  let ⟨_, p1, q1⟩ := ha; let ⟨_, p2, q2⟩ := hb; ⟨_, CwR.pet_op ho p1 p2, good_op hg q1 q2⟩
theorem ast_ret (h : AET X e f) : AST X W (.Return (some e) pos) (sRet f) := let ⟨_, p, q⟩ := h; ⟨_, CwR.pst_ret p, good_ret q⟩
theorem asst_nil : ASsT X W [] sNil := ⟨_, CwR.psst_nil, good_snil⟩
theorem asst_cons (h : AST X W s u) (h' : ASsT X W ss u') : ASsT X W (s :: ss) (sSeq u u') := let ⟨_, p, q⟩ := h; let ⟨_, p', q'⟩ := h'; ⟨_, psst_cons p p', good_seq q q'⟩
theorem asst_one (h : AST X W s u) : ASsT X W [s] u := let ⟨_, p, q⟩ := h; ⟨_, CwR.psst_one p, q⟩
theorem ast_if (ht : AT X c t) (h : ASsT X W ss u) (h' : ASsT X W ss' u') : AST X W (.If c ss ss' pos) (sIf t u u') := let ⟨_, p0, q0⟩ := ht; let ⟨_, p, q⟩ := h; let ⟨_, p', q'⟩ := h'; ⟨_, CwR.pst_if p0 p p', good_sif q0 q q'⟩
theorem pst_set {i : Nat} {x : Str} {e : Expr} {te : TE} {pos' : Pos} (hN : X.N.Nodup) (hi : X.N[i]? = some x) (hx : Loc X.env.scope x) (he : PET X e te) (hs : swapsWith e (some (.Name x pos')) pos.line X.env = pure false := by rfl) (hf : X.fn x = true ∨ X.env.scope.names.lookup x = some .local := by first | exact .inl rfl | exact .inr rfl | assumption) :
    PST X (.Assign [.Name x pos'] e pos) (tAsg te (gName i)) := by
  intro pins s σ H D h0 I h
  refine wpAny_Assign_Name (thn (he pins s σ H _ h0 I h) fun v s1 ⟨y, H1, I1, r1, q1⟩ => ?_) hs
  exact store_ok I1 hN hi hx r1 (fun s2 I2 => ⟨_, H1, I2, q1⟩) hf
theorem ast_set {i : Nat} {y : Str} {pos' : Pos} (hN : X.N.Nodup) (hi : X.N[i]? = some y) (hx : Loc X.env.scope y) (he : AET X e f) (hw : i ∈ W := by decide) (hs : swapsWith e (some (.Name y pos')) pos.line X.env = pure false := by rfl)
    (hf : X.fn y = true ∨ X.env.scope.names.lookup y = some .local := by first | exact .inl rfl | exact .inr rfl) :
    AST X W (.Assign [.Name y pos'] e pos) (sSet i f) := let ⟨_, p, q⟩ := he; ⟨_, pst_set hN hi hx p hs hf, good_set hw q⟩
end
theorem psst_nox {X : Cx} {st : List Stmt} {t : TS} (h : PSsT X.nox st t) : PSsT X st t := by
  intro pins s σ H D h0 I hw
  exact wpAny_mono (h pins s σ H D h0 (I.wish _) hw) (fun _ _ q => q.unwish) fun _ _ z => False.elim z
section
variable {P : Program} {w : World} {K : PySem.W.Frag} {mg : Str → Option Value} {base : Heap}
theorem okT {x qual : Str} {st : Stmt} {f : Addr} {fd : FuncData} {N ps : List Str} {k : Nat} {sp : Sp} (F : Fun K x qual st f fd) (S : FnScope N ps (defScope st)) (hnc : ∀ y ∈ (defScope st).names, y.2 ≠ .cell) (hps : 1 ≤ ps.length) (len : ∀ vs H Q E, sp vs H Q E → vs.length = ps.length)
    (hbody : ∀ (cdv : Value) (A : Around) (outer : List PySem.Env) (s : Shared) (H : Hp) (vs : List V) (Q : VK) (E : XK), Room k (A.deeper (envOfC qual (defScope st) s.heap.objs.size f cdv)) → sp vs H Q E →
      ∃ t, PSsT (cxOf CX0 P w K mg base N qual (defScope st) f cdv A outer s H E).nox (defBody st) t ∧ t { nx := fun _ H' => Q .non H', rt := Q } (start N vs) H) : FnOk P w K mg base CX0 (k + 1) f fd ps sp := by
  obtain ⟨oc, od, kV, doc, pm, an, cdv, ct, osl, rfl, lk, hcd⟩ := F.ex
  refine fn_ofT lk hcd S hnc hps len fun A outer s H vs Q E hr hsp => ?_
  obtain ⟨t, h, q⟩ := hbody cdv A outer s H vs Q E hr hsp
  exact ⟨t, psst_nox h, q⟩
theorem def_okT {x qual : Str} {st : Stmt} {f : Addr} {fd : FuncData} {N ps : List Str} {k : Nat} {W : List Nat} {b : Es} (Fu : Fun K x qual st f fd) (Sc : FnScope N ps (defScope st))
    (hnc : ∀ y ∈ (defScope st).names, y.2 ≠ .cell) (hps : 1 ≤ ps.length) (hN : ps.length ≤ N.length) (hb : ∀ (cdv : Value) (A : Around) (outer : List PySem.Env) (s : Shared) (H : Hp) (E : XK), Room k (A.deeper (envOfC qual (defScope st) s.heap.objs.size f cdv)) →
      ASsT (cxOf CX0 P w K mg base N qual (defScope st) f cdv A outer s H E).nox W (defBody st) b) :
    FnOk P w K mg base CX0 (k + 1) f fd ps (spOf K ps.length (dnOf W ps.length N.length b)) := by
  refine okT Fu Sc hnc hps (fun vs H Q E h => ?_) (fun cdv A outer s H vs Q E hr h => ?_)
  · obtain ⟨ds, r, ds', G, F, hl, hv, _⟩ := h
    exact hv
  · obtain ⟨ds, r, ds', G, F, hl, hv, e, S, q⟩ := h
    obtain ⟨t, p, g⟩ := hb cdv A outer s H E hr
    unfold dnOf at e
    rw [if_pos hl] at e
    obtain ⟨o, eo, e⟩ := Option.bind_eq_some_iff.mp e
    have hdv : ds.length = vs.length := hl.trans hv.symm
    have S0 : Sim K G F H (ds.map some ++ List.replicate (N.length - ps.length) none) (start N vs) := by
      refine ⟨?_, S.gh, S.dis, S.fg, S.fh, fun i d ei => ?_⟩
      · unfold L2.start
        rw [List.length_append, List.length_append, List.length_map, List.length_map, List.length_replicate, List.length_replicate, hdv, hv]
      · by_cases hi : i < ds.length
        · rw [List.getElem?_append_left (by rw [List.length_map]; exact hi)] at ei
          obtain ⟨v, k1, k2⟩ := S.slot i d ei
          refine ⟨v, ?_, k2⟩
          unfold L2.start
          rw [List.getElem?_append_left (by rw [List.length_map]; omega)]
          exact k1
        · rw [List.getElem?_append_right (by rw [List.length_map]; omega), List.getElem?_replicate] at ei
          split at ei <;> cases ei
    have fin : ∀ (ρ : Env) (xs : List D), argsB W ρ 0 ds = some xs → ∀ (v : V) (r0 : R) (G' : Hp) (F' : Nat → Tp) (H' : Hp) (σ' : L2.St) (T : Tp), Sim K G' F' H' ρ σ' → Fr G F H G' F' H' T → Agr W (start N vs) σ' → RetR K G' H' T r0 v → some (r0, xs) = some (r, ds') → Q v H' := by
      intro ρ xs ea v r0 G' F' H' σ' T S' f' a' hr' ee
      cases ee
      obtain ⟨g1, g2⟩ := argsB_ok ea
      refine q v G' (fun j a => (∃ d, ds[j]? = some d ∧ d.flat = false) ∧ F' j a) H' T ⟨?_, S'.gh, fun i j a h1 h2 => S'.dis i j a h1.2 h2.2, fun i a h => S'.fg i a h.2, fun i a h => S'.fh i a h.2, fun i d ei => ?_⟩ ⟨f'.g, f'.keep, f'.live, fun i a h => f'.nf i a h.2, f'.nt, f'.ng, fun a i t h => f'.tf a i t h.2, f'.tg, f'.th⟩ hr'
      · unfold envOf stOf
        rw [List.length_map, List.length_map, g1, hdv]
      · unfold envOf at ei
        rw [List.getElem?_map] at ei
        obtain ⟨y, y1, y2⟩ := Option.map_eq_some_iff.mp ei
        cases y2
        have hil : i < ds.length := by rw [← g1]; exact (List.getElem?_eq_some_iff.mp y1).1
        obtain ⟨z, z1, z2⟩ := g2 i ds[i] (List.getElem?_eq_getElem hil)
        rw [y1] at z1
        cases z1
        obtain ⟨v0, k1, k2⟩ := S.slot i ds[i] (by unfold envOf; rw [List.getElem?_map, List.getElem?_eq_getElem hil]; rfl)
        rcases z2 with ⟨fl, ez⟩ | ⟨fl, nw, ez⟩
        · subst ez
          exact ⟨v0, k1, Rep.flat (T := Em) fl (Rep.shared f'.g (Rep.flat fl k2))⟩
        · rw [Nat.zero_add] at nw ez
          obtain ⟨v1, m1, m2⟩ := S'.slot i d (gt_some ez)
          have e0 : (start N vs)[i]? = some (some v0) := by
            unfold L2.start
            rw [List.getElem?_append_left (by rw [List.length_map]; omega)]
            exact k1
          rw [a'.2 i nw, e0] at m1
          cases m1
          exact ⟨v0, k1, Rep.mono _ _ _ _ (fun a h => ⟨⟨_, List.getElem?_eq_getElem hil, fl⟩, h⟩) m2⟩
    refine ⟨t, p, g _ o eo G F H (start N vs) S0 _ ?_⟩
    cases o with
    | nx ρ =>
      obtain ⟨xs, ea, ee⟩ := Option.map_eq_some_iff.mp e
      exact fun G' F' H' σ' S' f' a' => fin ρ xs ea .non (.v .non) G' F' H' σ' Em S' f' a' rfl (congrArg some ee)
    | rt r0 ρ =>
      obtain ⟨r1, er, e⟩ := Option.bind_eq_some_iff.mp e
      obtain ⟨xs, ea, ee⟩ := Option.map_eq_some_iff.mp e
      refine fun v G' F' H' σ' T S' f' a' h' => fin ρ xs ea v _ G' F' H' σ' T S' f' a' ?_ (congrArg some ee)
      cases r0 with
      | v d => cases er; exact h'
      | own d => cases er; exact h'
      | «at» i => cases er
    | bk ρ => cases e
    | ct ρ => cases e
end
theorem okdefT {P : Program} {w : World} {K : PySem.W.Frag} {mg : Str → Option Value} {base : Heap} {x : Str} {st : Stmt} {N ps : List Str} {k : Nat} {W : List Nat} {b : Es} (h : HasDef K mg x st) (Sc : FnScope N ps (defScope st)) (hN : ps.length ≤ N.length) (hps : 1 ≤ ps.length)
    (hnc : ∀ y ∈ (defScope st).names, y.2 ≠ .cell) (hbind : ∀ (kV doc pm : Value) (an : Option Addr) (cdv ct : Value) (us : List Value), us.length = ps.length → bindArgs (PySem.W.fnOf x x (defArgs st) (defBody st) (defScope st) .none kV doc pm an cdv ct) ⟨us, []⟩ = pure (ps.zip us))
    (hb : ∀ (f : Addr) (cdv : Value) (A : Around) (outer : List PySem.Env) (s : Shared) (H : Hp) (E : XK), Room k (A.deeper (envOfC x (defScope st) s.heap.objs.size f cdv)) →
      ASsT (cxOf CX0 P w K mg base N x (defScope st) f cdv A outer s H E).nox W (defBody st) b) : OkDef P w K mg base (k + 1) x ps (dnOf W ps.length N.length b) := by
  obtain ⟨fA, fd, F, hm⟩ := h
  exact ⟨fA, fd, def_okT F Sc hnc hps hN (hb fA), hm, F.kp, F.binds hbind⟩
end Den

/-! a method of a written text: behind it a token is out -/
namespace Den
open PySem PySem.Spec PyProof.Rows L2
def PEO (X : Cx) (e : Expr) (t : TE) : Prop := ∀ (pins : List (Addr × Obj)) (s : Shared) (σ : L2.St) (H : Hp) (Q : VK), Inv X pins σ H s → t σ H Q → wpAny (model X.prog X.w) X.A (eval e X.env) (fun v s1 => 1 ≤ s1.toks ∧ EP X pins σ Q v s1) X.xe s
structure AEO (X : Cx) (e : Expr) (f : Ex) : Prop where
  ex : ∃ t, PEO X e t ∧ GoodE X.K t f
section
variable {X : Cx} {e a : Expr} {es : List Expr} {rest : List Stmt} {f : Ex} {fa : Ea} {u : Es} {W : List Nat} {apos pos p cpos : Pos} {j : Nat}
theorem peo_bm {T id : String} {name c : Str} {r : V → List V → Hp → VK → Prop} {t : TA} (pa : PlainAttrs T) (slot : Slot T name id) (hty : typeOf (.builtin id) = pure (.type "method_descriptor")) (hm : MtR X id r) (ha : PA X (e :: es) t)
    (hbase : attributeBase (.Constant (.str c) j p) name X.env (eval (.Constant (.str c) j p) X.env) = eval (.Constant (.str c) j p) X.env)
    (hfew : ((backTo cpos (starEach (e :: es) X.env)).all (fun x => !x.1) && (backToKw cpos (keywordEach [] X.env)).all (fun x => x.1.isSome)
      && decide ((e :: es).length + ([] : List Keyword).length + (if ([] : List Keyword).isEmpty then 0 else 1) < 30)) = true)
    (hline : (apos.endLine == cpos.line) = true) (hs : starEach (e :: es) X.env = (false, eval e X.env) :: starEach es X.env) (hplain : (backTo cpos (starEach es X.env)).any (·.1) = false) :
    PEO X (.Call (.Attribute (.Constant (.str c) j p) name apos) (e :: es) [] cpos) (tBM X.K T r (tC (.str c)) t) := by
  intro pins s σ H Q I h
  refine wpAny_Call_method_late hbase hfew hline rfl (Calls.Constant_str ?_)
  obtain ⟨ty, q1⟩ := h
  have I1 := I.tok (s.toks + 1)
  have rv : RelV (V.str c) (Value.str c s.toks) := ⟨s.toks, rfl⟩
  obtain ⟨h1, h2⟩ := tyV_is I1 rv ty
  refine ⟨T, id, pa, slot, hty, h1, h2, ?_⟩
  have hA := ha.run cpos pins _ σ H _ I1 q1
  rw [hs] at hA ⊢
  refine Calls.callWith_builtin (by show (false || List.any (backTo cpos (starEach es X.env)) fun x => x.1) = false; rw [hplain]; rfl) (Calls.evalArgs_plain ?_)
  refine wpAny_mono (PySem.wpAny_toks_of (n := 1) (by show 1 ≤ s.toks + 1; omega) hA) (fun us s2 q => ?_) fun _ _ z => z.2
  obtain ⟨hk, vs, H2, I2, r2, q2⟩ := q
  exact wpAny_mono (PySem.wpAny_toks_of hk (hm pins s2 σ H2 (V.str c) vs _ us Q I2 ⟨_, rfl⟩ r2 q2)) (fun _ _ z => z) fun _ _ z => z.2
theorem pss_setO {i : Nat} {x : Str} {te : TE} {t : TS} {pos' : Pos} (hN : X.N.Nodup) (hi : X.N[i]? = some x) (hx : Loc X.env.scope x) (he : PEO X e te) (h2 : PSsT X rest t)
    (hs : swapsWith e (some (.Name x pos')) pos.line X.env = pure false) (hf : X.fn x = true ∨ X.env.scope.names.lookup x = some .local) :
    PSs X (.Assign [.Name x pos'] e pos :: rest) (tSeq (tAsg te (gName i)) t) := by
  refine ⟨fun pins s σ H D I h => ?_⟩
  refine wpAny_execs_cons (wpAny_Assign_Name (thn (he pins s σ H _ I h) fun v s1 q => ?_) hs)
  obtain ⟨hk, y, H1, I1, r1, q1⟩ := q
  refine wpAny_mono (PySem.wpAny_toks_of hk (store_ok (Q := fun _ s2 => Inv X pins (σ.set i (some y)) H1 s2) I1 hN hi hx r1 (fun s2 I2 => I2) hf)) (fun _ s2 q => ?_) fun _ _ z => z.2
  exact h2 pins s2 _ H1 D q.1 q.2 q1
theorem aeo_bm {T id : String} {name : Str} {s0 : List Nat} {r : V → List V → Hp → VK → Prop} {oo : D → List D → Option D} (pa : PlainAttrs T) (slot : Slot T name id) (hty : typeOf (.builtin id) = pure (.type "method_descriptor")) (hm : MtR X id r) (go : GoodM X.K r oo) (ha : AA X (e :: es) fa)
    (hbase : attributeBase (.Constant (.str ⟨s0.toArray⟩) j p) name X.env (eval (.Constant (.str ⟨s0.toArray⟩) j p) X.env) = eval (.Constant (.str ⟨s0.toArray⟩) j p) X.env := by rfl)
    (hfew : ((backTo pos (starEach (e :: es) X.env)).all (fun x => !x.1) && (backToKw pos (keywordEach [] X.env)).all (fun x => x.1.isSome)
      && decide ((e :: es).length + ([] : List Keyword).length + (if ([] : List Keyword).isEmpty then 0 else 1) < 30)) = true := by rfl)
    (hline : (apos.endLine == pos.line) = true := by rfl) (hs : starEach (e :: es) X.env = (false, eval e X.env) :: starEach es X.env := by rfl) (hplain : (backTo pos (starEach es X.env)).any (·.1) = false := by rfl) :
    AEO X (.Call (.Attribute (.Constant (.str ⟨s0.toArray⟩) j p) name apos) (e :: es) [] pos) (xBM T oo (xC (.str s0)) fa) := let ⟨_, p2, q2⟩ := ha; ⟨_, peo_bm pa slot hty hm p2 hbase hfew hline hs hplain, good_bm go (good_c fun _ _ => rfl) q2⟩
theorem ass_setO {i : Nat} {y : Str} {pos' : Pos} (hN : X.N.Nodup) (hi : X.N[i]? = some y) (hx : Loc X.env.scope y) (he : AEO X e f) (h2 : ASsT X W rest u) (hw : i ∈ W := by decide) (hs : swapsWith e (some (.Name y pos')) pos.line X.env = pure false := by rfl)
    (hf : X.fn y = true ∨ X.env.scope.names.lookup y = some .local := by first | exact .inl rfl | exact .inr rfl) :
    ASs X W (.Assign [.Name y pos'] e pos :: rest) (sSeq (sSet i f) u) := let ⟨_, p, q⟩ := he; let ⟨_, p', q'⟩ := h2; ⟨_, pss_setO hN hi hx p p' hs hf, good_seq (good_set hw q) q'⟩
end
end Den

/-! Den14: t[::-1] of a text. -/
namespace Den
open PySem PySem.Spec PyProof.Rows L2
def tRevS (te : TE) : TE := fun σ H Q => te σ H fun x H1 => ∃ z : List Nat, x = .str ⟨z.toArray⟩ ∧ z.length ≤ sizeLine ∧ Q (.str ⟨z.reverse.toArray⟩) H1
theorem revS_pick (z : List Nat) : (Builtin.Str.strSliceIndices none none (-1) (⟨z.toArray⟩ : Str).length).filterMap ((⟨z.toArray⟩ : Str).cps[·]?) = z.reverse := by
  have e : Builtin.Str.strSliceIndices none none (-1) (⟨z.toArray⟩ : Str).length = sliceRange (((⟨z.toArray⟩ : Str).length : Int) - 1) (-1) (-1) := rfl
  rw [e, PySem.W.krv_sliceRange, PySem.W.krv_range, List.filterMap_reverse]
  have := PySem.W.krv_all (⟨z.toArray⟩ : Str).cps
  rw [show (⟨z.toArray⟩ : Str).length = (⟨z.toArray⟩ : Str).cps.size from rfl, this]
theorem pe_revS {X : Cx} {e : Expr} {te : TE} {k : Nat} {p1 p2 p3 pos : Pos} (he : PE X e te) : PE X (.Subscript e (.Slice none none (some (.UnaryOp .USub (.Constant (.int 1) k p1) p2)) p3) pos) (tRevS te) := by
  refine ⟨fun pins s σ H Q I h => ?_⟩
  refine Subscript_ (thn (he.run pins s σ H _ I h) fun v s1 ⟨x, H1, I1, r1, q1⟩ => ?_)
  obtain ⟨z, ex, hz, q⟩ := q1
  subst ex
  obtain ⟨t, rfl⟩ := r1
  have hst : PO X (some (.UnaryOp .USub (.Constant (.int 1) k p1) p2)) (tPart (tUn (rU fun i => .int (-i)) (tC (.int 1)))) := po_some (pe_un un_neg pe_int)
  refine wpAny_Slice (thn (po_none.run pins s1 σ H1 (fun o H2 => o = none ∧ H2 = H1) I1 ⟨rfl, rfl⟩) fun vl s2 ⟨l, H2, I2, pl, el, e2⟩ => ?_)
  subst el e2
  refine thn (po_none.run pins s2 σ H2 (fun o H3 => o = none ∧ H3 = H2) I2 ⟨rfl, rfl⟩) fun vu s3 ⟨u, H3, I3, pu, eu, e3⟩ => ?_
  subst eu e3
  refine thn (hst.run pins s3 σ H3 (fun o H4 => o = some (-1) ∧ H4 = H3) I3 ⟨1, rfl, -1, rfl, rfl, rfl⟩) fun vs s4 ⟨o, H4, I4, ps, eo, e4⟩ => ?_
  subst eo e4
  have I5 : Inv X pins σ H4 { s4 with heap := s4.heap.push { cls := .type "slice", data := .fields #[vl, vu, vs] } } := I4.kept (t' := s4.toks) fun b ob q => Heap.get?_push_of_some _ q
  have rl := IsPart.raw pl
  have ru := IsPart.raw pu
  have rs := IsPart.raw ps
  obtain ⟨l', rfl, e1⟩ := rl
  obtain ⟨u', rfl, e2⟩ := ru
  obtain ⟨s', rfl, e3⟩ := rs
  have el : l' = none := by cases l' <;> first | rfl | cases e1
  have eu : u' = none := by cases u' <;> first | rfl | cases e2
  subst el eu
  obtain ⟨w, rfl⟩ : ∃ w, s' = some (-1, w) := by
    cases s' with
    | none => cases e3
    | some p =>
      obtain ⟨i, w⟩ := p
      cases e3
      exact ⟨w, rfl⟩
  show wpAny (model X.prog X.w) X.A (subscriptTail e (.Slice none none (some (.UnaryOp .USub (.Constant (.int 1) k p1) p2)) p3) (.str ⟨z.toArray⟩ t) (.ref s4.heap.objs.size)) (EP X pins σ Q) X.xe { s4 with heap := s4.heap.push { cls := .type "slice", data := .fields #[.none, .none, .int (-1) w] } }
  refine tail_any (ops := [.str ⟨z.toArray⟩ t, .ref s4.heap.objs.size]) (typeIs_str _ _ _) (F.slot_str_getitem.lookup) ?_ (by with_unfolding_all rfl)
  refine wpAny_getItem_str_slice (l := none) (u := none) (st := some (-1, w)) ⟨_, Heap.get?_push_size _ rfl, rfl, rfl⟩ rfl ?_
  show Made.post (if (((-1 : Int) == 1) && (Builtin.Str.strSliceIndices none none (-1) (⟨z.toArray⟩ : Str).length).length == (⟨z.toArray⟩ : Str).length) = true then Made.val (.str ⟨z.toArray⟩ t) else Made.str ⟨((Builtin.Str.strSliceIndices none none (-1) (⟨z.toArray⟩ : Str).length).filterMap ((⟨z.toArray⟩ : Str).cps[·]?)).toArray⟩) (EP X pins σ Q) _
  rw [if_neg (show ¬ ((((-1 : Int) == 1) && _) = true) from Bool.false_ne_true), revS_pick]
  refine ⟨?_, .str ⟨z.reverse.toArray⟩, H4, I5.tok _, ⟨_, rfl⟩, q⟩
  show (z.reverse.toArray).size ≤ sizeLine
  rw [List.size_toArray, List.length_reverse]
  exact hz
def dRev : D → Option D
  | .str s => if s.length ≤ cap then some (.str s.reverse) else none
  | _ => none
theorem good_revS {K : PySem.W.Frag} {te : TE} {f : Ex} (h : GoodE K te f) : GoodE K (tRevS te) (xUn dRev f) := by
  have hu : GoodU K (fun x H Q => ∃ z : List Nat, x = .str ⟨z.toArray⟩ ∧ z.length ≤ sizeLine ∧ Q (.str ⟨z.reverse.toArray⟩) H) dRev := by
    intro x z e G H vx Tx gh hx Q q
    unfold dRev at e
    split at e
    · split at e
      · rename_i s hc
        cases e
        cases hx
        exact ⟨s, rfl, Nat.le_of_lt (cap_lt hc), q.here rfl⟩
      · cases e
    · cases e
  exact good_un hu h
theorem ae_revS {X : Cx} {e : Expr} {f : Ex} {k : Nat} {p1 p2 p3 pos : Pos} (he : AE X e f) : AE X (.Subscript e (.Slice none none (some (.UnaryOp .USub (.Constant (.int 1) k p1) p2)) p3) pos) (xUn dRev f) := let ⟨_, p, q⟩ := he; ⟨_, pe_revS p, good_revS q⟩
end Den

namespace Den
/-! ### modes, kinds, units; what a gap gives -/
inductive Md | col | brk | pre
deriving DecidableEq
inductive Kd | space | feed | mark | fin | zero | wide | other
deriving DecidableEq
def kdS (c : Nat) : Kd := if 65 ≤ c ∧ c ≤ 90 then .wide else if c = 124 then .fin else if c = 94 then .zero else if c = 60 ∨ c = 62 then .mark else .other
def kd (m : Md) (c : Nat) : Kd := if c = 32 then (if m = .pre then .other else .space) else if c = 10 then (if m = .col then .feed else .fin) else kdS c
abbrev U := Md × Nat
def U.k (u : U) : Kd := kd u.1 u.2
def gk (k : Kd) : Bool := k = .space || k = .feed || k = .mark
def joinK (l r : Kd) : Bool := l = .zero || (r = .zero || (l = .wide && r = .wide))
abbrev Ok := Option Kd
def joinO : Ok → Ok → Bool
  | some l, some r => joinK l r
  | _, _ => false
def both : Ok → Ok → Bool
  | some _, some _ => true
  | _, _ => false
/-- the marks of a gap -/
def mk (t : List Nat) : List Nat := t.filter fun c => c != 32 && c != 10
/-- the marks and the first white sign w -/
def rd1 (w : Nat) : List Nat → List Nat
  | [] => []
  | c :: t => if c = w then c :: mk t else if c = 32 ∨ c = 10 then rd1 w t else c :: rd1 w t
def endO (l r : Ok) : Bool := l = some .fin || r = some .fin
/-- the needed signs of a gap -/
def keepG (t : List Nat) (l r : Ok) : List Nat := if endO l r then mk t else if 10 ∈ t then (if joinO l r then mk t else rd1 10 t) else rd1 32 t
def f2s (t : List Nat) : List Nat := t.map fun c => if c = 10 then 32 else c
/-- what a gap gives to the normal form -/
def gform (t : List Nat) (l r : Ok) : List Nat :=
  if endO l r then mk t else if 10 ∈ t then
    (if both l r then (if joinO l r then mk t else f2s (rd1 10 t)) else if r = some .zero then mk t ++ [10] else if l = some .zero then 10 :: mk t else rd1 10 t)
  else rd1 32 t
@[simp] theorem mk_nil : mk [] = [] := rfl
theorem mk_cons (c : Nat) (t : List Nat) : mk (c :: t) = if c = 32 ∨ c = 10 then mk t else c :: mk t := by
  unfold mk
  rw [List.filter_cons]
  by_cases h1 : c = 32
  · simp [h1]
  by_cases h2 : c = 10
  · simp [h2]
  simp [h1, h2]
theorem mk_app (x y : List Nat) : mk (x ++ y) = mk x ++ mk y := List.filter_append ..
theorem mk_mk (x : List Nat) : mk (mk x) = mk x := by unfold mk; rw [List.filter_filter]; simp
theorem mk_mem {c : Nat} {t : List Nat} : c ∈ mk t ↔ c ∈ t ∧ c ≠ 32 ∧ c ≠ 10 := by unfold mk; simp [List.mem_filter, and_assoc]
theorem no10 (t : List Nat) : 10 ∉ mk t := fun h => (mk_mem.mp h).2.2 rfl
theorem no32 (t : List Nat) : 32 ∉ mk t := fun h => (mk_mem.mp h).2.1 rfl
theorem rd1_no {w : Nat} (hw : w = 32 ∨ w = 10) : ∀ {t : List Nat}, w ∉ t → rd1 w t = mk t
  | [], _ => rfl
  | c :: t, h => by
    rw [List.mem_cons, not_or] at h
    rw [rd1, if_neg (fun z => h.1 z.symm), rd1_no hw h.2, mk_cons]
theorem rd1_in {w : Nat} (hw : w = 32 ∨ w = 10) : ∀ {x : List Nat} (y : List Nat), w ∈ x → rd1 w (x ++ y) = rd1 w x ++ mk y
  | [], y, h => by cases h
  | c :: x, y, h => by
    rw [List.cons_append, rd1, rd1]
    by_cases e : c = w
    · rw [if_pos e, if_pos e, mk_app]; rfl
    · have := rd1_in hw y ((List.mem_cons.mp h).resolve_left fun z => e z.symm)
      rw [if_neg e, if_neg e]
      split
      · exact this
      · rw [this]; rfl
theorem rd1_out {w : Nat} (hw : w = 32 ∨ w = 10) : ∀ {x : List Nat} (y : List Nat), w ∉ x → rd1 w (x ++ y) = mk x ++ rd1 w y
  | [], y, h => rfl
  | c :: x, y, h => by
    rw [List.mem_cons, not_or] at h
    rw [List.cons_append, rd1, if_neg (fun z => h.1 z.symm), rd1_out hw y h.2, mk_cons]
    split <;> rfl
theorem mk_rd1 {w : Nat} (hw : w = 32 ∨ w = 10) : ∀ (t : List Nat), mk (rd1 w t) = mk t
  | [] => rfl
  | c :: t => by
    rw [rd1]
    by_cases e : c = w
    · have : c = 32 ∨ c = 10 := by omega
      rw [if_pos e, mk_cons, mk_cons, if_pos this, if_pos this, mk_mk]
    · rw [if_neg e, mk_cons]
      split
      · exact mk_rd1 hw t
      · rename_i h
        rw [mk_cons, if_neg h, mk_rd1 hw t]
theorem rd1_mem {w : Nat} (hw : w = 32 ∨ w = 10) : ∀ (t : List Nat), w ∈ rd1 w t ↔ w ∈ t
  | [] => by simp [rd1]
  | c :: t => by
    rw [rd1]
    by_cases e : c = w
    · rw [if_pos e]; simp [e]
    · have : w ≠ c := fun z => e z.symm
      rw [if_neg e]
      split
      · rw [rd1_mem hw t]; simp [this]
      · rw [List.mem_cons, List.mem_cons, rd1_mem hw t]
theorem rd1_oth {w v : Nat} (hv : v = 32 ∨ v = 10) (h : v ≠ w) : ∀ (t : List Nat), v ∉ rd1 w t
  | [] => by simp [rd1]
  | c :: t => by
    rw [rd1]
    have m : v ∉ mk t := fun z => by
      have := mk_mem.mp z
      omega
    by_cases e : c = w
    · rw [if_pos e, List.mem_cons, not_or]
      exact ⟨fun z => h (z.trans e), m⟩
    · rw [if_neg e]
      split
      · exact rd1_oth hv h t
      · rw [List.mem_cons, not_or]
        exact ⟨fun z => by omega, rd1_oth hv h t⟩
theorem rd1_rd1 {w : Nat} (hw : w = 32 ∨ w = 10) : ∀ (t : List Nat), rd1 w (rd1 w t) = rd1 w t
  | [] => rfl
  | c :: t => by
    rw [rd1]
    by_cases e : c = w
    · rw [if_pos e, rd1, if_pos e, mk_mk]
    · rw [if_neg e]
      split
      · exact rd1_rd1 hw t
      · rename_i h
        rw [rd1, if_neg e, if_neg h, rd1_rd1 hw t]
/-- a gap with neither neighbor known -/
def red (t : List Nat) : List Nat := if 10 ∈ t then rd1 10 t else rd1 32 t
theorem red_10 (t : List Nat) : 10 ∈ red t ↔ 10 ∈ t := by
  unfold red
  split
  · rename_i h
    rw [rd1_mem (.inr rfl)]
  · rename_i h
    exact iff_of_false (rd1_oth (.inr rfl) (by decide) t) h
theorem red_32 {t : List Nat} (h : 10 ∉ t) : 32 ∈ red t ↔ 32 ∈ t := by
  unfold red
  rw [if_neg h, rd1_mem (.inl rfl)]
theorem mk_red (t : List Nat) : mk (red t) = mk t := by
  unfold red
  split
  · exact mk_rd1 (.inr rfl) t
  · exact mk_rd1 (.inl rfl) t
theorem red_app (x y : List Nat) : red (x ++ y) = if 10 ∈ x then red x ++ mk y else if 10 ∈ y then mk x ++ red y else if 32 ∈ x then red x ++ mk y else mk x ++ red y := by
  unfold red
  by_cases h1 : 10 ∈ x
  · rw [if_pos (List.mem_append.mpr (.inl h1)), if_pos h1, if_pos h1, rd1_in (.inr rfl) _ h1]
  by_cases h2 : 10 ∈ y
  · rw [if_pos (List.mem_append.mpr (.inr h2)), if_neg h1, if_pos h2, if_pos h2, rd1_out (.inr rfl) _ h1]
  have h3 : 10 ∉ x ++ y := fun z => (List.mem_append.mp z).elim h1 h2
  rw [if_neg h3, if_neg h1, if_neg h2, if_neg h1, if_neg h2]
  by_cases h4 : 32 ∈ x
  · rw [if_pos h4, rd1_in (.inl rfl) _ h4]
  · rw [if_neg h4, rd1_out (.inl rfl) _ h4]
theorem red_red (t : List Nat) : red (red t) = red t := by
  unfold red
  by_cases h : 10 ∈ t
  · rw [if_pos h, if_pos ((rd1_mem (.inr rfl) t).mpr h), rd1_rd1 (.inr rfl)]
  · rw [if_neg h, if_neg (rd1_oth (.inr rfl) (by decide) t), rd1_rd1 (.inl rfl)]
/-- two gaps that no neighbors of these kinds tell apart -/
def Eqv (z : Bool) (x y : List Nat) : Prop := mk x = mk y ∧ (10 ∈ x ↔ 10 ∈ y) ∧ (red x = red y ∨ (10 ∈ x ∧ z = true))
theorem Eqv.refl (z : Bool) (x : List Nat) : Eqv z x x := ⟨rfl, Iff.rfl, .inl rfl⟩
theorem red_mk {x y : List Nat} (h : red x = red y) : mk x = mk y := by rw [← mk_red x, ← mk_red y, h]
theorem red_m10 {x y : List Nat} (h : red x = red y) : 10 ∈ x ↔ 10 ∈ y := by rw [← red_10 x, ← red_10 y, h]
theorem red_m32 {x y : List Nat} (h : red x = red y) (h1 : 10 ∉ x) : 32 ∈ x ↔ 32 ∈ y := by
  rw [← red_32 h1, ← red_32 (fun z => h1 ((red_m10 h).mpr z)), h]
theorem red_cong {x x' y y' : List Nat} (h : red x = red x') (h' : red y = red y') : red (x ++ y) = red (x' ++ y') := by
  rw [red_app, red_app, h, h', red_mk h, red_mk h']
  by_cases h1 : 10 ∈ x
  · rw [if_pos h1, if_pos ((red_m10 h).mp h1)]
  rw [if_neg h1, if_neg (fun z => h1 ((red_m10 h).mpr z))]
  by_cases h2 : 10 ∈ y
  · rw [if_pos h2, if_pos ((red_m10 h').mp h2)]
  rw [if_neg h2, if_neg (fun z => h2 ((red_m10 h').mpr z))]
  by_cases h3 : 32 ∈ x
  · rw [if_pos h3, if_pos ((red_m32 h h1).mp h3)]
  · rw [if_neg h3, if_neg (fun z => h3 ((red_m32 h h1).mpr z))]
theorem Eqv.app {a b c : Bool} {x x' y y' : List Nat} (h : Eqv a x x') (h' : Eqv b y y') (ha : a = true → c = true) (hb : b = true → c = true) : Eqv c (x ++ y) (x' ++ y') := by
  refine ⟨by rw [mk_app, mk_app, h.1, h'.1], by rw [List.mem_append, List.mem_append, h.2.1, h'.2.1], ?_⟩
  rcases h.2.2 with r | ⟨m, q⟩
  · rcases h'.2.2 with r' | ⟨m', q'⟩
    · exact .inl (red_cong r r')
    · exact .inr ⟨List.mem_append.mpr (.inr m'), hb q'⟩
  · exact .inr ⟨List.mem_append.mpr (.inl m), ha q⟩
def zeroO (l r : Ok) : Bool := l = some .zero || r = some .zero
theorem gform_red (x : List Nat) (l r : Ok) (h : 10 ∉ x) (he : endO l r = false) : gform x l r = red x := by
  unfold gform red
  rw [he, if_neg h, if_neg h]
  rfl
theorem gform_eqv {x y : List Nat} {l r : Ok} (h : Eqv (zeroO l r) x y) : gform x l r = gform y l r := by
  cases he : endO l r
  · by_cases h1 : 10 ∈ x
    · have h2 := h.2.1.mp h1
      unfold gform
      rw [he, if_neg Bool.false_ne_true, if_neg Bool.false_ne_true, if_pos h1, if_pos h2, h.1]
      by_cases hz : zeroO l r = true
      · by_cases hb : both l r = true
        · have hj : joinO l r = true := by
            revert hz hb
            rcases l with _ | l <;> rcases r with _ | r <;> try (intro _ z; cases z; done)
            cases l <;> cases r <;> decide
          rw [if_pos hb, if_pos hb, if_pos hj, if_pos hj]
        · rw [if_neg hb, if_neg hb]
          by_cases hr : r = some .zero
          · rw [if_pos hr, if_pos hr]
          · have hl : l = some .zero := by
              unfold zeroO at hz
              simpa [hr] using hz
            rw [if_neg hr, if_neg hr, if_pos hl, if_pos hl]
      · have e : rd1 10 x = rd1 10 y := by
          rcases h.2.2 with q | ⟨_, q⟩
          · unfold red at q
            rwa [if_pos h1, if_pos h2] at q
          · exact absurd q hz
        rw [e]
    · have h2 : 10 ∉ y := fun z => h1 (h.2.1.mpr z)
      rw [gform_red x l r h1 he, gform_red y l r h2 he]
      rcases h.2.2 with q | ⟨q, _⟩
      · exact q
      · exact absurd q h1
  · unfold gform
    rw [he, if_pos rfl, if_pos rfl, h.1]
/-- a gap that lacks its right neighbor is told from others by what it gives -/
theorem eqv_l (x : List Nat) (l : Ok) (hl : l ≠ some .fin) : Eqv (decide (l = some .zero)) (gform x l none) x := by
  have he : endO l none = false := by unfold endO; simp [hl]
  by_cases h : 10 ∈ x
  · have hb : both l none = false := by cases l <;> rfl
    have e : gform x l none = if l = some .zero then 10 :: mk x else rd1 10 x := by
      unfold gform
      rw [he, if_neg Bool.false_ne_true, if_pos h, hb, if_neg Bool.false_ne_true, if_neg (by decide)]
    rw [e]
    by_cases hz : l = some .zero
    · rw [if_pos hz, decide_eq_true hz]
      refine ⟨?_, ?_, .inr ⟨List.mem_cons_self .., rfl⟩⟩
      · rw [mk_cons, if_pos (.inr rfl), mk_mk]
      · simp [h]
    · rw [if_neg hz]
      refine ⟨mk_rd1 (.inr rfl) x, rd1_mem (.inr rfl) x, .inl ?_⟩
      have : rd1 10 x = red x := by unfold red; rw [if_pos h]
      rw [this, red_red]
  · rw [gform_red x l none h he]
    exact ⟨mk_red x, red_10 x, .inl (red_red x)⟩
theorem eqv_r (x : List Nat) (r : Ok) (hr : r ≠ some .fin) : Eqv (decide (r = some .zero)) (gform x none r) x := by
  have he : endO none r = false := by unfold endO; simp [hr]
  by_cases h : 10 ∈ x
  · have e : gform x none r = if r = some .zero then mk x ++ [10] else rd1 10 x := by
      unfold gform
      rw [he, if_neg Bool.false_ne_true, if_pos h, show both none r = false from rfl, if_neg Bool.false_ne_true, if_neg (show ¬ ((none : Ok) = some .zero) by decide)]
    rw [e]
    by_cases hz : r = some .zero
    · rw [if_pos hz, decide_eq_true hz]
      refine ⟨?_, ?_, .inr ⟨by simp, rfl⟩⟩
      · rw [mk_app, mk_mk, mk_cons, if_pos (.inr rfl)]; simp
      · simp [h]
    · rw [if_neg hz]
      refine ⟨mk_rd1 (.inr rfl) x, rd1_mem (.inr rfl) x, .inl ?_⟩
      have : rd1 10 x = red x := by unfold red; rw [if_pos h]
      rw [this, red_red]
  · rw [gform_red x none r h he]
    exact ⟨mk_red x, red_10 x, .inl (red_red x)⟩
theorem gform_end (x : List Nat) (l r : Ok) (h : endO l r = true) : gform x l r = mk x := by unfold gform; rw [h, if_pos rfl]
/-- two gaps that grow together: by what each gives alone -/
theorem gform_app (x y : List Nat) (l r : Ok) : gform (gform x l none ++ gform y none r) l r = gform (x ++ y) l r := by
  by_cases hl : l = some .fin
  · have he : endO l r = true := by unfold endO; simp [hl]
    have he1 : endO l none = true := by unfold endO; simp [hl]
    rw [gform_end _ l r he, gform_end _ l r he, gform_end _ l none he1, mk_app, mk_app, mk_mk]
    congr 1
    by_cases hr : r = some .fin
    · rw [gform_end _ none r (by unfold endO; simp [hr]), mk_mk]
    · exact (eqv_r y r hr).1
  · by_cases hr : r = some .fin
    · have he : endO l r = true := by unfold endO; simp [hr]
      rw [gform_end _ l r he, gform_end _ l r he, gform_end _ none r (by unfold endO; simp [hr]), mk_app, mk_app, mk_mk]
      congr 1
      exact (eqv_l x l hl).1
    · refine gform_eqv (Eqv.app (eqv_l x l hl) (eqv_r y r hr) ?_ ?_)
      · intro z; unfold zeroO; rw [z]; rfl
      · intro z; unfold zeroO; rw [z]; simp
theorem gform_l (x : List Nat) (l : Ok) : gform (gform x l none) l none = gform x l none := by
  have := gform_app x [] l none
  rwa [show gform [] none none = [] from rfl, List.append_nil, List.append_nil] at this
theorem gform_r (x : List Nat) (r : Ok) : gform (gform x none r) none r = gform x none r := by
  have := gform_app [] x none r
  rwa [show gform [] none none = [] from rfl, List.nil_append, List.nil_append] at this
end Den

namespace Den
/-! ### the normal form, plainly -/
def shC (u : U) : Nat := if u.k = .fin then 10 else if u.k = .feed then 32 else u.2
def sg (cur : List U) : List Nat := cur.map (·.2)
abbrev SG := List (U × List U)
def split : List U → List U × SG
  | [] => ([], [])
  | u :: t => if gk u.k then (u :: (split t).1, (split t).2) else ([], (u, (split t).1) :: (split t).2)
def bd : SG → List Nat × List Nat
  | [] => ([], [])
  | [(s, h)] => ([shC s], gform (sg h) (some s.k) none)
  | (s, h) :: (s', h') :: r => (shC s :: gform (sg h) (some s.k) (some s'.k) ++ (bd ((s', h') :: r)).1, (bd ((s', h') :: r)).2)
def hdK : SG → Ok
  | [] => none
  | (s, _) :: _ => some s.k
abbrev NF := List Nat × List Nat × List Nat
def nf (x : List U) : NF := (gform (sg (split x).1) none (hdK (split x).2), (bd (split x).2).1, (bd (split x).2).2)
def fk : List Nat → Ok
  | [] => none
  | c :: _ => some (kd .pre c)
def lk : List Nat → Ok
  | [] => none
  | [c] => some (kd .pre c)
  | _ :: c :: t => lk (c :: t)
def cat (p q : NF) : NF :=
  if p.2.1 = [] then (gform (p.1 ++ q.1) none (fk q.2.1), q.2.1, q.2.2)
  else if q.2.1 = [] then (p.1, p.2.1, gform (p.2.2 ++ q.1) (lk p.2.1) none)
  else (p.1, p.2.1 ++ gform (p.2.2 ++ q.1) (lk p.2.1) (fk q.2.1) ++ q.2.1, q.2.2)
theorem sg_app (x y : List U) : sg (x ++ y) = sg x ++ sg y := List.map_append ..
theorem kd_other {c : Nat} (h1 : c ≠ 32) (h2 : c ≠ 10) (m m' : Md) : kd m c = kd m' c := by unfold kd; rw [if_neg h1, if_neg h2, if_neg h1, if_neg h2]
theorem k_shC {u : U} (h : gk u.k = false) : kd .pre (shC u) = u.k := by
  obtain ⟨m, c⟩ := u
  unfold shC
  by_cases h1 : U.k (m, c) = .fin
  · rw [if_pos h1, h1]; rfl
  · rw [if_neg h1]
    by_cases h2 : U.k (m, c) = .feed
    · rw [h2] at h; cases h
    · rw [if_neg h2]
      show kd .pre c = kd m c
      by_cases e1 : c = 32
      · subst e1
        cases m <;> first
          | rfl
          | (cases h; done)
      by_cases e2 : c = 10
      · subst e2
        cases m <;> first
          | rfl
          | (cases h; done)
          | exact absurd rfl h1
      exact kd_other e1 e2 _ _
theorem split_gk : ∀ (x : List U), (∀ u ∈ (split x).1, gk u.k = true) ∧ ∀ p ∈ (split x).2, gk p.1.k = false ∧ ∀ u ∈ p.2, gk u.k = true
  | [] => by simp [split]
  | u :: t => by
    obtain ⟨h1, h2⟩ := split_gk t
    rw [split]
    cases h : gk u.k
    · rw [if_neg Bool.false_ne_true]
      refine ⟨by simp, fun p hp => ?_⟩
      rcases List.mem_cons.mp hp with rfl | hp
      · exact ⟨h, h1⟩
      · exact h2 p hp
    · rw [if_pos rfl]
      refine ⟨fun v hv => ?_, h2⟩
      rcases List.mem_cons.mp hv with rfl | hv
      · exact h
      · exact h1 v hv
theorem bd_nil : ∀ {L : SG}, (bd L).1 = [] ↔ L = []
  | [] => by simp [bd]
  | [(s, h)] => by simp [bd]
  | (s, h) :: (s', h') :: r => by simp [bd]
theorem bd_hd : ∀ {L : SG}, (∀ p ∈ L, gk p.1.k = false) → fk (bd L).1 = hdK L
  | [], _ => rfl
  | [(s, h)], g => by
    show some (kd .pre (shC s)) = some s.k
    rw [k_shC (g _ (List.mem_cons_self ..))]
  | (s, h) :: (s', h') :: r, g => by
    show some (kd .pre (shC s)) = some s.k
    rw [k_shC (g _ (List.mem_cons_self ..))]
def addl : SG → List U → SG
  | [], _ => []
  | [(s, g)], h => [(s, g ++ h)]
  | p :: q :: r, h => p :: addl (q :: r) h
def cats (p q : List U × SG) : List U × SG := if p.2 = [] then (p.1 ++ q.1, q.2) else (p.1, addl p.2 q.1 ++ q.2)
theorem addl_nil : ∀ {L : SG} {h : List U}, addl L h = [] ↔ L = []
  | [], _ => by simp [addl]
  | [(s, g)], h => by simp [addl]
  | p :: q :: r, h => by simp [addl]
theorem split_app : ∀ (x y : List U), split (x ++ y) = cats (split x) (split y)
  | [], y => by simp [split, cats]
  | u :: t, y => by
    rw [List.cons_append, split, split, split_app t y]
    cases h : gk u.k
    · rw [if_neg Bool.false_ne_true, if_neg Bool.false_ne_true]
      unfold cats
      dsimp only
      rw [if_neg (List.cons_ne_nil _ _)]
      by_cases e : (split t).2 = []
      · rw [if_pos e, e]; rfl
      · rw [if_neg e]
        obtain ⟨p, r, e2⟩ := List.exists_cons_of_ne_nil e
        rw [e2]; rfl
    · rw [if_pos rfl, if_pos rfl]
      unfold cats
      dsimp only
      split <;> rfl
theorem lk_app : ∀ (x : List Nat) (y : List Nat), y ≠ [] → lk (x ++ y) = lk y
  | [], _, _ => rfl
  | [c], y, h => by
    obtain ⟨d, r, e⟩ := List.exists_cons_of_ne_nil h
    rw [e]; rfl
  | c :: d :: t, y, h => by
    show lk (d :: (t ++ y)) = _
    exact lk_app (d :: t) y h
theorem fk_app {x : List Nat} (y : List Nat) (h : x ≠ []) : fk (x ++ y) = fk x := by
  obtain ⟨d, r, e⟩ := List.exists_cons_of_ne_nil h
  rw [e]; rfl
/-- the last solid unit and its gap -/
theorem bd_add : ∀ {L : SG} (h : List U) (L' : SG), L ≠ [] → (∀ p ∈ L, gk p.1.k = false) → (∀ p ∈ L', gk p.1.k = false) →
    bd (addl L h ++ L') = (if (bd L').1 = [] then ((bd L).1, gform ((bd L).2 ++ gform (sg h) none none) (lk (bd L).1) none) else ((bd L).1 ++ gform ((bd L).2 ++ gform (sg h) none (hdK L')) (lk (bd L).1) (fk (bd L').1) ++ (bd L').1, (bd L').2))
  | [], _, _, h, _, _ => absurd rfl h
  | [(s, g)], h, L', _, gL, gL' => by
    have ks : lk (bd [(s, g)]).1 = some s.k := by
      show some (kd .pre (shC s)) = _
      rw [k_shC (gL _ (List.mem_cons_self ..))]
    rw [ks]
    cases L' with
    | nil =>
      show ([shC s], gform (sg (g ++ h)) (some s.k) none) = ([shC s], gform (gform (sg g) (some s.k) none ++ gform (sg h) none none) (some s.k) none)
      rw [gform_app, sg_app]
    | cons p r =>
      obtain ⟨t, h'⟩ := p
      rw [if_neg (fun z => by have := bd_nil.mp z; cases this), bd_hd gL']
      show (shC s :: gform (sg (g ++ h)) (some s.k) (some t.k) ++ _, _) = ([shC s] ++ gform (gform (sg g) (some s.k) none ++ gform (sg h) none (some t.k)) (some s.k) (some t.k) ++ _, _)
      rw [gform_app, sg_app]
      rfl
  | (s, g) :: (s', g') :: r, h, L', _, gL, gL' => by
    have ih := bd_add (L := (s', g') :: r) h L' (List.cons_ne_nil _ _) (fun p hp => gL p (List.mem_cons_of_mem _ hp)) gL'
    have kl : lk (bd ((s, g) :: (s', g') :: r)).1 = lk (bd ((s', g') :: r)).1 := by
      rw [bd]
      refine lk_app _ _ fun z => ?_
      have := bd_nil.mp z
      cases this
    obtain ⟨w, e⟩ : ∃ w, addl ((s', g') :: r) h ++ L' = (s', w) :: (addl ((s', g') :: r) h ++ L').tail := by
      cases r with
      | nil => exact ⟨_, rfl⟩
      | cons q r => exact ⟨_, rfl⟩
    have e0 : bd (addl ((s, g) :: (s', g') :: r) h ++ L') = (shC s :: gform (sg g) (some s.k) (some s'.k) ++ (bd (addl ((s', g') :: r) h ++ L')).1, (bd (addl ((s', g') :: r) h ++ L')).2) := by
      rw [show addl ((s, g) :: (s', g') :: r) h ++ L' = (s, g) :: (addl ((s', g') :: r) h ++ L') from rfl]
      rw [e]
      rfl
    rw [e0, ih, kl]
    split
    · rfl
    · rw [show bd ((s, g) :: (s', g') :: r) = (shC s :: gform (sg g) (some s.k) (some s'.k) ++ (bd ((s', g') :: r)).1, (bd ((s', g') :: r)).2) from rfl]
      simp only [List.append_assoc, List.cons_append]
theorem sp2 (x : List U) : ∀ p ∈ (split x).2, gk p.1.k = false := fun p hp => ((split_gk x).2 p hp).1
/-- the normal form of two fragments together depends on theirs alone -/
theorem nf_app (x y : List U) : nf (x ++ y) = cat (nf x) (nf y) := by
  unfold nf
  rw [split_app]
  unfold cats cat
  dsimp only
  by_cases h : (split x).2 = []
  · rw [if_pos h, h, if_pos (show (bd ([] : SG)).1 = [] from rfl), bd_hd (sp2 y)]
    show (gform (sg ((split x).1 ++ (split y).1)) none _, _, _) = (gform (gform (sg (split x).1) none none ++ _) none _, _, _)
    rw [gform_app, sg_app]
  · rw [if_neg h, if_neg (fun z => h (bd_nil.mp z))]
    have e := bd_add (split y).1 (split y).2 h (sp2 x) (sp2 y)
    have eh : hdK (addl (split x).2 (split y).1 ++ (split y).2) = hdK (split x).2 := by
      generalize (split x).2 = L at h
      match L, h with
      | [(s, g)], _ => rfl
      | p :: q :: r, _ => rfl
    rw [e]
    dsimp only
    rw [eh]
    by_cases h2 : (bd (split y).2).1 = []
    · rw [if_pos h2, if_pos h2]
      have : (split y).2 = [] := bd_nil.mp h2
      rw [this]
      rfl
    · rw [if_neg h2, if_neg h2]
/-! ### what a normal form stands for -/
def colU (t : List Nat) : List U := t.map fun c => (Md.col, c)
def preU (t : List Nat) : List U := t.map fun c => (Md.pre, c)
def stU (f : NF) : List U := colU f.1 ++ preU f.2.1 ++ colU f.2.2
def mrk (c : Nat) : Bool := c = 60 || c = 62
/-- signs of a gap -/
def gsn (t : List Nat) : Prop := ∀ c ∈ t, c = 32 ∨ c = 10 ∨ c = 60 ∨ c = 62
theorem gsn_sg {g : List U} (h : ∀ u ∈ g, gk u.k = true) : gsn (sg g) := fun c hc => by
  obtain ⟨u, hu, rfl⟩ := List.mem_map.mp hc
  have := h u hu
  obtain ⟨m, c⟩ := u
  show c = 32 ∨ c = 10 ∨ c = 60 ∨ c = 62
  have q : gk (kd m c) = true := this
  unfold kd kdS at q
  by_cases h1 : c = 32
  · exact .inl h1
  by_cases h2 : c = 10
  · exact .inr (.inl h2)
  rw [if_neg h1, if_neg h2] at q
  by_cases h3 : 65 ≤ c ∧ c ≤ 90
  · rw [if_pos h3] at q; cases q
  by_cases h4 : c = 124
  · subst h4; cases q
  by_cases h5 : c = 94
  · subst h5; cases q
  by_cases h6 : c = 60 ∨ c = 62
  · exact .inr (.inr h6)
  · rw [if_neg h3, if_neg h4, if_neg h5, if_neg h6] at q; cases q
theorem gsn_mk {t : List Nat} (h : gsn t) : gsn (mk t) := fun c hc => h c (mk_mem.mp hc).1
theorem rd1_sub {w : Nat} : ∀ {t : List Nat} {c : Nat}, c ∈ rd1 w t → c ∈ t
  | [], c, h => by cases h
  | d :: t, c, h => by
    rw [rd1] at h
    split at h
    · rcases List.mem_cons.mp h with rfl | h
      · exact List.mem_cons_self ..
      · exact List.mem_cons_of_mem _ (mk_mem.mp h).1
    · split at h
      · exact List.mem_cons_of_mem _ (rd1_sub h)
      · rcases List.mem_cons.mp h with rfl | h
        · exact List.mem_cons_self ..
        · exact List.mem_cons_of_mem _ (rd1_sub h)
theorem gsn_gform {t : List Nat} (h : gsn t) (l r : Ok) : gsn (gform t l r) := by
  intro c hc
  unfold gform at hc
  have hf : ∀ c, c ∈ f2s (rd1 10 t) → c = 32 ∨ c = 10 ∨ c = 60 ∨ c = 62 := fun c z => by
    obtain ⟨d, hd, rfl⟩ := List.mem_map.mp z
    split
    · exact .inl rfl
    · exact h d (rd1_sub hd)
  (repeat' split at hc)
  · exact gsn_mk h c hc
  · exact gsn_mk h c hc
  · exact hf c hc
  · rcases List.mem_append.mp hc with z | z
    · exact gsn_mk h c z
    · exact .inr (.inl (List.mem_singleton.mp z))
  · rcases List.mem_cons.mp hc with z | z
    · exact .inr (.inl z)
    · exact gsn_mk h c z
  · exact h c (rd1_sub hc)
  · exact h c (rd1_sub hc)
theorem colgk {c : Nat} (h : c = 32 ∨ c = 10 ∨ c = 60 ∨ c = 62) : gk (U.k (.col, c)) = true := by rcases h with rfl | rfl | rfl | rfl <;> rfl
theorem split_gaps : ∀ {x : List U}, (∀ u ∈ x, gk u.k = true) → split x = (x, [])
  | [], _ => rfl
  | u :: t, h => by rw [split, if_pos (h u (List.mem_cons_self ..)), split_gaps fun v hv => h v (List.mem_cons_of_mem _ hv)]
theorem sg_colU (t : List Nat) : sg (colU t) = t := by unfold sg colU; rw [List.map_map]; exact List.map_id _
theorem nf_gap {x : List U} (h : ∀ u ∈ x, gk u.k = true) : nf x = (red (sg x), [], []) := by
  unfold nf
  rw [split_gaps h]
  show (gform (sg x) none none, [], []) = _
  have e : gform (sg x) none none = red (sg x) := by
    unfold gform red
    rw [if_neg (by decide)]
    split
    · rw [if_neg (by decide), if_neg (by decide), if_neg (by decide)]
    · rfl
  rw [e]
theorem nf_col {t : List Nat} (h : gsn t) : nf (colU t) = (red t, [], []) := by
  rw [nf_gap (fun u hu => by
    obtain ⟨c, hc, rfl⟩ := List.mem_map.mp hu
    exact colgk (h c hc)), sg_colU]
theorem gform_marks {t : List Nat} (h1 : 32 ∉ t) (h2 : 10 ∉ t) (l r : Ok) : gform t l r = t := by
  have e : mk t = t := List.filter_eq_self.mpr fun c hc => by
    have a : c ≠ 32 := fun z => h1 (z ▸ hc)
    have b : c ≠ 10 := fun z => h2 (z ▸ hc)
    simp [a, b]
  unfold gform
  rw [if_neg h2, rd1_no (.inl rfl) h1, e]
  split <;> rfl
theorem kpre_mark (c : Nat) : gk (kd .pre c) = mrk c := by
  unfold kd kdS mrk
  by_cases h1 : c = 32
  · subst h1; rfl
  by_cases h2 : c = 10
  · subst h2; rfl
  rw [if_neg h1, if_neg h2]
  by_cases h3 : 65 ≤ c ∧ c ≤ 90
  · rw [if_pos h3]
    have a : c ≠ 60 := by omega
    have b : c ≠ 62 := by omega
    simp [a, b, gk]
  rw [if_neg h3]
  by_cases h4 : c = 124
  · subst h4; rfl
  by_cases h5 : c = 94
  · subst h5; rfl
  rw [if_neg h4, if_neg h5]
  by_cases h6 : c = 60 ∨ c = 62
  · rw [if_pos h6]
    rcases h6 with rfl | rfl <;> rfl
  · rw [if_neg h6]
    have a : c ≠ 60 := fun z => h6 (.inl z)
    have b : c ≠ 62 := fun z => h6 (.inr z)
    simp [a, b, gk]
theorem shC_pre {c : Nat} (h : c ≠ 124) : shC (.pre, c) = c := by
  unfold shC
  show (if kd .pre c = .fin then 10 else if kd .pre c = .feed then 32 else c) = c
  unfold kd kdS
  by_cases h1 : c = 32
  · subst h1; rfl
  by_cases h2 : c = 10
  · subst h2; rfl
  rw [if_neg h1, if_neg h2]
  (repeat' split) <;> simp_all
theorem nf_pre1 {c : Nat} (h : c ≠ 124) : nf [(.pre, c)] = if mrk c then ([c], [], []) else ([], [c], []) := by
  cases e : mrk c
  · have : gk (U.k (.pre, c)) = false := (kpre_mark c).trans e
    unfold nf
    rw [split, if_neg (by rw [this]; decide)]
    show (gform [] none _, [shC (.pre, c)], gform [] _ none) = _
    rw [shC_pre h]
    rw [gform_marks (by simp) (by simp), gform_marks (by simp) (by simp)]
    rfl
  · rw [nf_gap (fun u hu => by
      rw [List.mem_singleton.mp hu]
      exact (kpre_mark c).trans e)]
    show (red [c], [], []) = ([c], [], [])
    have : c = 60 ∨ c = 62 := by simpa [mrk] using e
    rcases this with rfl | rfl <;> rfl
theorem nf_preU : ∀ {t : List Nat} (x : Nat), (∀ c ∈ t, c ≠ 124) → x ≠ 124 → mrk x = false → nf (preU (t ++ [x])) = ((t ++ [x]).takeWhile mrk, (t ++ [x]).dropWhile mrk, [])
  | [], x, _, hx, hm => by
    show nf [(.pre, x)] = _
    rw [nf_pre1 hx, if_neg (by rw [hm]; decide)]
    simp [hm]
  | c :: t, x, h, hx, hm => by
    have ih := nf_preU (t := t) x (fun d hd => h d (List.mem_cons_of_mem _ hd)) hx hm
    have e : preU (c :: t ++ [x]) = [(.pre, c)] ++ preU (t ++ [x]) := rfl
    have m1 : 32 ∉ (t ++ [x]).takeWhile mrk := fun z => by
      have := List.all_takeWhile (l := t ++ [x]) (p := mrk)
      have := List.all_eq_true.mp this _ z
      cases this
    have m2 : 10 ∉ (t ++ [x]).takeWhile mrk := fun z => by
      have := List.all_takeWhile (l := t ++ [x]) (p := mrk)
      have := List.all_eq_true.mp this _ z
      cases this
    have dn : (t ++ [x]).dropWhile mrk ≠ [] := fun z => by
      have z2 := List.takeWhile_append_dropWhile (p := mrk) (l := t ++ [x])
      rw [z, List.append_nil] at z2
      have := List.all_eq_true.mp (List.all_takeWhile (l := t ++ [x]) (p := mrk)) x (by rw [z2]; simp)
      rw [hm] at this; cases this
    rw [e, nf_app, ih, nf_pre1 (h c (List.mem_cons_self ..)), List.cons_append]
    cases hc : mrk c
    · rw [if_neg Bool.false_ne_true, List.takeWhile_cons_of_neg (by rw [hc]; decide), List.dropWhile_cons_of_neg (by rw [hc]; decide)]
      unfold cat
      dsimp only
      rw [if_neg (List.cons_ne_nil _ _), if_neg dn, List.nil_append, gform_marks m1 m2]
      rw [List.append_assoc, List.takeWhile_append_dropWhile]
      rfl
    · rw [if_pos rfl, List.takeWhile_cons_of_pos hc, List.dropWhile_cons_of_pos hc]
      unfold cat
      dsimp only
      rw [if_pos rfl]
      have : c ≠ 32 ∧ c ≠ 10 := by
        constructor <;> (intro z; subst z; cases hc)
      rw [gform_marks]
      · rfl
      · rw [List.singleton_append, List.mem_cons, not_or]
        exact ⟨fun z => this.1 z.symm, m1⟩
      · rw [List.singleton_append, List.mem_cons, not_or]
        exact ⟨fun z => this.2 z.symm, m2⟩
/-- a core: from its first solid sign to its last -/
def coreOk (c : List Nat) : Prop := c = [] ∨ ((∀ x ∈ c, x ≠ 124) ∧ (∃ a t, c = a :: t ∧ mrk a = false) ∧ ∃ t a, c = t ++ [a] ∧ mrk a = false)
theorem nf_core {c : List Nat} (h : coreOk c) : nf (preU c) = ([], c, []) := by
  rcases h with rfl | ⟨h1, ⟨a, t, e, ha⟩, t', b, e', hb⟩
  · rfl
  · have := nf_preU (t := t') b (fun d hd => h1 d (by rw [e']; exact List.mem_append.mpr (.inl hd))) (h1 b (by rw [e']; simp)) hb
    rw [← e'] at this
    rw [this, e, List.takeWhile_cons_of_neg (by rw [ha]; decide), List.dropWhile_cons_of_neg (by rw [ha]; decide)]
/-- the normal forms -/
def isNF (f : NF) : Prop := gsn f.1 ∧ gsn f.2.2 ∧ coreOk f.2.1 ∧ gform f.1 none (fk f.2.1) = f.1 ∧ (if f.2.1 = [] then f.2.2 = [] else gform f.2.2 (lk f.2.1) none = f.2.2)
theorem eqv_red (z : Bool) (x : List Nat) : Eqv z (red x) x := ⟨mk_red x, red_10 x, .inl (red_red x)⟩
theorem gform_of_red (x : List Nat) (l r : Ok) : gform (red x) l r = gform x l r := gform_eqv (eqv_red _ x)
theorem nf_stU {f : NF} (h : isNF f) : nf (stU f) = f := by
  obtain ⟨a, c, e⟩ := f
  obtain ⟨h1, h2, h3, h4, h5⟩ := h
  dsimp only at h1 h2 h3 h4 h5
  unfold stU
  rw [nf_app, nf_app, nf_col h1, nf_core h3, nf_col h2]
  by_cases hc : c = []
  · subst hc
    rw [if_pos rfl] at h5
    subst h5
    unfold cat
    dsimp only
    rw [if_pos rfl]
    dsimp only
    rw [if_pos rfl]
    show (gform (gform (red a ++ []) none none ++ red []) none none, [], []) = _
    rw [List.append_nil, gform_of_red]
    show (gform (gform a none none ++ []) none none, [], []) = _
    rw [List.append_nil, gform_l]
    have h4 : gform a none none = a := h4
    rw [h4]
  · rw [if_neg hc] at h5
    unfold cat
    dsimp only
    rw [if_pos rfl]
    dsimp only
    rw [if_neg hc, if_pos rfl, List.append_nil, gform_of_red, h4, List.nil_append, gform_of_red, h5]
theorem bd_core : ∀ {L : SG}, (∀ p ∈ L, gk p.1.k = false ∧ ∀ u ∈ p.2, gk u.k = true) → coreOk (bd L).1
  | [], _ => .inl rfl
  | [(s, h)], g => by
    have hs := (g _ (List.mem_cons_self ..)).1
    have m : mrk (shC s) = false := by rw [← kpre_mark, k_shC hs]; exact hs
    refine .inr ⟨fun x hx => ?_, ⟨_, _, rfl, m⟩, ⟨[], _, rfl, m⟩⟩
    have : x = shC s := List.mem_singleton.mp hx
    subst this
    intro z
    have := k_shC hs
    rw [z] at this
    unfold shC at z
    rw [if_pos (show s.k = .fin from this.symm)] at z
    cases z
  | (s, h) :: (s', h') :: r, g => by
    have hs := (g _ (List.mem_cons_self ..)).1
    have m : mrk (shC s) = false := by rw [← kpre_mark, k_shC hs]; exact hs
    have ih := bd_core (L := (s', h') :: r) fun p hp => g p (List.mem_cons_of_mem _ hp)
    rcases ih with q | ⟨h1, _, t, a, e, ha⟩
    · have := bd_nil.mp q; cases this
    refine .inr ⟨fun x hx => ?_, ⟨_, _, rfl, m⟩, ⟨shC s :: gform (sg h) (some s.k) (some s'.k) ++ t, a, ?_, ha⟩⟩
    · rcases List.mem_append.mp hx with hx | hx
      · rcases List.mem_cons.mp hx with rfl | hx
        · intro z
          have := k_shC hs
          rw [z] at this
          unfold shC at z
          rw [if_pos (show s.k = .fin from this.symm)] at z
          cases z
        · have := gsn_gform (gsn_sg (g _ (List.mem_cons_self ..)).2) (some s.k) (some s'.k) x hx
          omega
      · exact h1 x hx
    · show shC s :: gform (sg h) (some s.k) (some s'.k) ++ (bd ((s', h') :: r)).1 = _
      rw [e, List.append_assoc]
theorem bd_end : ∀ {L : SG}, (∀ p ∈ L, gk p.1.k = false ∧ ∀ u ∈ p.2, gk u.k = true) → gsn (bd L).2 ∧ (if (bd L).1 = [] then (bd L).2 = [] else gform (bd L).2 (lk (bd L).1) none = (bd L).2)
  | [], _ => ⟨by simp [bd, gsn], rfl⟩
  | [(s, h)], g => by
    have hs := (g _ (List.mem_cons_self ..)).1
    refine ⟨gsn_gform (gsn_sg (g _ (List.mem_cons_self ..)).2) _ _, ?_⟩
    rw [if_neg (by simp [bd])]
    show gform (gform (sg h) (some s.k) none) (some (kd .pre (shC s))) none = gform (sg h) (some s.k) none
    rw [k_shC hs, gform_l]
  | (s, h) :: (s', h') :: r, g => by
    obtain ⟨i1, i2⟩ := bd_end (L := (s', h') :: r) fun p hp => g p (List.mem_cons_of_mem _ hp)
    have n : (bd ((s', h') :: r)).1 ≠ [] := fun z => by have := bd_nil.mp z; cases this
    refine ⟨i1, ?_⟩
    rw [if_neg n] at i2
    rw [if_neg (by simp [bd])]
    have kl : lk (bd ((s, h) :: (s', h') :: r)).1 = lk (bd ((s', h') :: r)).1 := by
      rw [bd]
      exact lk_app _ _ n
    rw [kl]
    exact i2
theorem nf_isNF (x : List U) : isNF (nf x) := by
  obtain ⟨g1, g2⟩ := split_gk x
  refine ⟨gsn_gform (gsn_sg g1) _ _, (bd_end g2).1, bd_core g2, ?_, (bd_end g2).2⟩
  unfold nf
  dsimp only
  rw [bd_hd (sp2 x), gform_r]
/-- a fragment is alike to the one for which its normal form stands -/
theorem nf_stands (x : List U) : nf (stU (nf x)) = nf x := nf_stU (nf_isNF x)
theorem isNF_iff (f : NF) : isNF f ↔ nf (stU f) = f := ⟨nf_stU, fun h => h ▸ nf_isNF _⟩
theorem cat_assoc_nf (x y z : List U) : cat (cat (nf x) (nf y)) (nf z) = cat (nf x) (cat (nf y) (nf z)) := by
  rw [← nf_app, ← nf_app, ← nf_app, ← nf_app, List.append_assoc]
theorem nf_stU2 (p q : NF) (hp : isNF p) (hq : isNF q) : nf (stU p ++ stU q) = cat p q := by rw [nf_app, nf_stU hp, nf_stU hq]
theorem cat_isNF (x y : List U) : isNF (cat (nf x) (nf y)) := by rw [← nf_app]; exact nf_isNF _
end Den

namespace Den
open PySem PySem.Spec PyProof.Rows L2
abbrev N_is_pair_of_run : List Str := ["thing", "mode", "text"]
abbrev P_is_pair_of_run : List Str := ["thing"]
abbrev W_is_pair_of_run : List Nat := [1, 2]
abbrev N_units : List Str := ["fragment", "mode", "text", "sign"]
abbrev P_units : List Str := ["fragment"]
abbrev W_units : List Nat := []
abbrev N_tidy : List Str := ["units", "modes", "texts", "mode", "sign", "name", "signs"]
abbrev P_tidy : List Str := ["units"]
abbrev W_tidy : List Nat := [1, 2, 3, 4]
abbrev N_kind : List Str := ["mode", "sign"]
abbrev P_kind : List Str := ["mode", "sign"]
abbrev W_kind : List Nat := []
abbrev N_law_cell : List Str := ["script", "k"]
abbrev P_law_cell : List Str := ["script", "k"]
abbrev W_law_cell : List Nat := []
abbrev N_law_row : List Str := ["script", "first", "last", "row", "k", "cell", "turn"]
abbrev P_law_row : List Str := ["script", "first", "last"]
abbrev W_law_row : List Nat := [3, 4, 5, 6]
abbrev N_law_draw : List Str := ["box", "many", "at"]
abbrev P_law_draw : List Str := ["box", "many"]
abbrev W_law_draw : List Nat := [2]
abbrev N_law_fragment : List Str := ["box", "most", "out", "k", "mode", "text", "j"]
abbrev P_law_fragment : List Str := ["box", "most"]
abbrev W_law_fragment : List Nat := [2, 3, 4, 5, 6]
abbrev N_law_units : List Str := ["fragment", "out", "mode", "text", "sign"]
abbrev P_law_units : List Str := ["fragment"]
abbrev W_law_units : List Nat := [1, 2, 3]
abbrev N_law_kind : List Str := ["unit", "mode", "sign"]
abbrev P_law_kind : List Str := ["unit"]
abbrev W_law_kind : List Nat := [1, 2]
abbrev N_gaps : List Str := ["units", "outside", "found", "signs", "left", "number", "mode", "sign", "here"]
abbrev P_gaps : List Str := ["units", "outside"]
abbrev W_gaps : List Nat := [2, 3, 4, 5, 6, 7, 8]
abbrev N_are_joining : List Str := ["left", "right"]
abbrev P_are_joining : List Str := ["left", "right"]
abbrev W_are_joining : List Nat := []
abbrev N_white : List Str := ["signs", "left", "right"]
abbrev P_white : List Str := ["signs", "left", "right"]
abbrev W_white : List Nat := []
abbrev N_counting : List Str := ["units", "outside", "numbers", "place", "signs", "left", "right", "kept", "k", "sign", "solid"]
abbrev P_counting : List Str := ["units", "outside"]
abbrev W_counting : List Nat := [2, 3, 4, 5, 6, 7, 8, 9, 10]
abbrev N_shown_sign : List Str := ["mode", "sign", "here"]
abbrev P_shown_sign : List Str := ["mode", "sign"]
abbrev W_shown_sign : List Nat := [2]
abbrev N_shortened : List Str := ["fragment", "row", "number"]
abbrev P_shortened : List Str := ["fragment"]
abbrev W_shortened : List Nat := [1]
abbrev N_marks : List Str := ["signs"]
abbrev P_marks : List Str := ["signs"]
abbrev W_marks : List Nat := []
abbrev N_gap_form : List Str := ["signs", "left", "right", "kept", "before", "after"]
abbrev P_gap_form : List Str := ["signs", "left", "right"]
abbrev W_gap_form : List Nat := [3, 4, 5]
abbrev N_normal_form : List Str := ["fragment", "row", "texts", "place", "signs", "left", "right", "mode", "sign"]
abbrev P_normal_form : List Str := ["fragment"]
abbrev W_normal_form : List Nat := [1, 2, 3, 4, 5, 6, 7, 8]
abbrev N_stands_for : List Str := ["form", "start", "core", "end"]
abbrev P_stands_for : List Str := ["form"]
abbrev W_stands_for : List Nat := [1, 2, 3]
abbrev N_law_tidy : List Str := ["units_v", "out", "mode", "sign"]
abbrev P_law_tidy : List Str := ["units_v"]
abbrev W_law_tidy : List Nat := [1, 2, 3]
abbrev N_law_gaps : List Str := ["units_v", "kinds", "gaps_v", "k", "unit"]
abbrev P_law_gaps : List Str := ["units_v"]
abbrev W_law_gaps : List Nat := [1, 2, 3]
abbrev N_law_join : List Str := ["one", "two"]
abbrev P_law_join : List Str := ["one", "two"]
abbrev W_law_join : List Nat := []
abbrev N_law_kept : List Str := ["units_v", "gap", "kinds", "k"]
abbrev P_law_kept : List Str := ["units_v", "gap"]
abbrev W_law_kept : List Nat := [2]
abbrev N_law_needed : List Str := ["units_v", "kept", "gap", "k"]
abbrev P_law_needed : List Str := ["units_v"]
abbrev W_law_needed : List Nat := [1]
abbrev N_law_sign : List Str := ["unit", "kind_v"]
abbrev P_law_sign : List Str := ["unit"]
abbrev W_law_sign : List Nat := [1]
abbrev N_law_shown : List Str := ["units_v", "gaps_v", "kept", "sources", "gap", "k"]
abbrev P_law_shown : List Str := ["units_v"]
abbrev W_law_shown : List Nat := [1, 2, 3]
abbrev N_law_form : List Str := ["units_v", "needed", "solid", "start", "core", "end", "k", "unit"]
abbrev P_law_form : List Str := ["units_v"]
abbrev W_law_form : List Nat := [1, 2, 3, 4, 5]
abbrev N_law_contexts : List Str := []
abbrev P_law_contexts : List Str := []
abbrev W_law_contexts : List Nat := []
abbrev N_law_within : List Str := ["units_v", "context", "sign"]
abbrev P_law_within : List Str := ["units_v", "context"]
abbrev W_law_within : List Nat := []
abbrev N_law_near : List Str := ["box", "units_v", "out", "turn", "at", "unit"]
abbrev P_law_near : List Str := ["box", "units_v"]
abbrev W_law_near : List Nat := [2, 3, 4, 5]
abbrev N_law_stands : List Str := ["form", "sign"]
abbrev P_law_stands : List Str := ["form"]
abbrev W_law_stands : List Nat := []
abbrev N_shown : List Str := ["fragment", "row", "sources", "pairs", "number", "mode", "sign"]
abbrev P_shown : List Str := ["fragment"]
abbrev W_shown : List Nat := [1, 2, 3]
abbrev N_are_alike : List Str := ["first", "second"]
abbrev P_are_alike : List Str := ["first", "second"]
abbrev W_are_alike : List Nat := []
abbrev N_is_telling : List Str := ["first", "second", "context", "before", "after", "front", "back"]
abbrev P_is_telling : List Str := ["first", "second", "context"]
abbrev W_is_telling : List Nat := [3, 4, 5, 6]
abbrev N_telling : List Str := ["first", "second", "context"]
abbrev P_telling : List Str := ["first", "second"]
abbrev W_telling : List Nat := [2]
abbrev N_law_text : List Str := ["box", "k"]
abbrev P_law_text : List Str := ["box"]
abbrev W_law_text : List Nat := []
abbrev N_together : List Str := ["first", "second"]
abbrev P_together : List Str := ["first", "second"]
abbrev W_together : List Nat := []
abbrev N_law_all : List Str := ["most", "kinds", "rows", "out", "turn", "longer", "row", "unit"]
abbrev P_law_all : List Str := ["most"]
abbrev W_law_all : List Nat := [1, 2, 3, 4, 5, 6]
abbrev N_free_places : List Str := ["fragment", "places", "place", "signs", "left", "right", "form", "k"]
abbrev P_free_places : List Str := ["fragment"]
abbrev W_free_places : List Nat := [1, 2, 3, 4, 5, 6, 7]
abbrev N_law_part : List Str := ["box"]
abbrev P_law_part : List Str := ["box"]
abbrev W_law_part : List Nat := []
abbrev N_law_loose : List Str := ["box", "fragment", "out", "unit", "many"]
abbrev P_law_loose : List Str := ["box", "fragment"]
abbrev W_law_loose : List Nat := [2, 3, 4]
abbrev N_law_short_part : List Str := ["box", "text", "k"]
abbrev P_law_short_part : List Str := ["box"]
abbrev W_law_short_part : List Nat := [1]
abbrev N_law_pair : List Str := ["box", "one", "kind_v"]
abbrev P_law_pair : List Str := ["box"]
abbrev W_law_pair : List Nat := [1, 2]
abbrev N_common : List Str := ["one", "two", "most", "k"]
abbrev P_common : List Str := ["one", "two"]
abbrev W_common : List Nat := [2, 3]
abbrev N_change : List Str := ["one", "two", "offset", "before", "after", "same"]
abbrev P_change : List Str := ["one", "two"]
abbrev W_change : List Nat := [2, 3, 4, 5]
abbrev N_changed : List Str := ["one", "told", "offset", "removed", "inserted"]
abbrev P_changed : List Str := ["one", "told"]
abbrev W_changed : List Nat := [2, 3, 4]
abbrev N_law_due : List Str := ["one", "two", "p", "turn", "q"]
abbrev P_law_due : List Str := ["one", "two"]
abbrev W_law_due : List Nat := [2, 3, 4]
abbrev N_hides_feeds : List Str := ["left", "right"]
abbrev P_hides_feeds : List Str := ["left", "right"]
abbrev W_hides_feeds : List Nat := []
abbrev N_soft_places : List Str := ["row", "number", "left", "right"]
abbrev P_soft_places : List Str := ["row", "number", "left", "right"]
abbrev W_soft_places : List Nat := []
abbrev N_law_column : List Str := ["unit", "column"]
abbrev P_law_column : List Str := ["unit", "column"]
abbrev W_law_column : List Nat := []
abbrev N_undecided : List Str := ["fragment", "place", "signs", "left", "_", "kept"]
abbrev P_undecided : List Str := ["fragment"]
abbrev W_undecided : List Nat := [1, 2, 3, 4, 5]
abbrev N_certain : List Str := ["fragment", "number"]
abbrev P_certain : List Str := ["fragment"]
abbrev W_certain : List Nat := [1]
abbrev N_law_undecided : List Str := ["units_v", "gap", "left", "kinds", "k"]
abbrev P_law_undecided : List Str := ["units_v"]
abbrev W_law_undecided : List Nat := [1, 2, 3]
abbrev N_law_certain : List Str := ["units_v", "k"]
abbrev P_law_certain : List Str := ["units_v"]
abbrev W_law_certain : List Nat := [1]
abbrev N_law_parts : List Str := ["units_v", "sure", "ends", "shown_v", "nexts", "more", "text", "sign"]
abbrev P_law_parts : List Str := ["units_v"]
abbrev W_law_parts : List Nat := [1, 2, 3, 4]
def tab_STAND_INS : List (List Nat × List Nat) := [([124], [101, 110, 100]), ([94], [122, 101, 114, 111]), ([60], [109, 97, 114, 107]), ([62], [109, 97, 114, 107])]
/-! ### the denotations -/
def b_is_pair_of_run : Es :=
  (sSeq (sIf (qOr (qNot (qTru (xCB dIsi (xCons (xVar 0) (xCons (xC (.ty "tuple")) xNil))))) (xB (xOp dNe (xCB dLen (xCons (xVar 0) xNil)) (xC (.int 2)))))
  (sRet (xC (.bl false)))
  sNil)
  (sSeq (sAsg (xVar 0) (gA 2 (gsCons (gN 1) (gsCons (gN 2) gsNil))))
  (sRet (xAnd (xCB dIsi (xCons (xVar 1) (xCons (xC (.ty "str")) xNil))) (xAnd (xOp dIn (xVar 1) (xC (.tup [(.str [99, 111, 108, 108, 97, 112, 115, 101]), (.str [98, 114, 101, 97, 107, 115]), (.str [112, 114, 101, 115, 101, 114, 118, 101])]))) (xCB dIsi (xCons (xVar 2) (xCons (xC (.ty "str")) xNil))))))))
def d_is_pair_of_run : Dn := dnOf W_is_pair_of_run P_is_pair_of_run.length N_is_pair_of_run.length b_is_pair_of_run
def b_units : Es :=
  (sRet (xFz (xLc2 (iA (xVar 0)) (gA 2 (gsCons (gN 1) (gsCons (gN 2) gsNil))) qYes (iA (xVar 2)) (gN 3) qYes (xTup (xCons (xVar 1) (xCons (xVar 3) xNil))) [1, 2, 3] [3])))
def d_units : Dn := dnOf W_units P_units.length N_units.length b_units
def b_tidy : Es :=
  (sSeq (sSet 1 (xLst xNil))
  (sSeq (sSet 2 (xLst xNil))
  (sSeq (sFor (iA (xVar 0)) (gA 2 (gsCons (gN 3) (gsCons (gN 4) gsNil)))
  (sSeq (sIf (qOr (qNot (qTru (xVar 1))) (xB (xOp dNe (xOp dIx (xVar 1) (xUn dNeg (xC (.int 1)))) (xVar 3))))
  (sSeq (sExpr (xApp 1 (xVar 3)))
  (sExpr (xApp 2 (xLst xNil))))
  sNil)
  (sExpr (xAppP (lIx (lV 2) (kC (-1))) (pV 4)))))
  (sRet (xFz (xLc (iZ (xCons (xFz (xVar 1)) (xCons (xFz (xVar 2)) xNil))) (gA 2 (gsCons (gN 5) (gsCons (gN 6) gsNil))) qYes (xTup (xCons (xVar 5) (xCons (xBM "str" dJoin (xC (.str [])) (xCons (xVar 6) xNil)) xNil))) [5, 6]))))))
def d_tidy : Dn := dnOf W_tidy P_tidy.length N_tidy.length b_tidy
def b_kind : Es :=
  (sSeq (sIf (xB (xOp dEq (xVar 1) (xC (.str [32]))))
  (sRet (xIf (xB (xOp dEq (xVar 0) (xC (.str [112, 114, 101, 115, 101, 114, 118, 101])))) (xC (.str [111, 116, 104, 101, 114])) (xC (.str [115, 112, 97, 99, 101]))))
  sNil)
  (sSeq (sIf (xB (xOp dEq (xVar 1) (xC (.str [10]))))
  (sRet (xIf (xB (xOp dEq (xVar 0) (xC (.str [99, 111, 108, 108, 97, 112, 115, 101])))) (xC (.str [102, 101, 101, 100])) (xC (.str [101, 110, 100]))))
  sNil)
  (sSeq (sIf (xB (xChain dLe dLe (xC (.str [65])) (xVar 1) (xC (.str [90]))))
  (sRet (xC (.str [119, 105, 100, 101])))
  sNil)
  (sRet (xKGet tab_STAND_INS (xVar 1) (xC (.str [111, 116, 104, 101, 114])))))))
def d_kind : Dn := dnOf W_kind P_kind.length N_kind.length b_kind
def b_law_cell : Es :=
  (sSeq (sIf (xB (xOp dLt (xVar 1) (xCB dLen (xCons (xVar 0) xNil))))
  (sRet (xOp dIx (xVar 0) (xVar 1)))
  sNil)
  (sRet (xC (.int 0))))
def d_law_cell : Dn := dnOf W_law_cell P_law_cell.length N_law_cell.length b_law_cell
def b_law_row : Es :=
  (sSeq (sSet 3 (xLst xNil))
  (sSeq (sFor (iR2 (xCons (xVar 1) (xCons (xVar 2) xNil))) (gN 4)
  (sSeq (sSet 5 (xCallV 2 d_law_cell (xCons (xVar 0) (xCons (xVar 4) xNil))))
  (sSeq (sSet 5 (xOp dAdd (xCB dAbs (xCons (xOp dMul (xC (.int 2)) (xVar 5)) xNil)) (xCB dInt (xCons (xOp dLt (xVar 5) (xC (.int 0))) xNil))))
  (sIf (xB (xOp dGt (xVar 5) (xOp dPow (xC (.int 10)) (xC (.int 18)))))
  (sFor (iR1 (xCons (xC (.int 60)) xNil)) (gN 6)
  (sIf (xB (xOp dGt (xVar 5) (xC (.int 0))))
  (sSeq (sExpr (xApp 3 (xOp dMod (xCB dInt (xCons (xVar 5) xNil)) (xC (.int 840)))))
  (sSet 5 (xOp dDiv (xVar 5) (xC (.int 840)))))
  sNil))
  (sFor (iR1 (xCons (xC (.int 10)) xNil)) (gN 6)
  (sSeq (sSet 5 (xOp dMod (xCB dInt (xCons (xOp dAdd (xOp dAdd (xOp dMul (xVar 5) (xC (.int 69069))) (xOp dMul (xC (.int 104729)) (xOp dAdd (xVar 4) (xVar 6)))) (xC (.int 1))) xNil)) (xC (.int 4294967291))))
  (sExpr (xApp 3 (xOp dMod (xCB dInt (xCons (xOp dDiv (xVar 5) (xC (.int 5003))) xNil)) (xC (.int 840)))))))))))
  (sRet (xFz (xVar 3)))))
def d_law_row : Dn := dnOf W_law_row P_law_row.length N_law_row.length b_law_row
def b_law_draw : Es :=
  (sSeq (sSet 2 (xOp dIx (xVar 0) (xC (.int 1))))
  (sSeq (sSto (xOp dAdd (xVar 2) (xC (.int 1))) (lV 0) (kC 1))
  (sSeq (sIf (xB (xOp dLt (xVar 2) (xCB dLen (xCons (xOp dIx (xVar 0) (xC (.int 0))) xNil))))
  (sRet (xOp dMod (xCB dInt (xCons (xOp dIx (xOp dIx (xVar 0) (xC (.int 0))) (xVar 2)) xNil)) (xVar 1)))
  sNil)
  (sRet (xOp dMod (xCB dInt (xCons (xOp dAdd (xOp dMul (xVar 2) (xC (.int 5))) (xC (.int 1))) xNil)) (xVar 1))))))
def d_law_draw : Dn := dnOf W_law_draw P_law_draw.length N_law_draw.length b_law_draw
def b_law_fragment : Es :=
  (sSeq (sSet 2 (xLst xNil))
  (sSeq (sFor (iR1 (xCons (xCallL 2 d_law_draw 0 (xCons (xC (.int 5)) xNil)) xNil)) (gN 3)
  (sSeq (sSet 4 (xOp dIx (xFz (xLst (xCons (xC (.str [99, 111, 108, 108, 97, 112, 115, 101])) (xCons (xC (.str [99, 111, 108, 108, 97, 112, 115, 101])) (xCons (xC (.str [98, 114, 101, 97, 107, 115])) (xCons (xC (.str [112, 114, 101, 115, 101, 114, 118, 101])) xNil)))))) (xCallL 2 d_law_draw 0 (xCons (xC (.int 4)) xNil))))
  (sSeq (sSet 5 (xC (.str [])))
  (sSeq (sFor (iR1 (xCons (xCallL 2 d_law_draw 0 (xCons (xVar 1) xNil)) xNil)) (gN 6)
  (sSet 5 (xOp dAdd (xVar 5) (xOp dIx (xC (.str [32, 32, 10, 10, 124, 124, 94, 94, 60, 62, 65, 65, 66, 98, 97, 120, 55])) (xCallL 2 d_law_draw 0 (xCons (xC (.int 17)) xNil))))))
  (sExpr (xApp 2 (xTup (xCons (xVar 4) (xCons (xVar 5) xNil)))))))))
  (sRet (xFz (xVar 2)))))
def d_law_fragment : Dn := dnOf W_law_fragment P_law_fragment.length N_law_fragment.length b_law_fragment
def b_law_units : Es :=
  (sSeq (sSet 1 (xLst xNil))
  (sSeq (sFor (iA (xVar 0)) (gA 2 (gsCons (gN 2) (gsCons (gN 3) gsNil)))
  (sExpr (xExt 1 (xFz (xLc (iA (xVar 3)) (gN 4) qYes (xTup (xCons (xVar 2) (xCons (xVar 4) xNil))) [4])))))
  (sRet (xFz (xVar 1)))))
def d_law_units : Dn := dnOf W_law_units P_law_units.length N_law_units.length b_law_units
def b_law_kind : Es :=
  (sSeq (sSet 1 (xOp dIx (xVar 0) (xC (.int 0))))
  (sSeq (sSet 2 (xOp dIx (xVar 0) (xC (.int 1))))
  (sSeq (sIf (xB (xOp dEq (xVar 2) (xC (.str [32]))))
  (sRet (xOp dIx (xFz (xLst (xCons (xC (.str [115, 112, 97, 99, 101])) (xCons (xC (.str [111, 116, 104, 101, 114])) xNil)))) (xCB dInt (xCons (xOp dEq (xVar 1) (xC (.str [112, 114, 101, 115, 101, 114, 118, 101]))) xNil))))
  sNil)
  (sSeq (sIf (xB (xOp dEq (xVar 2) (xC (.str [10]))))
  (sRet (xOp dIx (xFz (xLst (xCons (xC (.str [101, 110, 100])) (xCons (xC (.str [102, 101, 101, 100])) xNil)))) (xCB dInt (xCons (xOp dEq (xVar 1) (xC (.str [99, 111, 108, 108, 97, 112, 115, 101]))) xNil))))
  sNil)
  (sSeq (sIf (xB (xOp dIn (xVar 2) (xC (.str [124, 94, 60, 62]))))
  (sRet (xDisp [([124], [101, 110, 100]), ([94], [122, 101, 114, 111]), ([60], [109, 97, 114, 107]), ([62], [109, 97, 114, 107])] (xVar 2)))
  sNil)
  (sRet (xOp dIx (xFz (xLst (xCons (xC (.str [111, 116, 104, 101, 114])) (xCons (xC (.str [119, 105, 100, 101])) xNil)))) (xCB dInt (xCons (xOp dIn (xVar 2) (xC (.str [65, 66, 67, 68, 69, 70, 71, 72, 73, 74, 75, 76, 77, 78, 79, 80, 81, 82, 83, 84, 85, 86, 87, 88, 89, 90]))) xNil)))))))))
def d_law_kind : Dn := dnOf W_law_kind P_law_kind.length N_law_kind.length b_law_kind
def b_gaps : Es :=
  (sSeq (sSet 2 (xLst xNil))
  (sSeq (sSet 3 (xLst xNil))
  (sSeq (sSet 4 (xVar 1))
  (sSeq (sFor (iEA (xCons (xVar 0) xNil)) (gA 2 (gsCons (gN 5) (gsCons (gA 2 (gsCons (gN 6) (gsCons (gN 7) gsNil))) gsNil)))
  (sSeq (sSet 8 (xCallV 2 d_kind (xCons (xVar 6) (xCons (xVar 7) xNil))))
  (sIf (xB (xOp dIn (xVar 8) (xC (.tup [(.str [115, 112, 97, 99, 101]), (.str [102, 101, 101, 100]), (.str [109, 97, 114, 107])]))))
  (sExpr (xApp 3 (xVar 7)))
  (sSeq (sExpr (xApp 2 (xTup (xCons (xOp dSub (xVar 5) (xCB dLen (xCons (xVar 3) xNil))) (xCons (xBM "str" dJoin (xC (.str [])) (xCons (xVar 3) xNil)) (xCons (xVar 4) (xCons (xVar 8) xNil)))))))
  (sSeq (sSet 3 (xLst xNil))
  (sSet 4 (xVar 8)))))))
  (sSeq (sExpr (xApp 2 (xTup (xCons (xOp dSub (xCB dLen (xCons (xVar 0) xNil)) (xCB dLen (xCons (xVar 3) xNil))) (xCons (xBM "str" dJoin (xC (.str [])) (xCons (xVar 3) xNil)) (xCons (xVar 4) (xCons (xVar 1) xNil)))))))
  (sRet (xFz (xVar 2))))))))
def d_gaps : Dn := dnOf W_gaps P_gaps.length N_gaps.length b_gaps
def b_are_joining : Es :=
  (sSeq (sIf (qOr (xB (xOp dIs (xVar 0) (xC .non))) (xB (xOp dIs (xVar 1) (xC .non))))
  (sRet (xC (.bl false)))
  sNil)
  (sRet (xOr (xOp dEq (xVar 0) (xC (.str [122, 101, 114, 111]))) (xOr (xOp dEq (xVar 1) (xC (.str [122, 101, 114, 111]))) (xChain dEq dEq (xVar 0) (xVar 1) (xC (.str [119, 105, 100, 101])))))))
def d_are_joining : Dn := dnOf W_are_joining P_are_joining.length N_are_joining.length b_are_joining
def b_white : Es :=
  (sSeq (sIf (qOr (xB (xOp dEq (xVar 1) (xC (.str [101, 110, 100])))) (xB (xOp dEq (xVar 2) (xC (.str [101, 110, 100])))))
  (sRet (xUn dNeg (xC (.int 1))))
  sNil)
  (sSeq (sIf (xB (xOp dNotIn (xC (.str [10])) (xVar 0)))
  (sRet (xBM "str" dFind (xVar 0) (xCons (xC (.str [32])) xNil)))
  sNil)
  (sRet (xIf (qTru (xCallV 2 d_are_joining (xCons (xVar 1) (xCons (xVar 2) xNil)))) (xUn dNeg (xC (.int 1))) (xBM "str" dFind (xVar 0) (xCons (xC (.str [10])) xNil))))))
def d_white : Dn := dnOf W_white P_white.length N_white.length b_white
def b_counting : Es :=
  (sSeq (sSet 2 (xLst xNil))
  (sSeq (sFor (iA (xCallV 2 d_gaps (xCons (xVar 0) (xCons (xVar 1) xNil)))) (gA 4 (gsCons (gN 3) (gsCons (gN 4) (gsCons (gN 5) (gsCons (gN 6) gsNil)))))
  (sSeq (sSet 7 (xCallV 3 d_white (xCons (xVar 4) (xCons (xVar 5) (xCons (xVar 6) xNil)))))
  (sSeq (sFor (iEA (xCons (xVar 4) xNil)) (gA 2 (gsCons (gN 8) (gsCons (gN 9) gsNil)))
  (sIf (qOr (xB (xOp dEq (xVar 8) (xVar 7))) (xB (xOp dEq (xCallV 2 d_kind (xCons (xC (.str [99, 111, 108, 108, 97, 112, 115, 101])) (xCons (xVar 9) xNil))) (xC (.str [109, 97, 114, 107])))))
  (sExpr (xApp 2 (xOp dAdd (xVar 3) (xVar 8))))
  sNil))
  (sSeq (sSet 10 (xOp dAdd (xVar 3) (xCB dLen (xCons (xVar 4) xNil))))
  (sIf (xB (xOp dLt (xVar 10) (xCB dLen (xCons (xVar 0) xNil))))
  (sExpr (xApp 2 (xVar 10)))
  sNil)))))
  (sRet (xFz (xVar 2)))))
def d_counting : Dn := dnOf W_counting P_counting.length N_counting.length b_counting
def b_shown_sign : Es :=
  (sSeq (sSet 2 (xCallV 2 d_kind (xCons (xVar 0) (xCons (xVar 1) xNil))))
  (sSeq (sIf (xB (xOp dEq (xVar 2) (xC (.str [101, 110, 100]))))
  (sRet (xC (.str [10])))
  sNil)
  (sRet (xIf (xB (xOp dEq (xVar 2) (xC (.str [102, 101, 101, 100])))) (xC (.str [32])) (xVar 1)))))
def d_shown_sign : Dn := dnOf W_shown_sign P_shown_sign.length N_shown_sign.length b_shown_sign
def b_shortened : Es :=
  (sSeq (sSet 1 (xCallV 1 d_units (xCons (xVar 0) xNil)))
  (sRet (xCallV 1 d_tidy (xCons (xFz (xLc (iA (xCallV 2 d_counting (xCons (xVar 1) (xCons (xC .non) xNil)))) (gN 2) qYes (xOp dIx (xVar 1) (xVar 2)) [2])) xNil))))
def d_shortened : Dn := dnOf W_shortened P_shortened.length N_shortened.length b_shortened
def b_marks : Es :=
  (sRet (xRepl (⟨([10] : List Nat).toArray⟩ : Str) (⟨([] : List Nat).toArray⟩ : Str) (xRepl (⟨([32] : List Nat).toArray⟩ : Str) (⟨([] : List Nat).toArray⟩ : Str) (xVar 0))))
def d_marks : Dn := dnOf W_marks P_marks.length N_marks.length b_marks
def b_gap_form : Es :=
  (sSeq (sSet 3 (xCallV 3 d_white (xCons (xVar 0) (xCons (xVar 1) (xCons (xVar 2) xNil)))))
  (sSeq (sIf (xB (xOp dLt (xVar 3) (xC (.int 0))))
  (sRet (xCallV 1 d_marks (xCons (xVar 0) xNil)))
  sNil)
  (sSeq (sSet 4 (xCallV 1 d_marks (xCons (xSl dSl (xVar 0) xNo (xSome (xVar 3))) xNil)))
  (sSeq (sSet 5 (xCallV 1 d_marks (xCons (xSl dSl (xVar 0) (xSome (xOp dAdd (xVar 3) (xC (.int 1)))) xNo) xNil)))
  (sSeq (sIf (qAnd (xB (xOp dIsNot (xVar 1) (xC .non))) (xB (xOp dIsNot (xVar 2) (xC .non))))
  (sRet (xOp dAdd (xOp dAdd (xVar 4) (xC (.str [32]))) (xVar 5)))
  sNil)
  (sSeq (sIf (qAnd (xB (xOp dEq (xOp dIx (xVar 0) (xVar 3)) (xC (.str [10])))) (xB (xOp dEq (xVar 2) (xC (.str [122, 101, 114, 111])))))
  (sRet (xOp dAdd (xOp dAdd (xVar 4) (xVar 5)) (xC (.str [10]))))
  sNil)
  (sSeq (sIf (qAnd (xB (xOp dEq (xOp dIx (xVar 0) (xVar 3)) (xC (.str [10])))) (xB (xOp dEq (xVar 1) (xC (.str [122, 101, 114, 111])))))
  (sRet (xOp dAdd (xOp dAdd (xC (.str [10])) (xVar 4)) (xVar 5)))
  sNil)
  (sRet (xOp dAdd (xOp dAdd (xVar 4) (xOp dIx (xVar 0) (xVar 3))) (xVar 5))))))))))
def d_gap_form : Dn := dnOf W_gap_form P_gap_form.length N_gap_form.length b_gap_form
def b_normal_form : Es :=
  (sSeq (sSet 1 (xCallV 1 d_units (xCons (xVar 0) xNil)))
  (sSeq (sSet 2 (xLst xNil))
  (sSeq (sFor (iA (xCallV 2 d_gaps (xCons (xVar 1) (xCons (xC .non) xNil)))) (gA 4 (gsCons (gN 3) (gsCons (gN 4) (gsCons (gN 5) (gsCons (gN 6) gsNil)))))
  (sSeq (sExpr (xApp 2 (xCallV 3 d_gap_form (xCons (xVar 4) (xCons (xVar 5) (xCons (xVar 6) xNil))))))
  (sIf (xB (xOp dIsNot (xVar 6) (xC .non)))
  (sSeq (sAsg (xOp dIx (xVar 1) (xOp dAdd (xVar 3) (xCB dLen (xCons (xVar 4) xNil)))) (gA 2 (gsCons (gN 7) (gsCons (gN 8) gsNil))))
  (sExpr (xApp 2 (xCallV 2 d_shown_sign (xCons (xVar 7) (xCons (xVar 8) xNil))))))
  sNil)))
  (sSeq (sIf (xB (xOp dEq (xCB dLen (xCons (xVar 2) xNil)) (xC (.int 1))))
  (sRet (xTup (xCons (xOp dIx (xVar 2) (xC (.int 0))) (xCons (xC (.str [])) (xCons (xC (.str [])) xNil)))))
  sNil)
  (sRet (xTup (xCons (xOp dIx (xVar 2) (xC (.int 0))) (xCons (xBM "str" dJoin (xC (.str [])) (xCons (xSl dSl (xFz (xVar 2)) (xSome (xC (.int 1))) (xSome (xUn dNeg (xC (.int 1))))) xNil)) (xCons (xOp dIx (xVar 2) (xUn dNeg (xC (.int 1)))) xNil)))))))))
def d_normal_form : Dn := dnOf W_normal_form P_normal_form.length N_normal_form.length b_normal_form
def b_stands_for : Es :=
  (sSeq (sAsg (xVar 0) (gA 3 (gsCons (gN 1) (gsCons (gN 2) (gsCons (gN 3) gsNil)))))
  (sRet (xCallV 1 d_tidy (xCons (xCallV 1 d_units (xCons (xFz (xLst (xCons (xTup (xCons (xC (.str [99, 111, 108, 108, 97, 112, 115, 101])) (xCons (xVar 1) xNil))) (xCons (xTup (xCons (xC (.str [112, 114, 101, 115, 101, 114, 118, 101])) (xCons (xVar 2) xNil))) (xCons (xTup (xCons (xC (.str [99, 111, 108, 108, 97, 112, 115, 101])) (xCons (xVar 3) xNil))) xNil))))) xNil)) xNil))))
def d_stands_for : Dn := dnOf W_stands_for P_stands_for.length N_stands_for.length b_stands_for
def b_law_tidy : Es :=
  (sSeq (sSet 1 (xLst xNil))
  (sSeq (sFor (iA (xVar 0)) (gA 2 (gsCons (gN 2) (gsCons (gN 3) gsNil)))
  (sIf (qAnd (xB (xOp dGt (xCB dLen (xCons (xVar 1) xNil)) (xC (.int 0)))) (xB (xOp dEq (xOp dIx (xOp dIx (xVar 1) (xUn dNeg (xC (.int 1)))) (xC (.int 0))) (xVar 2))))
  (sSto (xTup (xCons (xVar 2) (xCons (xOp dAdd (xOp dIx (xOp dIx (xVar 1) (xUn dNeg (xC (.int 1)))) (xC (.int 1))) (xVar 3)) xNil))) (lV 1) (kC (-1)))
  (sExpr (xApp 1 (xTup (xCons (xVar 2) (xCons (xVar 3) xNil)))))))
  (sRet (xFz (xVar 1)))))
def d_law_tidy : Dn := dnOf W_law_tidy P_law_tidy.length N_law_tidy.length b_law_tidy
def b_law_gaps : Es :=
  (sSeq (sSet 1 (xFz (xLc (iA (xVar 0)) (gN 4) qYes (xCallV 1 d_law_kind (xCons (xVar 4) xNil)) [4])))
  (sSeq (sSet 2 (xLst (xCons (xLst (xCons (xLst xNil) (xCons (xC .non) (xCons (xC .non) xNil)))) xNil)))
  (sSeq (sFor (iR1 (xCons (xCB dLen (xCons (xVar 0) xNil)) xNil)) (gN 3)
  (sIf (xB (xOp dIn (xOp dIx (xVar 1) (xVar 3)) (xTup (xCons (xC (.str [115, 112, 97, 99, 101])) (xCons (xC (.str [102, 101, 101, 100])) (xCons (xC (.str [109, 97, 114, 107])) xNil))))))
  (sExpr (xAppP (lIx (lIx (lV 2) (kC (-1))) (kC 0)) (pV 3)))
  (sSeq (sSto (xOp dIx (xVar 1) (xVar 3)) (lIx (lV 2) (kC (-1))) (kC 2))
  (sExpr (xApp 2 (xLst (xCons (xLst xNil) (xCons (xOp dIx (xVar 1) (xVar 3)) (xCons (xC .non) xNil)))))))))
  (sRet (xMv 2)))))
def d_law_gaps : Dn := dnOf W_law_gaps P_law_gaps.length N_law_gaps.length b_law_gaps
def b_law_join : Es :=
  (sRet (xOr (xOp dEq (xVar 0) (xC (.str [122, 101, 114, 111]))) (xOr (xOp dEq (xVar 1) (xC (.str [122, 101, 114, 111]))) (xAnd (xOp dEq (xVar 0) (xC (.str [119, 105, 100, 101]))) (xOp dEq (xVar 1) (xC (.str [119, 105, 100, 101])))))))
def d_law_join : Dn := dnOf W_law_join P_law_join.length N_law_join.length b_law_join
def b_law_kept : Es :=
  (sSeq (sSet 2 (xFz (xLc (iA (xOp dIx (xVar 1) (xC (.int 0)))) (gN 3) qYes (xCallV 1 d_law_kind (xCons (xOp dIx (xVar 0) (xVar 3)) xNil)) [3])))
  (sSeq (sIf (qOr (xB (xOp dEq (xOp dIx (xVar 1) (xC (.int 1))) (xC (.str [101, 110, 100])))) (xB (xOp dEq (xOp dIx (xVar 1) (xC (.int 2))) (xC (.str [101, 110, 100])))))
  (sRet (xUn dNeg (xC (.int 1))))
  sNil)
  (sSeq (sIf (xB (xOp dIn (xC (.str [102, 101, 101, 100])) (xVar 2)))
  (sSeq (sIf (qAnd (xB (xOp dIsNot (xOp dIx (xVar 1) (xC (.int 1))) (xC .non))) (qAnd (xB (xOp dIsNot (xOp dIx (xVar 1) (xC (.int 2))) (xC .non))) (qTru (xCallV 2 d_law_join (xCons (xOp dIx (xVar 1) (xC (.int 1))) (xCons (xOp dIx (xVar 1) (xC (.int 2))) xNil))))))
  (sRet (xUn dNeg (xC (.int 1))))
  sNil)
  (sRet (xOp dIx (xOp dIx (xVar 1) (xC (.int 0))) (xBM "list" dIndex (xVar 2) (xCons (xC (.str [102, 101, 101, 100])) xNil)))))
  sNil)
  (sSeq (sIf (xB (xOp dIn (xC (.str [115, 112, 97, 99, 101])) (xVar 2)))
  (sRet (xOp dIx (xOp dIx (xVar 1) (xC (.int 0))) (xBM "list" dIndex (xVar 2) (xCons (xC (.str [115, 112, 97, 99, 101])) xNil))))
  sNil)
  (sRet (xUn dNeg (xC (.int 1))))))))
def d_law_kept : Dn := dnOf W_law_kept P_law_kept.length N_law_kept.length b_law_kept
def b_law_needed : Es :=
  (sSeq (sSet 1 (xFz (xLc (iA (xFz (xCallV 1 d_law_gaps (xCons (xVar 0) xNil)))) (gN 2) qYes (xCallV 2 d_law_kept (xCons (xVar 0) (xCons (xVar 2) xNil))) [2])))
  (sRet (xFz (xLc (iR1 (xCons (xCB dLen (xCons (xVar 0) xNil)) xNil)) (gN 3) (qOr (xB (xOp dIn (xVar 3) (xVar 1))) (xB (xOp dNotIn (xCallV 1 d_law_kind (xCons (xOp dIx (xVar 0) (xVar 3)) xNil)) (xTup (xCons (xC (.str [115, 112, 97, 99, 101])) (xCons (xC (.str [102, 101, 101, 100])) xNil)))))) (xVar 3) [3]))))
def d_law_needed : Dn := dnOf W_law_needed P_law_needed.length N_law_needed.length b_law_needed
def b_law_sign : Es :=
  (sSeq (sSet 1 (xCallV 1 d_law_kind (xCons (xVar 0) xNil)))
  (sSeq (sIf (xB (xOp dEq (xVar 1) (xC (.str [101, 110, 100]))))
  (sRet (xC (.str [10])))
  sNil)
  (sSeq (sIf (xB (xOp dIn (xVar 1) (xTup (xCons (xC (.str [115, 112, 97, 99, 101])) (xCons (xC (.str [102, 101, 101, 100])) xNil)))))
  (sRet (xC (.str [32])))
  sNil)
  (sRet (xOp dIx (xVar 0) (xC (.int 1)))))))
def d_law_sign : Dn := dnOf W_law_sign P_law_sign.length N_law_sign.length b_law_sign
def b_law_shown : Es :=
  (sSeq (sSet 1 (xCallV 1 d_law_gaps (xCons (xVar 0) xNil)))
  (sSeq (sSto (xC (.str [101, 110, 100])) (lIx (lV 1) (kC 0)) (kC 1))
  (sSeq (sSto (xC (.str [101, 110, 100])) (lIx (lV 1) (kC (-1))) (kC 2))
  (sSeq (sSet 2 (xFz (xLc (iA (xFz (xVar 1))) (gN 4) qYes (xCallV 2 d_law_kept (xCons (xVar 0) (xCons (xVar 4) xNil))) [4])))
  (sSeq (sSet 3 (xFz (xLc (iR1 (xCons (xCB dLen (xCons (xVar 0) xNil)) xNil)) (gN 5) (qOr (xB (xOp dIn (xVar 5) (xVar 2))) (xB (xOp dNotIn (xCallV 1 d_law_kind (xCons (xOp dIx (xVar 0) (xVar 5)) xNil)) (xTup (xCons (xC (.str [115, 112, 97, 99, 101])) (xCons (xC (.str [102, 101, 101, 100])) xNil)))))) (xVar 5) [5])))
  (sRet (xFz (xLst (xCons (xBM "str" dJoin (xC (.str [])) (xCons (xFz (xLc (iA (xVar 3)) (gN 5) qYes (xCallV 1 d_law_sign (xCons (xOp dIx (xVar 0) (xVar 5)) xNil)) [5])) xNil)) (xCons (xVar 3) xNil))))))))))
def d_law_shown : Dn := dnOf W_law_shown P_law_shown.length N_law_shown.length b_law_shown
def b_law_form : Es :=
  (sSeq (sSet 1 (xFz (xLc (iA (xCallV 1 d_law_needed (xCons (xVar 0) xNil))) (gN 6) qYes (xOp dIx (xVar 0) (xVar 6)) [6])))
  (sSeq (sSet 2 (xFz (xLc (iR1 (xCons (xCB dLen (xCons (xVar 1) xNil)) xNil)) (gN 6) (xB (xOp dNotIn (xCallV 1 d_law_kind (xCons (xOp dIx (xVar 1) (xVar 6)) xNil)) (xTup (xCons (xC (.str [115, 112, 97, 99, 101])) (xCons (xC (.str [102, 101, 101, 100])) (xCons (xC (.str [109, 97, 114, 107])) xNil)))))) (xVar 6) [6])))
  (sSeq (sIf (xB (xOp dEq (xCB dLen (xCons (xVar 2) xNil)) (xC (.int 0))))
  (sRet (xTup (xCons (xBM "str" dJoin (xC (.str [])) (xCons (xFz (xLc (iA (xVar 1)) (gN 7) qYes (xOp dIx (xVar 7) (xC (.int 1))) [7])) xNil)) (xCons (xC (.str [])) (xCons (xC (.str [])) xNil)))))
  sNil)
  (sSeq (sSet 3 (xBM "str" dJoin (xC (.str [])) (xCons (xFz (xLc (iA (xSl dSl (xVar 1) xNo (xSome (xOp dIx (xVar 2) (xC (.int 0)))))) (gN 7) qYes (xOp dIx (xVar 7) (xC (.int 1))) [7])) xNil)))
  (sSeq (sSet 4 (xBM "str" dJoin (xC (.str [])) (xCons (xFz (xLc (iA (xSl dSl (xVar 1) (xSome (xOp dIx (xVar 2) (xC (.int 0)))) (xSome (xOp dAdd (xOp dIx (xVar 2) (xUn dNeg (xC (.int 1)))) (xC (.int 1)))))) (gN 7) qYes (xCallV 1 d_law_sign (xCons (xVar 7) xNil)) [7])) xNil)))
  (sSeq (sSet 5 (xBM "str" dJoin (xC (.str [])) (xCons (xFz (xLc (iA (xSl dSl (xVar 1) (xSome (xOp dAdd (xOp dIx (xVar 2) (xUn dNeg (xC (.int 1)))) (xC (.int 1)))) xNo)) (gN 7) qYes (xOp dIx (xVar 7) (xC (.int 1))) [7])) xNil)))
  (sSeq (sIf (qAnd (xB (xOp dEq (xCallV 1 d_law_kind (xCons (xOp dIx (xVar 1) (xOp dIx (xVar 2) (xC (.int 0)))) xNil)) (xC (.str [122, 101, 114, 111])))) (xB (xOp dIn (xC (.str [10])) (xVar 3))))
  (sSet 3 (xOp dAdd (xRepl (⟨([10] : List Nat).toArray⟩ : Str) (⟨([] : List Nat).toArray⟩ : Str) (xVar 3)) (xC (.str [10]))))
  sNil)
  (sSeq (sIf (qAnd (xB (xOp dEq (xCallV 1 d_law_kind (xCons (xOp dIx (xVar 1) (xOp dIx (xVar 2) (xUn dNeg (xC (.int 1))))) xNil)) (xC (.str [122, 101, 114, 111])))) (xB (xOp dIn (xC (.str [10])) (xVar 5))))
  (sSet 5 (xOp dAdd (xC (.str [10])) (xRepl (⟨([10] : List Nat).toArray⟩ : Str) (⟨([] : List Nat).toArray⟩ : Str) (xVar 5))))
  sNil)
  (sRet (xTup (xCons (xVar 3) (xCons (xVar 4) (xCons (xVar 5) xNil)))))))))))))
def d_law_form : Dn := dnOf W_law_form P_law_form.length N_law_form.length b_law_form
def b_law_contexts : Es :=
  (sRet (xFz (xLst (xCons (xTup (xCons (xC (.str [])) (xCons (xC (.str [])) xNil))) (xCons (xTup (xCons (xC (.str [97])) (xCons (xC (.str [])) xNil))) (xCons (xTup (xCons (xC (.str [94])) (xCons (xC (.str [])) xNil))) (xCons (xTup (xCons (xC (.str [97, 32])) (xCons (xC (.str [])) xNil))) (xCons (xTup (xCons (xC (.str [])) (xCons (xC (.str [97])) xNil))) (xCons (xTup (xCons (xC (.str [])) (xCons (xC (.str [94])) xNil))) (xCons (xTup (xCons (xC (.str [])) (xCons (xC (.str [32, 97])) xNil))) (xCons (xTup (xCons (xC (.str [97])) (xCons (xC (.str [97])) xNil))) (xCons (xTup (xCons (xC (.str [94])) (xCons (xC (.str [97])) xNil))) xNil))))))))))))
def d_law_contexts : Dn := dnOf W_law_contexts P_law_contexts.length N_law_contexts.length b_law_contexts
def b_law_within : Es :=
  (sRet (xOp dIx (xCallV 1 d_law_shown (xCons (xOp dAdd (xOp dAdd (xFz (xLc (iA (xOp dIx (xVar 1) (xC (.int 0)))) (gN 2) qYes (xTup (xCons (xC (.str [99, 111, 108, 108, 97, 112, 115, 101])) (xCons (xVar 2) xNil))) [2])) (xVar 0)) (xFz (xLc (iA (xOp dIx (xVar 1) (xC (.int 1)))) (gN 2) qYes (xTup (xCons (xC (.str [99, 111, 108, 108, 97, 112, 115, 101])) (xCons (xVar 2) xNil))) [2]))) xNil)) (xC (.int 0))))
def d_law_within : Dn := dnOf W_law_within P_law_within.length N_law_within.length b_law_within
def b_law_near : Es :=
  (sSeq (sSet 2 (xCB dList (xCons (xVar 1) xNil)))
  (sSeq (sFor (iR1 (xCons (xCallL 2 d_law_draw 0 (xCons (xC (.int 3)) xNil)) xNil)) (gN 3)
  (sSeq (sSet 4 (xOp dMod (xCB dInt (xCons (xCallL 2 d_law_draw 0 (xCons (xC (.int 200)) xNil)) xNil)) (xOp dAdd (xCB dLen (xCons (xVar 2) xNil)) (xC (.int 1)))))
  (sSeq (sSet 5 (xTup (xCons (xOp dIx (xFz (xLst (xCons (xC (.str [99, 111, 108, 108, 97, 112, 115, 101])) (xCons (xC (.str [99, 111, 108, 108, 97, 112, 115, 101])) (xCons (xC (.str [98, 114, 101, 97, 107, 115])) (xCons (xC (.str [112, 114, 101, 115, 101, 114, 118, 101])) xNil)))))) (xCallL 2 d_law_draw 0 (xCons (xC (.int 4)) xNil))) (xCons (xOp dIx (xC (.str [32, 32, 10, 10, 124, 124, 94, 60, 65, 97])) (xCallL 2 d_law_draw 0 (xCons (xC (.int 10)) xNil))) xNil))))
  (sSet 2 (xOp dAdd (xOp dAdd (xSl dSl (xVar 2) xNo (xSome (xVar 4))) (xOp dMul (xFz (xLst (xCons (xVar 5) xNil))) (xCallL 2 d_law_draw 0 (xCons (xC (.int 2)) xNil)))) (xSl dSl (xVar 2) (xSome (xOp dAdd (xVar 4) (xCallL 2 d_law_draw 0 (xCons (xC (.int 2)) xNil)))) xNo))))))
  (sRet (xVar 2))))
def d_law_near : Dn := dnOf W_law_near P_law_near.length N_law_near.length b_law_near
def b_law_stands : Es :=
  (sRet (xOp dAdd (xOp dAdd (xFz (xLc (iA (xOp dIx (xVar 0) (xC (.int 0)))) (gN 1) qYes (xTup (xCons (xC (.str [99, 111, 108, 108, 97, 112, 115, 101])) (xCons (xVar 1) xNil))) [1])) (xFz (xLc (iA (xOp dIx (xVar 0) (xC (.int 1)))) (gN 1) qYes (xTup (xCons (xC (.str [112, 114, 101, 115, 101, 114, 118, 101])) (xCons (xVar 1) xNil))) [1]))) (xFz (xLc (iA (xOp dIx (xVar 0) (xC (.int 2)))) (gN 1) qYes (xTup (xCons (xC (.str [99, 111, 108, 108, 97, 112, 115, 101])) (xCons (xVar 1) xNil))) [1]))))
def d_law_stands : Dn := dnOf W_law_stands P_law_stands.length N_law_stands.length b_law_stands
def b_shown : Es :=
  (sSeq (sSet 1 (xCallV 1 d_units (xCons (xVar 0) xNil)))
  (sSeq (sSet 2 (xCallV 2 d_counting (xCons (xVar 1) (xCons (xC (.str [101, 110, 100])) xNil))))
  (sSeq (sSet 3 (xFz (xLc (iA (xVar 2)) (gN 4) qYes (xOp dIx (xVar 1) (xVar 4)) [4])))
  (sRet (xTup (xCons (xBM "str" dJoin (xC (.str [])) (xCons (xFz (xLc (iA (xVar 3)) (gA 2 (gsCons (gN 5) (gsCons (gN 6) gsNil))) qYes (xCallV 2 d_shown_sign (xCons (xVar 5) (xCons (xVar 6) xNil))) [5, 6])) xNil)) (xCons (xVar 2) xNil)))))))
def d_shown : Dn := dnOf W_shown P_shown.length N_shown.length b_shown
def b_are_alike : Es :=
  (sRet (xOp dEq (xCallV 1 d_normal_form (xCons (xVar 0) xNil)) (xCallV 1 d_normal_form (xCons (xVar 1) xNil))))
def d_are_alike : Dn := dnOf W_are_alike P_are_alike.length N_are_alike.length b_are_alike
def b_is_telling : Es :=
  (sSeq (sAsg (xVar 2) (gA 2 (gsCons (gN 3) (gsCons (gN 4) gsNil))))
  (sSeq (sSet 5 (xFz (xLst (xCons (xTup (xCons (xC (.str [99, 111, 108, 108, 97, 112, 115, 101])) (xCons (xVar 3) xNil))) xNil))))
  (sSeq (sSet 6 (xFz (xLst (xCons (xTup (xCons (xC (.str [99, 111, 108, 108, 97, 112, 115, 101])) (xCons (xVar 4) xNil))) xNil))))
  (sRet (xOp dNe (xOp dIx (xCallV 1 d_shown (xCons (xOp dAdd (xOp dAdd (xVar 5) (xVar 0)) (xVar 6)) xNil)) (xC (.int 0))) (xOp dIx (xCallV 1 d_shown (xCons (xOp dAdd (xOp dAdd (xVar 5) (xVar 1)) (xVar 6)) xNil)) (xC (.int 0))))))))
def d_is_telling : Dn := dnOf W_is_telling P_is_telling.length N_is_telling.length b_is_telling
def b_telling : Es :=
  (sSeq (sFor (iA (xC (.tup [(.tup [(.str []), (.str [])]), (.tup [(.str [97]), (.str [])]), (.tup [(.str [94]), (.str [])]), (.tup [(.str [97, 32]), (.str [])]), (.tup [(.str []), (.str [97])]), (.tup [(.str []), (.str [94])]), (.tup [(.str []), (.str [32, 97])]), (.tup [(.str [97]), (.str [97])]), (.tup [(.str [94]), (.str [97])])]))) (gN 2)
  (sIf (qTru (xCallV 3 d_is_telling (xCons (xVar 0) (xCons (xVar 1) (xCons (xVar 2) xNil)))))
  (sRet (xVar 2))
  sNil))
  (sRet (xC .non)))
def d_telling : Dn := dnOf W_telling P_telling.length N_telling.length b_telling
def b_law_text : Es :=
  (sRet (xBM "str" dJoin (xC (.str [])) (xCons (xFz (xLc (iR1 (xCons (xCallL 2 d_law_draw 0 (xCons (xC (.int 5)) xNil)) xNil)) (gN 1) qYes (xOp dIx (xC (.str [32, 10, 124, 94, 60, 62, 65, 97, 98])) (xCallL 2 d_law_draw 0 (xCons (xC (.int 9)) xNil))) [1])) xNil)))
def d_law_text : Dn := dnOf W_law_text P_law_text.length N_law_text.length b_law_text
def b_together : Es :=
  (sRet (xCallV 1 d_normal_form (xCons (xOp dAdd (xCallV 1 d_stands_for (xCons (xVar 0) xNil)) (xCallV 1 d_stands_for (xCons (xVar 1) xNil))) xNil)))
def d_together : Dn := dnOf W_together P_together.length N_together.length b_together
def b_law_all : Es :=
  (sSeq (sSet 1 (xFz (xLst (xCons (xTup (xCons (xC (.str [99, 111, 108, 108, 97, 112, 115, 101])) (xCons (xC (.str [32])) xNil))) (xCons (xTup (xCons (xC (.str [99, 111, 108, 108, 97, 112, 115, 101])) (xCons (xC (.str [10])) xNil))) (xCons (xTup (xCons (xC (.str [99, 111, 108, 108, 97, 112, 115, 101])) (xCons (xC (.str [124])) xNil))) (xCons (xTup (xCons (xC (.str [99, 111, 108, 108, 97, 112, 115, 101])) (xCons (xC (.str [94])) xNil))) (xCons (xTup (xCons (xC (.str [99, 111, 108, 108, 97, 112, 115, 101])) (xCons (xC (.str [60])) xNil))) (xCons (xTup (xCons (xC (.str [99, 111, 108, 108, 97, 112, 115, 101])) (xCons (xC (.str [65])) xNil))) (xCons (xTup (xCons (xC (.str [99, 111, 108, 108, 97, 112, 115, 101])) (xCons (xC (.str [97])) xNil))) xNil))))))))))
  (sSeq (sSet 1 (xOp dAdd (xVar 1) (xFz (xLst (xCons (xTup (xCons (xC (.str [112, 114, 101, 115, 101, 114, 118, 101])) (xCons (xC (.str [32])) xNil))) (xCons (xTup (xCons (xC (.str [99, 111, 108, 108, 97, 112, 115, 101])) (xCons (xC (.str [62])) xNil))) xNil))))))
  (sSeq (sSet 2 (xFz (xLst (xCons (xFz (xLst xNil)) xNil))))
  (sSeq (sSet 3 (xFz (xLst (xCons (xFz (xLst xNil)) xNil))))
  (sSeq (sFor (iR1 (xCons (xVar 0) xNil)) (gN 4)
  (sSeq (sSet 5 (xLst xNil))
  (sSeq (sFor (iA (xVar 2)) (gN 6)
  (sExpr (xExt 5 (xFz (xLc (iA (xVar 1)) (gN 7) qYes (xOp dAdd (xVar 6) (xFz (xLst (xCons (xVar 7) xNil)))) [7])))))
  (sSeq (sSet 2 (xFz (xVar 5)))
  (sSet 3 (xOp dAdd (xVar 3) (xVar 2)))))))
  (sRet (xVar 3)))))))
def d_law_all : Dn := dnOf W_law_all P_law_all.length N_law_all.length b_law_all
def b_free_places : Es :=
  (sSeq (sSet 1 (xLst xNil))
  (sSeq (sFor (iA (xCallV 2 d_gaps (xCons (xCallV 1 d_units (xCons (xVar 0) xNil)) (xCons (xC .non) xNil)))) (gA 4 (gsCons (gN 2) (gsCons (gN 3) (gsCons (gN 4) (gsCons (gN 5) gsNil)))))
  (sSeq (sSet 6 (xCallV 3 d_gap_form (xCons (xVar 3) (xCons (xVar 4) (xCons (xVar 5) xNil)))))
  (sFor (iR1 (xCons (xOp dAdd (xCB dLen (xCons (xVar 3) xNil)) (xC (.int 1))) xNil)) (gN 7)
  (sIf (xB (xOp dEq (xCallV 3 d_gap_form (xCons (xOp dAdd (xOp dAdd (xSl dSl (xVar 3) xNo (xSome (xVar 7))) (xC (.str [10]))) (xSl dSl (xVar 3) (xSome (xVar 7)) xNo)) (xCons (xVar 4) (xCons (xVar 5) xNil)))) (xVar 6)))
  (sExpr (xApp 1 (xOp dAdd (xVar 2) (xVar 7))))
  sNil))))
  (sRet (xFz (xVar 1)))))
def d_free_places : Dn := dnOf W_free_places P_free_places.length N_free_places.length b_free_places
def b_law_part : Es :=
  (sRet (xCallV 1 d_law_tidy (xCons (xCallV 1 d_law_units (xCons (xCallL 2 d_law_fragment 0 (xCons (xC (.int 7)) xNil)) xNil)) xNil)))
def d_law_part : Dn := dnOf W_law_part P_law_part.length N_law_part.length b_law_part
def b_law_loose : Es :=
  (sSeq (sSet 2 (xLst xNil))
  (sSeq (sFor (iA (xCallV 1 d_law_units (xCons (xVar 1) xNil))) (gN 3)
  (sSeq (sSet 4 (xOp dAdd (xC (.int 1)) (xCB dInt (xCons (xAnd (xOp dIn (xCallV 1 d_law_kind (xCons (xVar 3) xNil)) (xTup (xCons (xC (.str [115, 112, 97, 99, 101])) (xCons (xC (.str [102, 101, 101, 100])) xNil)))) (xOp dEq (xCallL 2 d_law_draw 0 (xCons (xC (.int 2)) xNil)) (xC (.int 0)))) xNil))))
  (sExpr (xExt 2 (xOp dMul (xFz (xLst (xCons (xVar 3) xNil))) (xVar 4))))))
  (sRet (xCallV 1 d_law_tidy (xCons (xFz (xVar 2)) xNil)))))
def d_law_loose : Dn := dnOf W_law_loose P_law_loose.length N_law_loose.length b_law_loose
def b_law_short_part : Es :=
  (sSeq (sSet 1 (xBM "str" dJoin (xC (.str [])) (xCons (xFz (xLc (iR1 (xCons (xCallL 2 d_law_draw 0 (xCons (xC (.int 4)) xNil)) xNil)) (gN 2) qYes (xOp dIx (xC (.str [32, 32, 10, 10, 124, 94, 60, 65, 97])) (xCallL 2 d_law_draw 0 (xCons (xC (.int 9)) xNil))) [2])) xNil)))
  (sRet (xFz (xLst (xCons (xTup (xCons (xOp dIx (xFz (xLst (xCons (xC (.str [99, 111, 108, 108, 97, 112, 115, 101])) (xCons (xC (.str [99, 111, 108, 108, 97, 112, 115, 101])) (xCons (xC (.str [99, 111, 108, 108, 97, 112, 115, 101])) (xCons (xC (.str [98, 114, 101, 97, 107, 115])) (xCons (xC (.str [112, 114, 101, 115, 101, 114, 118, 101])) xNil))))))) (xCallL 2 d_law_draw 0 (xCons (xC (.int 5)) xNil))) (xCons (xVar 1) xNil))) xNil)))))
def d_law_short_part : Dn := dnOf W_law_short_part P_law_short_part.length N_law_short_part.length b_law_short_part
def b_law_pair : Es :=
  (sSeq (sSet 1 (xCallL 1 d_law_part 0 xNil))
  (sSeq (sSet 2 (xCallL 2 d_law_draw 0 (xCons (xC (.int 5)) xNil)))
  (sSeq (sIf (xB (xOp dEq (xVar 2) (xC (.int 0))))
  (sRet (xFz (xLst (xCons (xVar 1) (xCons (xCallV 1 d_shortened (xCons (xVar 1) xNil)) xNil)))))
  sNil)
  (sSeq (sIf (xB (xOp dEq (xVar 2) (xC (.int 1))))
  (sRet (xFz (xLst (xCons (xVar 1) (xCons (xCallV 1 d_stands_for (xCons (xCallV 1 d_normal_form (xCons (xVar 1) xNil)) xNil)) xNil)))))
  sNil)
  (sSeq (sIf (xB (xOp dEq (xVar 2) (xC (.int 2))))
  (sRet (xFz (xLst (xCons (xVar 1) (xCons (xCallL 1 d_law_part 0 xNil) xNil)))))
  sNil)
  (sRet (xFz (xLst (xCons (xVar 1) (xCons (xCallV 1 d_law_tidy (xCons (xCallL 2 d_law_near 0 (xCons (xCallV 1 d_law_units (xCons (xVar 1) xNil)) xNil)) xNil)) xNil))))))))))
def d_law_pair : Dn := dnOf W_law_pair P_law_pair.length N_law_pair.length b_law_pair
def b_common : Es :=
  (sSeq (sSet 2 (xCB dMin2 (xCons (xCB dLen (xCons (xVar 0) xNil)) (xCons (xCB dLen (xCons (xVar 1) xNil)) xNil))))
  (sSeq (sFor (iR1 (xCons (xVar 2) xNil)) (gN 3)
  (sIf (xB (xOp dNe (xOp dIx (xVar 0) (xVar 3)) (xOp dIx (xVar 1) (xVar 3))))
  (sRet (xVar 3))
  sNil))
  (sRet (xVar 2))))
def d_common : Dn := dnOf W_common P_common.length N_common.length b_common
def b_change : Es :=
  (sSeq (sIf (xB (xOp dEq (xVar 0) (xVar 1)))
  (sRet (xC .non))
  sNil)
  (sSeq (sSet 2 (xCallV 2 d_common (xCons (xVar 0) (xCons (xVar 1) xNil))))
  (sSeq (sSet 3 (xSl dSl (xVar 0) (xSome (xVar 2)) xNo))
  (sSeq (sSet 4 (xSl dSl (xVar 1) (xSome (xVar 2)) xNo))
  (sSeq (sSet 5 (xCallV 2 d_common (xCons (xUn dRev (xVar 3)) (xCons (xUn dRev (xVar 4)) xNil))))
  (sRet (xTup (xCons (xVar 2) (xCons (xOp dSub (xCB dLen (xCons (xVar 3) xNil)) (xVar 5)) (xCons (xSl dSl (xVar 4) xNo (xSome (xOp dSub (xCB dLen (xCons (xVar 4) xNil)) (xVar 5)))) xNil))))))))))
def d_change : Dn := dnOf W_change P_change.length N_change.length b_change
def b_changed : Es :=
  (sSeq (sIf (xB (xOp dIs (xVar 1) (xC .non)))
  (sRet (xVar 0))
  sNil)
  (sSeq (sAsg (xVar 1) (gA 3 (gsCons (gN 2) (gsCons (gN 3) (gsCons (gN 4) gsNil)))))
  (sRet (xOp dAdd (xOp dAdd (xSl dSl (xVar 0) xNo (xSome (xVar 2))) (xVar 4)) (xSl dSl (xVar 0) (xSome (xOp dAdd (xVar 2) (xVar 3))) xNo)))))
def d_changed : Dn := dnOf W_changed P_changed.length N_changed.length b_changed
def b_law_due : Es :=
  (sSeq (sIf (xB (xOp dEq (xVar 0) (xVar 1)))
  (sRet (xC .non))
  sNil)
  (sSeq (sSet 2 (xC (.int 0)))
  (sSeq (sFor (iR1 (xCons (xCB dMin2 (xCons (xCB dLen (xCons (xVar 0) xNil)) (xCons (xCB dLen (xCons (xVar 1) xNil)) xNil))) xNil)) (gN 3)
  (sIf (qAnd (xB (xOp dEq (xVar 2) (xVar 3))) (xB (xOp dEq (xOp dIx (xVar 0) (xVar 3)) (xOp dIx (xVar 1) (xVar 3)))))
  (sSet 2 (xOp dAdd (xVar 2) (xC (.int 1))))
  sNil))
  (sSeq (sSet 4 (xC (.int 0)))
  (sSeq (sFor (iR1 (xCons (xOp dSub (xCB dMin2 (xCons (xCB dLen (xCons (xVar 0) xNil)) (xCons (xCB dLen (xCons (xVar 1) xNil)) xNil))) (xVar 2)) xNil)) (gN 3)
  (sIf (qAnd (xB (xOp dEq (xVar 4) (xVar 3))) (xB (xOp dEq (xOp dIx (xVar 0) (xOp dSub (xOp dSub (xCB dLen (xCons (xVar 0) xNil)) (xC (.int 1))) (xVar 3))) (xOp dIx (xVar 1) (xOp dSub (xOp dSub (xCB dLen (xCons (xVar 1) xNil)) (xC (.int 1))) (xVar 3))))))
  (sSet 4 (xOp dAdd (xVar 4) (xC (.int 1))))
  sNil))
  (sRet (xTup (xCons (xVar 2) (xCons (xOp dSub (xOp dSub (xCB dLen (xCons (xVar 0) xNil)) (xVar 2)) (xVar 4)) (xCons (xSl dSl (xVar 1) (xSome (xVar 2)) (xSome (xOp dSub (xCB dLen (xCons (xVar 1) xNil)) (xVar 4)))) xNil))))))))))
def d_law_due : Dn := dnOf W_law_due P_law_due.length N_law_due.length b_law_due
def b_hides_feeds : Es :=
  (sRet (xOr (xOp dEq (xVar 0) (xC (.str [101, 110, 100]))) (xOr (xOp dEq (xVar 1) (xC (.str [101, 110, 100]))) (xCallV 2 d_are_joining (xCons (xVar 0) (xCons (xVar 1) xNil))))))
def d_hides_feeds : Dn := dnOf W_hides_feeds P_hides_feeds.length N_hides_feeds.length b_hides_feeds
def b_soft_places : Es :=
  (sSeq (sIf (qOr (xB (xOp dNe (xOp dIx (xOp dIx (xVar 0) (xVar 1)) (xC (.int 0))) (xC (.str [99, 111, 108, 108, 97, 112, 115, 101])))) (qOr (xB (xOp dIs (xVar 2) (xC .non))) (qOr (xB (xOp dIs (xVar 3) (xC .non))) (qTru (xCallV 2 d_hides_feeds (xCons (xVar 2) (xCons (xVar 3) xNil)))))))
  (sRet (xFz (xLst xNil)))
  sNil)
  (sRet (xFz (xLst (xCons (xTup (xCons (xC (.str [115, 111, 102, 116])) (xCons (xVar 1) xNil))) xNil)))))
def d_soft_places : Dn := dnOf W_soft_places P_soft_places.length N_soft_places.length b_soft_places
def b_law_column : Es :=
  (sRet (xOp dMul (xOp dAdd (xVar 1) (xC (.int 1))) (xCB dInt (xCons (xOp dNe (xOp dIx (xVar 0) (xC (.int 1))) (xC (.str [10]))) xNil))))
def d_law_column : Dn := dnOf W_law_column P_law_column.length N_law_column.length b_law_column
def b_undecided : Es :=
  (sSeq (sAsg (xOp dIx (xCallV 2 d_gaps (xCons (xCallV 1 d_units (xCons (xVar 0) xNil)) (xCons (xC (.str [101, 110, 100])) xNil))) (xUn dNeg (xC (.int 1)))) (gA 4 (gsCons (gN 1) (gsCons (gN 2) (gsCons (gN 3) (gsCons (gN 4) gsNil))))))
  (sSeq (sSet 5 (xCallV 3 d_white (xCons (xVar 2) (xCons (xVar 3) (xCons (xC .non) xNil)))))
  (sSeq (sIf (qOr (xB (xOp dLt (xVar 5) (xC (.int 0)))) (qAnd (xB (xOp dEq (xVar 3) (xC (.str [122, 101, 114, 111])))) (xB (xOp dEq (xOp dIx (xVar 2) (xVar 5)) (xC (.str [10]))))))
  (sRet (xC .non))
  sNil)
  (sRet (xOp dAdd (xVar 1) (xVar 5))))))
def d_undecided : Dn := dnOf W_undecided P_undecided.length N_undecided.length b_undecided
def b_certain : Es :=
  (sSeq (sSet 1 (xCallV 1 d_undecided (xCons (xVar 0) xNil)))
  (sSeq (sIf (xB (xOp dIs (xVar 1) (xC .non)))
  (sRet (xOp dIx (xCallV 1 d_shown (xCons (xVar 0) xNil)) (xC (.int 0))))
  sNil)
  (sRet (xOp dIx (xCallV 1 d_shown (xCons (xCallV 1 d_tidy (xCons (xSl dSl (xCallV 1 d_units (xCons (xVar 0) xNil)) xNo (xSome (xVar 1))) xNil)) xNil)) (xC (.int 0))))))
def d_certain : Dn := dnOf W_certain P_certain.length N_certain.length b_certain
def b_law_undecided : Es :=
  (sSeq (sSet 1 (xOp dIx (xFz (xCallV 1 d_law_gaps (xCons (xVar 0) xNil))) (xUn dNeg (xC (.int 1)))))
  (sSeq (sSet 2 (xOp dIx (xVar 1) (xC (.int 1))))
  (sSeq (sIf (xB (xOp dEq (xCB dLen (xCons (xFz (xCallV 1 d_law_gaps (xCons (xVar 0) xNil))) xNil)) (xC (.int 1))))
  (sSet 2 (xC (.str [101, 110, 100])))
  sNil)
  (sSeq (sSet 3 (xFz (xLc (iA (xOp dIx (xVar 1) (xC (.int 0)))) (gN 4) qYes (xCallV 1 d_law_kind (xCons (xOp dIx (xVar 0) (xVar 4)) xNil)) [4])))
  (sSeq (sIf (xB (xOp dEq (xVar 2) (xC (.str [101, 110, 100]))))
  (sRet (xC .non))
  sNil)
  (sSeq (sIf (xB (xOp dIn (xC (.str [102, 101, 101, 100])) (xVar 3)))
  (sSeq (sIf (xB (xOp dEq (xVar 2) (xC (.str [122, 101, 114, 111]))))
  (sRet (xC .non))
  sNil)
  (sRet (xOp dIx (xOp dIx (xVar 1) (xC (.int 0))) (xBM "list" dIndex (xVar 3) (xCons (xC (.str [102, 101, 101, 100])) xNil)))))
  sNil)
  (sSeq (sIf (xB (xOp dIn (xC (.str [115, 112, 97, 99, 101])) (xVar 3)))
  (sRet (xOp dIx (xOp dIx (xVar 1) (xC (.int 0))) (xBM "list" dIndex (xVar 3) (xCons (xC (.str [115, 112, 97, 99, 101])) xNil))))
  sNil)
  (sRet (xC .non)))))))))
def d_law_undecided : Dn := dnOf W_law_undecided P_law_undecided.length N_law_undecided.length b_law_undecided
def b_law_certain : Es :=
  (sSeq (sSet 1 (xCallV 1 d_law_undecided (xCons (xVar 0) xNil)))
  (sSeq (sIf (xB (xOp dIs (xVar 1) (xC .non)))
  (sRet (xOp dIx (xCallV 1 d_law_shown (xCons (xVar 0) xNil)) (xC (.int 0))))
  sNil)
  (sRet (xOp dIx (xCallV 1 d_law_shown (xCons (xSl dSl (xVar 0) xNo (xSome (xVar 1))) xNil)) (xC (.int 0))))))
def d_law_certain : Dn := dnOf W_law_certain P_law_certain.length N_law_certain.length b_law_certain
def b_law_parts : Es :=
  (sSeq (sSet 1 (xCallV 1 d_law_certain (xCons (xVar 0) xNil)))
  (sSeq (sSet 2 (xFz (xLst (xCons (xFz (xLst xNil)) (xCons (xFz (xLst (xCons (xTup (xCons (xC (.str [112, 114, 101, 115, 101, 114, 118, 101])) (xCons (xC (.str [120])) xNil))) xNil))) (xCons (xFz (xLst (xCons (xTup (xCons (xC (.str [112, 114, 101, 115, 101, 114, 118, 101])) (xCons (xC (.str [121])) xNil))) xNil))) (xCons (xFz (xLst (xCons (xTup (xCons (xC (.str [99, 111, 108, 108, 97, 112, 115, 101])) (xCons (xC (.str [124])) xNil))) xNil))) (xCons (xFz (xLst (xCons (xTup (xCons (xC (.str [99, 111, 108, 108, 97, 112, 115, 101])) (xCons (xC (.str [60])) xNil))) xNil))) (xCons (xFz (xLst (xCons (xTup (xCons (xC (.str [99, 111, 108, 108, 97, 112, 115, 101])) (xCons (xC (.str [62])) xNil))) xNil))) xNil)))))))))
  (sSeq (sSet 2 (xOp dAdd (xVar 2) (xFz (xLst (xCons (xFz (xLst (xCons (xTup (xCons (xC (.str [99, 111, 108, 108, 97, 112, 115, 101])) (xCons (xC (.str [10])) xNil))) (xCons (xTup (xCons (xC (.str [99, 111, 108, 108, 97, 112, 115, 101])) (xCons (xC (.str [65])) xNil))) xNil)))) (xCons (xFz (xLst (xCons (xTup (xCons (xC (.str [99, 111, 108, 108, 97, 112, 115, 101])) (xCons (xC (.str [94])) xNil))) xNil))) xNil))))))
  (sSeq (sSet 3 (xFz (xLc (iA (xVar 2)) (gN 5) qYes (xOp dIx (xCallV 1 d_law_shown (xCons (xOp dAdd (xVar 0) (xVar 5)) xNil)) (xC (.int 0))) [5])))
  (sSeq (sIf (xB (xOp dGt (xCB dLen (xCons (xFz (xLc (iA (xVar 3)) (gN 6) (xB (xOp dNe (xSl dSl (xVar 6) xNo (xSome (xCB dLen (xCons (xVar 1) xNil)))) (xVar 1))) (xVar 6) [6])) xNil)) (xC (.int 0))))
  (sRet (xC (.bl false)))
  sNil)
  (sSeq (sSet 4 (xFz (xLc (iA (xVar 3)) (gN 6) qYes (xSl dSl (xVar 6) (xSome (xCB dLen (xCons (xVar 1) xNil))) (xSome (xOp dAdd (xCB dLen (xCons (xVar 1) xNil)) (xC (.int 1))))) [6])))
  (sRet (xOp dGt (xCB dLen (xCons (xFz (xLc (iA (xVar 4)) (gN 7) (xB (xOp dNe (xVar 7) (xOp dIx (xVar 4) (xC (.int 0))))) (xVar 7) [7])) xNil)) (xC (.int 0))))))))))
def d_law_parts : Dn := dnOf W_law_parts P_law_parts.length N_law_parts.length b_law_parts
end Den

namespace Den
open PySem PySem.Spec L2
@[simp] theorem gt_eq (ρ : Env) (i : Nat) : gt ρ i = (ρ[i]?).bind id := rfl
@[simp] theorem dr_v (ρ : Env) (d : D) : dr ρ (.v d) = some d := rfl
@[simp] theorem dr_own (ρ : Env) (d : D) : dr ρ (.own d) = some d := rfl
@[simp] theorem dr_at (ρ : Env) (i : Nat) : dr ρ (.at i) = gt ρ i := rfl
@[simp] theorem rval_v (d : D) : rVal (.v d) = some d := rfl
@[simp] theorem rown_v (d : D) : rOwn (.v d) = some d := rfl
@[simp] theorem rown_own (d : D) : rOwn (.own d) = some d := rfl
@[simp] theorem rstr_v (s : List Nat) : rStr (.v (.str s)) = some s := rfl
@[simp] theorem finR_v (d : D) : finR (.v d) = some (.v d) := rfl
@[simp] theorem finR_own (d : D) : finR (.own d) = some (.own d) := rfl
@[simp] theorem flat_non : D.flat .non = true := rfl
@[simp] theorem flat_bl (b : Bool) : D.flat (.bl b) = true := rfl
@[simp] theorem flat_int (b : Int) : D.flat (.int b) = true := rfl
@[simp] theorem flat_str (b : List Nat) : D.flat (.str b) = true := rfl
@[simp] theorem flat_ty (b : String) : D.flat (.ty b) = true := rfl
@[simp] theorem flat_lst (b : List D) : D.flat (.lst b) = true := rfl
@[simp] theorem flat_tup (b : List D) : D.flat (.tup b) = true := rfl
@[simp] theorem flat_rd (b : List D) : D.flat (.rd b) = true := rfl
@[simp] theorem flat_own (b : List D) : D.flat (.own b) = false := rfl
@[simp] theorem valsR_nil : valsR [] = some [] := rfl
@[simp] theorem valsR_cons (d : D) (rs : List R) : valsR (.v d :: rs) = (valsR rs).map fun ds => d :: ds := rfl
@[simp] theorem owns_nil : owns [] = some [] := rfl
@[simp] theorem owns_v (d : D) (rs : List R) : owns (.v d :: rs) = (owns rs).map fun ds => d :: ds := rfl
@[simp] theorem owns_own (d : D) (rs : List R) : owns (.own d :: rs) = (owns rs).map fun ds => d :: ds := rfl
@[simp] theorem dAll_nil (ρ : Env) : dAll ρ [] = some [] := rfl
@[simp] theorem dAll_cons (ρ : Env) (r : R) (rs : List R) : dAll ρ (r :: rs) = (dr ρ r).bind fun d => (dAll ρ rs).map fun ds => d :: ds := rfl
@[simp] theorem xVar_eq (i : Nat) (ρ : Env) : xVar i ρ = (gt ρ i).bind fun d => if d.flat then some (.v d, ρ) else some (.at i, ρ) := rfl
@[simp] theorem xMv_eq (i : Nat) (ρ : Env) : xMv i ρ = (gt ρ i).bind fun d => if d.flat then none else some (.own d, ρ.set i none) := rfl
@[simp] theorem xC_eq (d : D) (ρ : Env) : xC d ρ = some (.v d, ρ) := rfl
@[simp] theorem xOp_eq (o : D → D → Option D) (f g : Ex) (ρ : Env) : xOp o f g ρ = (f ρ).bind fun p => (g p.2).bind fun q => (dr q.2 p.1).bind fun x => (dr q.2 q.1).bind fun y => (o x y).map fun z => (.v z, q.2) := rfl
@[simp] theorem xUn_eq (o : D → Option D) (f : Ex) (ρ : Env) : xUn o f ρ = (f ρ).bind fun p => (dr p.2 p.1).bind fun x => (o x).map fun z => (.v z, p.2) := rfl
@[simp] theorem xNil_eq (ρ : Env) : xNil ρ = some ([], ρ) := rfl
@[simp] theorem xCons_eq (f : Ex) (g : Ea) (ρ : Env) : xCons f g ρ = (f ρ).bind fun p => (g p.2).map fun q => (p.1 :: q.1, q.2) := rfl
@[simp] theorem xLst_eq (g : Ea) (ρ : Env) : xLst g ρ = (g ρ).bind fun p => (owns p.1).bind fun ds => if ds.length ≤ cap then some (.own (.own ds), p.2) else none := rfl
@[simp] theorem xTup_eq (g : Ea) (ρ : Env) : xTup g ρ = (g ρ).bind fun p => (valsR p.1).bind fun ds => if ds.length ≤ cap then some (.v (.tup ds), p.2) else none := rfl
@[simp] theorem xIf_eq (t : Et) (f g : Ex) (ρ : Env) : xIf t f g ρ = (t ρ).bind fun p => if p.1 then f p.2 else g p.2 := rfl
@[simp] theorem qAnd_eq (f g : Et) (ρ : Env) : qAnd f g ρ = (f ρ).bind fun p => if p.1 then g p.2 else some (false, p.2) := rfl
@[simp] theorem qOr_eq (f g : Et) (ρ : Env) : qOr f g ρ = (f ρ).bind fun p => if p.1 then some (true, p.2) else g p.2 := rfl
@[simp] theorem qNot_eq (f : Et) (ρ : Env) : qNot f ρ = (f ρ).map fun p => (!p.1, p.2) := rfl
@[simp] theorem qYes_eq (ρ : Env) : qYes ρ = some (true, ρ) := rfl
@[simp] theorem qTru_eq (f : Ex) (ρ : Env) : qTru f ρ = (f ρ).bind fun p => (dr p.2 p.1).bind fun d => (dTruth d).map fun b => (b, p.2) := rfl
/-- a result that is a truth value -/
def rBl : R × Env → Option (Bool × Env)
  | (.v (.bl b), ρ) => some (b, ρ)
  | _ => none
@[simp] theorem rBl_v (b : Bool) (ρ : Env) : rBl (.v (.bl b), ρ) = some (b, ρ) := rfl
@[simp] theorem xB_eq (f : Ex) (ρ : Env) : xB f ρ = (f ρ).bind rBl := by
  unfold xB
  congr 1
  funext p
  obtain ⟨r, ρ⟩ := p
  cases r with
  | v d => cases d <;> rfl
  | _ => rfl
def andK (g : Ex) : R × Env → Option (R × Env)
  | (.v (.bl true), ρ) => g ρ
  | (.v (.bl false), ρ) => some (.v (.bl false), ρ)
  | _ => none
@[simp] theorem andK_v (g : Ex) (b : Bool) (ρ : Env) : andK g (.v (.bl b), ρ) = if b then g ρ else some (.v (.bl false), ρ) := by cases b <;> rfl
@[simp] theorem xAnd_eq (f g : Ex) (ρ : Env) : xAnd f g ρ = (f ρ).bind (andK g) := by
  unfold xAnd
  congr 1
  funext p
  obtain ⟨r, ρ⟩ := p
  cases r with
  | v d => cases d <;> first
    | rfl
    | (rename_i b; cases b <;> rfl)
  | _ => rfl
def orK (g : Ex) : R × Env → Option (R × Env)
  | (.v (.bl true), ρ) => some (.v (.bl true), ρ)
  | (.v (.bl false), ρ) => g ρ
  | _ => none
@[simp] theorem orK_v (g : Ex) (b : Bool) (ρ : Env) : orK g (.v (.bl b), ρ) = if b then some (.v (.bl true), ρ) else g ρ := by cases b <;> rfl
@[simp] theorem xOr_eq (f g : Ex) (ρ : Env) : xOr f g ρ = (f ρ).bind (orK g) := by
  unfold xOr
  congr 1
  funext p
  obtain ⟨r, ρ⟩ := p
  cases r with
  | v d => cases d <;> first
    | rfl
    | (rename_i b; cases b <;> rfl)
  | _ => rfl
def chK (o' : D → D → Option D) (h : Ex) (q : R × Env) : D → Option (R × Env)
  | .bl true => (h q.2).bind fun w => (dr w.2 q.1).bind fun y' => (dr w.2 w.1).bind fun u => (o' y' u).map fun z => (.v z, w.2)
  | .bl false => some (.v (.bl false), q.2)
  | _ => none
@[simp] theorem chK_v (o' : D → D → Option D) (h : Ex) (q : R × Env) (b : Bool) : chK o' h q (.bl b) = if b then (h q.2).bind fun w => (dr w.2 q.1).bind fun y' => (dr w.2 w.1).bind fun u => (o' y' u).map fun z => (.v z, w.2) else some (.v (.bl false), q.2) := by cases b <;> rfl
@[simp] theorem xChain_eq (o o' : D → D → Option D) (f g h : Ex) (ρ : Env) : xChain o o' f g h ρ = (f ρ).bind fun p => (g p.2).bind fun q => (dr q.2 p.1).bind fun x => (dr q.2 q.1).bind fun y => (o x y).bind (chK o' h q) := by
  unfold xChain
  rfl
def fzK : R × Env → Option (R × Env)
  | (.v d, ρ) => some (.v d, ρ)
  | (.own d, ρ) => some (.v (fz d), ρ)
  | (.at i, ρ) => (gt ρ i).bind fun d => some (.v (fz d), ρ.set i (some (fz d)))
@[simp] theorem fzK_v (d : D) (ρ : Env) : fzK (.v d, ρ) = some (.v d, ρ) := rfl
@[simp] theorem fzK_own (d : D) (ρ : Env) : fzK (.own d, ρ) = some (.v (fz d), ρ) := rfl
@[simp] theorem fzK_at (i : Nat) (ρ : Env) : fzK (.at i, ρ) = (gt ρ i).bind fun d => some (.v (fz d), ρ.set i (some (fz d))) := rfl
@[simp] theorem xFz_eq (f : Ex) (ρ : Env) : xFz f ρ = (f ρ).bind fzK := by
  unfold xFz
  congr 1
  funext p
  obtain ⟨r, ρ⟩ := p
  cases r <;> rfl
@[simp] theorem fz_own (ds : List D) : fz (.own ds) = .lst (ds.map fz) := by rw [fz, fzs_map]
@[simp] theorem fz_non : fz .non = .non := by rw [fz]
@[simp] theorem fz_bl (b : Bool) : fz (.bl b) = .bl b := by rw [fz]
@[simp] theorem fz_int (b : Int) : fz (.int b) = .int b := by rw [fz]
@[simp] theorem fz_str (b : List Nat) : fz (.str b) = .str b := by rw [fz]
@[simp] theorem fz_lst (b : List D) : fz (.lst b) = .lst b := by rw [fz]
@[simp] theorem fz_tup (b : List D) : fz (.tup b) = .tup b := by rw [fz]
@[simp] theorem sNil_eq (ρ : Env) : sNil ρ = some (.nx ρ) := rfl
def sqK (g : Es) : O → Option O
  | .nx ρ => g ρ
  | .rt r ρ => some (.rt r ρ)
  | .bk ρ => some (.bk ρ)
  | .ct ρ => some (.ct ρ)
@[simp] theorem sqK_nx (g : Es) (ρ : Env) : sqK g (.nx ρ) = g ρ := rfl
@[simp] theorem sqK_rt (g : Es) (r : R) (ρ : Env) : sqK g (.rt r ρ) = some (.rt r ρ) := rfl
@[simp] theorem sqK_bk (g : Es) (ρ : Env) : sqK g (.bk ρ) = some (.bk ρ) := rfl
@[simp] theorem sqK_ct (g : Es) (ρ : Env) : sqK g (.ct ρ) = some (.ct ρ) := rfl
@[simp] theorem sSeq_eq (f g : Es) (ρ : Env) : sSeq f g ρ = (f ρ).bind (sqK g) := by
  unfold sSeq
  rfl
@[simp] theorem sIf_eq (t : Et) (f g : Es) (ρ : Env) : sIf t f g ρ = (t ρ).bind fun p => if p.1 then f p.2 else g p.2 := rfl
@[simp] theorem sSet_eq (i : Nat) (f : Ex) (ρ : Env) : sSet i f ρ = (f ρ).bind fun p => (rOwn p.1).map fun d => .nx (p.2.set i (some d)) := rfl
@[simp] theorem sExpr_eq (f : Ex) (ρ : Env) : sExpr f ρ = (f ρ).map fun p => .nx p.2 := rfl
@[simp] theorem sRet_eq (f : Ex) (ρ : Env) : sRet f ρ = (f ρ).map fun p => .rt p.1 p.2 := rfl
@[simp] theorem sAsg_eq (f : Ex) (g : Eg) (ρ : Env) : sAsg f g ρ = (f ρ).bind fun p => (rVal p.1).bind fun d => (g d p.2).map .nx := rfl
@[simp] theorem sFor_eq (fi : Ei) (g : Eg) (b : Es) (ρ : Env) : sFor fi g b ρ = (fi ρ).bind fun p => forL g b p.1 p.2 := rfl
@[simp] theorem gN_eq (i : Nat) (d : D) (ρ : Env) : gN i d ρ = some (ρ.set i (some d)) := rfl
@[simp] theorem gA_tup (n : Nat) (g : List D → Env → Option Env) (ds : List D) (ρ : Env) : gA n g (.tup ds) ρ = if ds.length = n then g ds ρ else none := rfl
@[simp] theorem gA_lst (n : Nat) (g : List D → Env → Option Env) (ds : List D) (ρ : Env) : gA n g (.lst ds) ρ = if ds.length = n then g ds ρ else none := rfl
@[simp] theorem gsNil_eq (ρ : Env) : gsNil [] ρ = some ρ := rfl
@[simp] theorem gsCons_eq (g : Eg) (f : List D → Env → Option Env) (d : D) (ds : List D) (ρ : Env) : gsCons g f (d :: ds) ρ = (g d ρ).bind (f ds) := rfl
def foK (g : Eg) (b : Es) (ds : List D) : O → Option O
  | .nx ρ => forL g b ds ρ
  | .ct ρ => forL g b ds ρ
  | .bk ρ => some (.nx ρ)
  | .rt r ρ => some (.rt r ρ)
@[simp] theorem foK_nx (g : Eg) (b : Es) (ds : List D) (ρ : Env) : foK g b ds (.nx ρ) = forL g b ds ρ := rfl
@[simp] theorem foK_rt (g : Eg) (b : Es) (ds : List D) (r : R) (ρ : Env) : foK g b ds (.rt r ρ) = some (.rt r ρ) := rfl
theorem forL_nil (g : Eg) (b : Es) (ρ : Env) : forL g b [] ρ = some (.nx ρ) := rfl
theorem forL_cons (g : Eg) (b : Es) (d : D) (ds : List D) (ρ : Env) : forL g b (d :: ds) ρ = (g d ρ).bind fun ρ1 => (b ρ1).bind (foK g b ds) := by
  rw [forL]
  rfl
@[simp] theorem iA_eq (f : Ex) (ρ : Env) : iA f ρ = (f ρ).bind fun p => (rVal p.1).bind fun d => (itemsOf d).map fun ds => (ds, p.2) := rfl
@[simp] theorem itemsOf_lst (ds : List D) : itemsOf (.lst ds) = some ds := rfl
@[simp] theorem itemsOf_rd (ds : List D) : itemsOf (.rd ds) = some ds := rfl
@[simp] theorem itemsOf_tup (ds : List D) : itemsOf (.tup ds) = some ds := rfl
@[simp] theorem itemsOf_str (s : List Nat) : itemsOf (.str s) = some (signs s) := rfl
def r1K : List R × Env → Option (List D × Env)
  | ([.v (.int j)], ρ) => if small j then some (rng 0 j.toNat, ρ) else none
  | _ => none
@[simp] theorem r1K_v (j : Int) (ρ : Env) : r1K ([.v (.int j)], ρ) = if small j then some (rng 0 j.toNat, ρ) else none := rfl
@[simp] theorem iR1_eq (g : Ea) (ρ : Env) : iR1 g ρ = (g ρ).bind r1K := by
  unfold iR1
  congr 1
  funext p
  obtain ⟨rs, ρ⟩ := p
  unfold r1K
  split <;> split <;> simp_all
def r2K : List R × Env → Option (List D × Env)
  | ([.v (.int i), .v (.int j)], ρ) => if small i && small j then some (rng i (j - i).toNat, ρ) else none
  | _ => none
@[simp] theorem r2K_v (i j : Int) (ρ : Env) : r2K ([.v (.int i), .v (.int j)], ρ) = if small i && small j then some (rng i (j - i).toNat, ρ) else none := rfl
@[simp] theorem iR2_eq (g : Ea) (ρ : Env) : iR2 g ρ = (g ρ).bind r2K := by
  unfold iR2
  congr 1
  funext p
  obtain ⟨rs, ρ⟩ := p
  unfold r2K
  split <;> split <;> simp_all
def eaK : List R × Env → Option (List D × Env)
  | ([.v (.lst ds)], ρ) => some (enumL 0 ds, ρ)
  | ([.v (.rd ds)], ρ) => some (enumL 0 ds, ρ)
  | ([.v (.str s)], ρ) => some (enumL 0 (signs s), ρ)
  | _ => none
@[simp] theorem eaK_l (ds : List D) (ρ : Env) : eaK ([.v (.lst ds)], ρ) = some (enumL 0 ds, ρ) := rfl
@[simp] theorem eaK_s (s : List Nat) (ρ : Env) : eaK ([.v (.str s)], ρ) = some (enumL 0 (signs s), ρ) := rfl
theorem iEA_l {g : Ea} {ρ ρ' : Env} {ds : List D} (h : g ρ = some ([.v (.lst ds)], ρ')) : iEA g ρ = some (enumL 0 ds, ρ') := by
  unfold iEA
  rw [h]
  rfl
theorem iEA_s {g : Ea} {ρ ρ' : Env} {s : List Nat} (h : g ρ = some ([.v (.str s)], ρ')) : iEA g ρ = some (enumL 0 (signs s), ρ') := by
  unfold iEA
  rw [h]
  rfl
@[simp] theorem xCB_eq (o : List D → Option D) (g : Ea) (ρ : Env) : xCB o g ρ = (g ρ).bind fun p => (dAll p.2 p.1).bind fun ds => (o ds).map fun z => (.v z, p.2) := rfl
@[simp] theorem xBM_eq (n : String) (o : D → List D → Option D) (f : Ex) (g : Ea) (ρ : Env) : xBM n o f g ρ = (f ρ).bind fun p => (dr p.2 p.1).bind fun x0 => if tyName x0 = some n then (g p.2).bind fun q => (dr q.2 p.1).bind fun x => (dAll q.2 q.1).bind fun ds => (o x ds).map fun z => (.v z, q.2) else none := rfl
@[simp] theorem tyName_str (s : List Nat) : tyName (.str s) = some "str" := rfl
@[simp] theorem tyName_lst (s : List D) : tyName (.lst s) = some "list" := rfl
@[simp] theorem tyName_own (s : List D) : tyName (.own s) = some "list" := rfl
@[simp] theorem xNo_eq (ρ : Env) : xNo ρ = some (none, ρ) := rfl
def smK : R × Env → Option (Option Int × Env)
  | (.v (.int i), ρ) => some (some i, ρ)
  | _ => none
@[simp] theorem smK_v (i : Int) (ρ : Env) : smK (.v (.int i), ρ) = some (some i, ρ) := rfl
@[simp] theorem xSome_eq (f : Ex) (ρ : Env) : xSome f ρ = (f ρ).bind smK := by
  unfold xSome
  congr 1
  funext p
  obtain ⟨r, ρ⟩ := p
  cases r with
  | v d => cases d <;> rfl
  | _ => rfl
@[simp] theorem xSl_eq (o : D → Option Int → Option Int → Option D) (f : Ex) (l h : Eo) (ρ : Env) : xSl o f l h ρ = (f ρ).bind fun p => (l p.2).bind fun a => (h a.2).bind fun b => (dr b.2 p.1).bind fun x => (o x a.1 b.1).map fun z => (.v z, b.2) := rfl
@[simp] theorem xKGet_eq (tab : List (List Nat × List Nat)) (f g : Ex) (ρ : Env) : xKGet tab f g ρ = (f ρ).bind fun p => (g p.2).bind fun q => (rStr p.1).bind fun s => (rVal q.1).map fun d => (.v (match tab.lookup s with
    | some z => .str z
    | none => d), q.2) := rfl
@[simp] theorem xDisp_eq (tab : List (List Nat × List Nat)) (f : Ex) (ρ : Env) : xDisp tab f ρ = (f ρ).bind fun p => (rStr p.1).bind fun s => (dispAt tab s).map fun z => (.v (.str z), p.2) := rfl
@[simp] theorem xCallV_eq (n : Nat) (den : Dn) (g : Ea) (ρ : Env) : xCallV n den g ρ = (g ρ).bind fun p => (valsR p.1).bind fun ds => if ds.length = n then (den ds).map fun q => (q.1, p.2) else none := rfl
def clK (i : Nat) (ρ : Env) : R × List D → Option (R × Env)
  | (r, d :: _) => some (r, ρ.set i (some d))
  | (_, []) => none
@[simp] theorem clK_c (i : Nat) (ρ : Env) (r : R) (d : D) (ds : List D) : clK i ρ (r, d :: ds) = some (r, ρ.set i (some d)) := rfl
@[simp] theorem xCallL_eq (n : Nat) (den : Dn) (i : Nat) (g : Ea) (ρ : Env) : xCallL n den i g ρ = (lV i ρ).bind fun _ => (g ρ).bind fun p => (valsR p.1).bind fun ds => (gt p.2 i).bind fun d => if ds.length + 1 = n then (den (d :: ds)).bind (clK i p.2) else none := by
  unfold xCallL
  congr 1; funext l; congr 1; funext p; congr 1; funext ds; congr 1; funext d
  split
  · congr 1
    funext q
    obtain ⟨r, l⟩ := q
    cases l <;> rfl
  · rfl
def lvK (i : Nat) : D → Option (Nat × List Nat)
  | .own _ => some (i, [])
  | _ => none
@[simp] theorem lvK_own (i : Nat) (ds : List D) : lvK i (.own ds) = some (i, []) := rfl
@[simp] theorem lV_eq (i : Nat) (ρ : Env) : lV i ρ = (gt ρ i).bind (lvK i) := by
  unfold lV
  rfl
def apK (i : Nat) (ρ : Env) (d : D) : D → Option (R × Env)
  | .own ds => if ds.length < cap then some (.v .non, ρ.set i (some (.own (ds ++ [d])))) else none
  | _ => none
@[simp] theorem apK_own (i : Nat) (ρ : Env) (d : D) (ds : List D) : apK i ρ d (.own ds) = if ds.length < cap then some (.v .non, ρ.set i (some (.own (ds ++ [d])))) else none := rfl
@[simp] theorem xApp_eq (i : Nat) (f : Ex) (ρ : Env) : xApp i f ρ = (lV i ρ).bind fun _ => (f ρ).bind fun w => (rOwn w.1).bind fun d => (gt w.2 i).bind (apK i w.2 d) := by
  unfold xApp
  rfl
end Den

namespace Den
open PySem PySem.Spec L2
def Md.s : Md → List Nat
  | .col => [99, 111, 108, 108, 97, 112, 115, 101]
  | .brk => [98, 114, 101, 97, 107, 115]
  | .pre => [112, 114, 101, 115, 101, 114, 118, 101]
def Kd.s : Kd → List Nat
  | .space => [115, 112, 97, 99, 101]
  | .feed => [102, 101, 101, 100]
  | .mark => [109, 97, 114, 107]
  | .fin => [101, 110, 100]
  | .zero => [122, 101, 114, 111]
  | .wide => [119, 105, 100, 101]
  | .other => [111, 116, 104, 101, 114]
theorem kd_s_inj {a b : Kd} : a.s = b.s ↔ a = b := by cases a <;> cases b <;> decide
@[simp] theorem dEq_str (x y : List Nat) : dEq (.str x) (.str y) = some (.bl (decide (x = y))) := rfl
@[simp] theorem dNe_str (x y : List Nat) : dNe (.str x) (.str y) = some (.bl (!decide (x = y))) := rfl
@[simp] theorem dEq_int (x y : Int) : dEq (.int x) (.int y) = some (.bl (decide (x = y))) := rfl
theorem lkT (c : Nat) : (match tab_STAND_INS.lookup [c] with
    | some z => D.str z
    | none => .str Kd.other.s) = .str (if c = 124 then Kd.fin else if c = 94 then .zero else if c = 60 ∨ c = 62 then .mark else .other).s := by
  by_cases h1 : c = 124
  · subst h1; rfl
  by_cases h2 : c = 94
  · subst h2; rfl
  by_cases h3 : c = 60
  · subst h3; rfl
  by_cases h4 : c = 62
  · subst h4; rfl
  have e : tab_STAND_INS.lookup [c] = none := by
    unfold tab_STAND_INS
    simp [List.lookup, beq_eq_false_iff_ne.mpr h1, beq_eq_false_iff_ne.mpr h2, beq_eq_false_iff_ne.mpr h3, beq_eq_false_iff_ne.mpr h4]
  rw [e]
  simp [h1, h2, h3, h4]
theorem lt1 (a b : Nat) : ([a] : List Nat) < [b] ↔ a < b := by simp [List.cons_lt_cons_iff]
theorem den_kind (m : Md) (c : Nat) : d_kind [.str m.s, .str [c]] = some (.v (.str (kd m c).s), [.str m.s, .str [c]]) := by
  unfold d_kind dnOf b_kind
  by_cases h1 : c = 32
  · subst h1
    cases m <;> rfl
  by_cases h2 : c = 10
  · subst h2
    cases m <;> rfl
  have e : kd m c = kdS c := by unfold kd; rw [if_neg h1, if_neg h2]
  rw [e]
  unfold kdS
  by_cases h3 : 65 ≤ c ∧ c ≤ 90
  · simp [h1, h2, dLe, lt1, Nat.not_lt.mpr h3.1, Nat.not_lt.mpr h3.2, h3, argsB, Kd.s]
  · have h4 : ¬ (65 ≤ c) ∨ ¬ (c ≤ 90) := by omega
    have := lkT c
    rw [if_neg h3]
    rcases h4 with h4 | h4
    · simp [h1, h2, dLe, lt1, Nat.not_le.mp h4, argsB, show ([111, 116, 104, 101, 114] : List Nat) = Kd.other.s from rfl]
      exact this
    · by_cases h5 : 65 ≤ c
      · simp [h1, h2, dLe, lt1, Nat.not_le.mp h4, Nat.not_lt.mpr h5, argsB, show ([111, 116, 104, 101, 114] : List Nat) = Kd.other.s from rfl]
        exact this
      · omega
def U.d (u : U) : D := .tup [.str u.1.s, .str [u.2]]
theorem dIn4 (c : Nat) : dIn (.str [c]) (.str [124, 94, 60, 62]) = some (.bl (decide (c ∈ [124, 94, 60, 62]))) := rfl
theorem dInAZ (c : Nat) (s : List Nat) : dIn (.str [c]) (.str s) = some (.bl (decide (c ∈ s))) := rfl
theorem az (c : Nat) : c ∈ ([65, 66, 67, 68, 69, 70, 71, 72, 73, 74, 75, 76, 77, 78, 79, 80, 81, 82, 83, 84, 85, 86, 87, 88, 89, 90] : List Nat) ↔ 65 ≤ c ∧ c ≤ 90 := by
  constructor
  · intro h
    simp at h
    omega
  · intro h
    simp
    omega
theorem dInA (c : Nat) : dIn (.str [c]) (.str [65, 66, 67, 68, 69, 70, 71, 72, 73, 74, 75, 76, 77, 78, 79, 80, 81, 82, 83, 84, 85, 86, 87, 88, 89, 90]) = some (.bl (decide (65 ≤ c ∧ c ≤ 90))) := by
  rw [dInAZ, decide_eq_decide.mpr (az c)]
theorem den_law_kind (u : U) : d_law_kind [u.d] = some (.v (.str u.k.s), [u.d]) := by
  obtain ⟨m, c⟩ := u
  unfold d_law_kind dnOf b_law_kind U.d U.k
  dsimp only
  by_cases h1 : c = 32
  · subst h1
    cases m <;> rfl
  by_cases h2 : c = 10
  · subst h2
    cases m <;> rfl
  have e : kd m c = kdS c := by unfold kd; rw [if_neg h1, if_neg h2]
  rw [e]
  by_cases h3 : c = 124
  · subst h3
    cases m <;> rfl
  by_cases h4 : c = 94
  · subst h4
    cases m <;> rfl
  by_cases h5 : c = 60
  · subst h5
    cases m <;> rfl
  by_cases h6 : c = 62
  · subst h6
    cases m <;> rfl
  unfold kdS
  have i1 : dIx (.tup [.str m.s, .str [c]]) (.int 0) = some (.str m.s) := rfl
  have i2 : dIx (.tup [.str m.s, .str [c]]) (.int 1) = some (.str [c]) := rfl
  by_cases h : 65 ≤ c ∧ c ≤ 90
  · have j : dIx (.lst [.str [111, 116, 104, 101, 114], .str [119, 105, 100, 101]]) (.int 1) = some (.str Kd.wide.s) := rfl
    simp [i1, i2, dInA, dIn4, h1, h2, h3, h4, h5, h6, h, dInt, cap, j, argsB]
  · have j : dIx (.lst [.str [111, 116, 104, 101, 114], .str [119, 105, 100, 101]]) (.int 0) = some (.str Kd.other.s) := rfl
    simp [i1, i2, dInA, dIn4, h1, h2, h3, h4, h5, h6, h, dInt, cap, j, argsB]
theorem md_s_inj {a b : Md} : a.s = b.s ↔ a = b := by cases a <;> cases b <;> decide
/-- a neighbor: a kind, or None -/
def okd : Ok → D
  | none => .non
  | some k => .str k.s
@[simp] theorem okd_flat (o : Ok) : (okd o).flat = true := by cases o <;> rfl
@[simp] theorem fz_okd (o : Ok) : fz (okd o) = okd o := by cases o <;> rw [okd] <;> simp
theorem okd_eq (o : Ok) (k : Kd) : dEq (okd o) (.str k.s) = some (.bl (decide (o = some k))) := by
  cases o with
  | none => rfl
  | some j =>
    show some (D.bl (decide (j.s = k.s))) = _
    congr 2
    rw [decide_eq_decide, kd_s_inj]
    simp
theorem okd_is (o : Ok) : dIs (okd o) .non = some (.bl (decide (o = none))) := by cases o <;> rfl
theorem okd_isnot (o : Ok) : dIsNot (okd o) .non = some (.bl (decide (o ≠ none))) := by cases o <;> rfl
end Den

namespace Den
open PySem PySem.Spec L2
theorem lcL_ok {α : Type} {g : Eg} {t : Et} {f : Ex} {vs : List Nat} (enc : α → D) (p : α → Bool) (val : α → D) (ρ : Env) : ∀ l : List α, (∀ a ∈ l, ∃ ρ1, g (enc a) ρ = some ρ1 ∧ t ρ1 = some (p a, ρ1) ∧ (p a = true → f ρ1 = some (.v (val a), ρ1)) ∧ wipeD ρ1 vs = ρ) →
    lcL g t f vs (l.map enc) ρ = some ((l.filter p).map val, ρ)
  | [], _ => rfl
  | a :: l, h => by
    obtain ⟨ρ1, h1, h2, h3, h4⟩ := h a (List.mem_cons_self ..)
    have ih := lcL_ok enc p val ρ l fun b m => h b (List.mem_cons_of_mem _ m)
    rw [List.map_cons, lcL, h1]
    show (t ρ1).bind _ = _
    rw [h2]
    by_cases q : p a = true
    · rw [List.filter_cons_of_pos q]
      show (if p a = true then _ else _) = _
      rw [if_pos q, h3 q]
      show (lcL g t f vs (l.map enc) (wipeD ρ1 vs)).map _ = _
      rw [h4, ih]
      rfl
    · rw [List.filter_cons_of_neg q]
      show (if p a = true then _ else lcL g t f vs (l.map enc) (wipeD ρ1 vs)) = _
      rw [if_neg q, h4, ih]
theorem forL_ok {α σ : Type} {g : Eg} {b : Es} (enc : α → D) (Inv : σ → Env → Prop) (step : σ → α → σ) : ∀ (l : List α) (s : σ) (ρ : Env), Inv s ρ → (∀ s a ρ, a ∈ l → Inv s ρ → ∃ ρ1 ρ2, g (enc a) ρ = some ρ1 ∧ b ρ1 = some (.nx ρ2) ∧ Inv (step s a) ρ2) →
    ∃ ρ', forL g b (l.map enc) ρ = some (.nx ρ') ∧ Inv (l.foldl step s) ρ'
  | [], s, ρ, i, _ => ⟨ρ, rfl, i⟩
  | a :: l, s, ρ, i, h => by
    obtain ⟨ρ1, ρ2, h1, h2, h3⟩ := h s a ρ (List.mem_cons_self ..) i
    obtain ⟨ρ', e, i'⟩ := forL_ok enc Inv step l (step s a) ρ2 h3 fun s a ρ m => h s a ρ (List.mem_cons_of_mem _ m)
    refine ⟨ρ', ?_, i'⟩
    rw [List.map_cons, forL_cons, h1]
    show (b ρ1).bind _ = _
    rw [h2]
    exact e
theorem foldl_cnt {α : Type} : ∀ (l : List α) (n : Nat), l.foldl (fun n _ => n + 1) n = n + l.length
  | [], n => rfl
  | a :: l, n => by rw [List.foldl_cons, foldl_cnt l, List.length_cons]; omega
theorem forL_cnt' {α : Type} {g : Eg} {b : Es} (enc : α → D) (Inv : Nat → Env → Prop) : ∀ (l : List α) (m : Nat) (ρ : Env) (i : Inv m ρ) (h : ∀ n a ρ, n < m + l.length → a ∈ l → Inv n ρ → ∃ ρ1 ρ2, g (enc a) ρ = some ρ1 ∧ b ρ1 = some (.nx ρ2) ∧ Inv (n + 1) ρ2),
    ∃ ρ', forL g b (l.map enc) ρ = some (.nx ρ') ∧ Inv (m + l.length) ρ'
  | [], m, ρ, i, _ => ⟨ρ, rfl, i⟩
  | a :: l, m, ρ, i, h => by
    obtain ⟨ρ1, ρ2, h1, h2, h3⟩ := h m a ρ (by simp) (List.mem_cons_self ..) i
    obtain ⟨ρ', e, i'⟩ := forL_cnt' enc Inv l (m + 1) ρ2 h3 fun n b ρ q t => h n b ρ (by rw [List.length_cons]; omega) (List.mem_cons_of_mem _ t)
    refine ⟨ρ', ?_, by rw [List.length_cons, show m + (l.length + 1) = m + 1 + l.length by omega]; exact i'⟩
    rw [List.map_cons, forL_cons, h1]
    show (b ρ1).bind _ = _
    rw [h2]
    exact e
theorem forL_cnt {α : Type} {g : Eg} {b : Es} (enc : α → D) (Inv : Nat → Env → Prop) (l : List α) (ρ : Env) (i : Inv 0 ρ) (h : ∀ n a ρ, n < l.length → a ∈ l → Inv n ρ → ∃ ρ1 ρ2, g (enc a) ρ = some ρ1 ∧ b ρ1 = some (.nx ρ2) ∧ Inv (n + 1) ρ2) :
    ∃ ρ', forL g b (l.map enc) ρ = some (.nx ρ') ∧ Inv l.length ρ' := by
  have := forL_cnt' enc Inv l 0 ρ i (by rw [Nat.zero_add]; exact h)
  rwa [Nat.zero_add] at this
def intsD (is : List Int) : List D := is.map D.int
def iD (k : Nat) : D := .int (k : Nat)
theorem rng0 (n : Nat) : rng 0 n = (List.range n).map iD := by
  unfold rng iD
  simp
theorem atI_map {α β : Type} (f : α → β) (l : List α) (i : Int) : atI (l.map f) i = (atI l i).map f := by
  unfold atI
  simp [Option.map_bind, Function.comp_def]
theorem den_cell (ns : List Int) (k : Nat) : ∃ c : Int, d_law_cell [.rd (ns.map D.int), .int k] = some (.v (.int c), [.rd (ns.map D.int), .int k]) := by
  unfold d_law_cell dnOf b_law_cell
  by_cases h : k < ns.length
  · refine ⟨ns[k], ?_⟩
    have : dIx (.rd (ns.map D.int)) (.int k) = some (.int ns[k]) := by
      show atI _ _ = _
      rw [atI_map]
      unfold atI ixN
      simp [h]
    simp [dLen, seqOf, dLt, h, this, argsB]
  · refine ⟨0, ?_⟩
    simp [dLen, seqOf, dLt, h, argsB]
theorem pow18 : dPow (.int 10) (.int 18) = some (.int (10 ^ 18)) := by simp [dPow]
def row1 : Es := (sIf (xB (xOp dGt (xVar 5) (xC (.int 0))))
  (sSeq (sExpr (xApp 3 (xOp dMod (xCB dInt (xCons (xVar 5) xNil)) (xC (.int 840)))))
  (sSet 5 (xOp dDiv (xVar 5) (xC (.int 840)))))
  sNil)
def row2 : Es := (sSeq (sSet 5 (xOp dMod (xCB dInt (xCons (xOp dAdd (xOp dAdd (xOp dMul (xVar 5) (xC (.int 69069))) (xOp dMul (xC (.int 104729)) (xOp dAdd (xVar 4) (xVar 6)))) (xC (.int 1))) xNil)) (xC (.int 4294967291))))
  (sExpr (xApp 3 (xOp dMod (xCB dInt (xCons (xOp dDiv (xVar 5) (xC (.int 5003))) xNil)) (xC (.int 840))))))
def rowB : Es := (sSeq (sSet 5 (xCallV 2 d_law_cell (xCons (xVar 0) (xCons (xVar 4) xNil))))
  (sSeq (sSet 5 (xOp dAdd (xCB dAbs (xCons (xOp dMul (xC (.int 2)) (xVar 5)) xNil)) (xCB dInt (xCons (xOp dLt (xVar 5) (xC (.int 0))) xNil))))
  (sIf (xB (xOp dGt (xVar 5) (xOp dPow (xC (.int 10)) (xC (.int 18)))))
  (sFor (iR1 (xCons (xC (.int 60)) xNil)) (gN 6) row1)
  (sFor (iR1 (xCons (xC (.int 10)) xNil)) (gN 6) row2))))
theorem row_eq : b_law_row = (sSeq (sSet 3 (xLst xNil))
  (sSeq (sFor (iR2 (xCons (xVar 1) (xCons (xVar 2) xNil))) (gN 4) rowB)
  (sRet (xFz (xVar 3))))) := rfl
def rowE (N : Int) (ns : List Int) (is : List Int) (a b c : Option D) : Env := [some (.rd (ns.map D.int)), some (.int 0), some (.int N), some (.own (intsD is)), a, b, c]
theorem intsD_app (is : List Int) (i : Int) : intsD is ++ [.int i] = intsD (is ++ [i]) := by simp [intsD]
theorem intsD_len (is : List Int) : (intsD is).length = is.length := by simp [intsD]
theorem row1_st (N : Int) (ns is : List Int) (k a : Nat) (z : Int) (hl : is.length ≤ 7200) : ∃ is' z', row1 (rowE N ns is (some (iD k)) (some (.int z)) (some (iD a))) = some (.nx (rowE N ns is' (some (iD k)) (some (.int z')) (some (iD a)))) ∧ is'.length ≤ is.length + 1 := by
  unfold row1 rowE
  by_cases h : 0 < z
  · refine ⟨is ++ [z % 840], z / 840, ?_, by simp⟩
    have q : is.length < cap := Nat.lt_of_le_of_lt hl (by decide)
    simp [dGt, h, dInt, dMod, dDiv, intsD_len, q, intsD_app]
  · refine ⟨is, z, ?_, by omega⟩
    simp [dGt, h]
theorem row2_st (N : Int) (ns is : List Int) (k a : Nat) (z : Int) (hl : is.length ≤ 7200) : ∃ is' z', row2 (rowE N ns is (some (iD k)) (some (.int z)) (some (iD a))) = some (.nx (rowE N ns is' (some (iD k)) (some (.int z')) (some (iD a)))) ∧ is'.length ≤ is.length + 1 := by
  unfold row2 rowE
  refine ⟨is ++ [((z * 69069 + 104729 * ((k : Int) + a) + 1) % 4294967291 / 5003) % 840], (z * 69069 + 104729 * ((k : Int) + a) + 1) % 4294967291, ?_, by simp⟩
  have q : is.length < cap := Nat.lt_of_le_of_lt hl (by decide)
  simp [dAdd, dMul, bigOk, iD, dInt, dMod, dDiv, intsD_len, q, intsD_app]
theorem row1_ok (N : Int) (ns is : List Int) (k : Nat) (z : Int) (hl : is.length ≤ 3800) (c : Option D) : ∃ is' z' c', forL (gN 6) row1 ((List.range 60).map iD) (rowE N ns is (some (iD k)) (some (.int z)) c) = some (.nx (rowE N ns is' (some (iD k)) (some (.int z')) c')) ∧ is'.length ≤ is.length + 60 := by
  obtain ⟨ρ', e, is', z', c', rfl, h⟩ := forL_cnt iD (fun n ρ => ∃ is' z' c', ρ = rowE N ns is' (some (iD k)) (some (.int z')) c' ∧ is'.length ≤ is.length + n) (g := gN 6) (b := row1) (List.range 60) (rowE N ns is (some (iD k)) (some (.int z)) c) ⟨is, z, c, rfl, by omega⟩ (by
    rintro n a ρ hn ha ⟨is', z', c', rfl, h⟩
    rw [List.length_range] at hn
    obtain ⟨is2, z2, e, h2⟩ := row1_st N ns is' k a z' (by omega)
    exact ⟨_, _, gN_eq _ _ _, e, is2, z2, _, rfl, by omega⟩)
  exact ⟨is', z', c', e, by simpa using h⟩
theorem row2_ok (N : Int) (ns is : List Int) (k : Nat) (z : Int) (hl : is.length ≤ 3800) (c : Option D) : ∃ is' z' c', forL (gN 6) row2 ((List.range 10).map iD) (rowE N ns is (some (iD k)) (some (.int z)) c) = some (.nx (rowE N ns is' (some (iD k)) (some (.int z')) c')) ∧ is'.length ≤ is.length + 10 := by
  obtain ⟨ρ', e, is', z', c', rfl, h⟩ := forL_cnt iD (fun n ρ => ∃ is' z' c', ρ = rowE N ns is' (some (iD k)) (some (.int z')) c' ∧ is'.length ≤ is.length + n) (g := gN 6) (b := row2) (List.range 10) (rowE N ns is (some (iD k)) (some (.int z)) c) ⟨is, z, c, rfl, by omega⟩ (by
    rintro n a ρ hn ha ⟨is', z', c', rfl, h⟩
    rw [List.length_range] at hn
    obtain ⟨is2, z2, e, h2⟩ := row2_st N ns is' k a z' (by omega)
    exact ⟨_, _, gN_eq _ _ _, e, is2, z2, _, rfl, by omega⟩)
  exact ⟨is', z', c', e, by simpa using h⟩
theorem rowB_st (N : Int) (ns is : List Int) (k : Nat) (b c : Option D) (hl : is.length ≤ 3800) : ∃ is' b' c', rowB (rowE N ns is (some (iD k)) b c) = some (.nx (rowE N ns is' (some (iD k)) b' c')) ∧ is'.length ≤ is.length + 60 := by
  obtain ⟨x, ex⟩ := den_cell ns k
  let z : Int := (if 2 * x < 0 then -(2 * x) else 2 * x) + (if x < 0 then 1 else 0)
  obtain ⟨is1, z1, c1, e1, h1⟩ := row1_ok N ns is k z hl c
  obtain ⟨is2, z2, c2, e2, h2⟩ := row2_ok N ns is k z hl c
  have r60 : rng 0 60 = (List.range 60).map iD := rng0 60
  have r10 : rng 0 10 = (List.range 10).map iD := rng0 10
  by_cases h : (1000000000000000000 : Int) < (if 2 * x < 0 then -(2 * x) else 2 * x) + (if x < 0 then 1 else 0)
  · refine ⟨is1, some (.int z1), c1, ?_, h1⟩
    · unfold rowB
      unfold rowE iD z at *
      simp [ex, dMul, bigOk, dAbs, dInt, dLt, dAdd, dGt, pow18, small, r60]
      exact (if_pos h).trans e1
  · refine ⟨is2, some (.int z2), c2, ?_, by omega⟩
    · unfold rowB
      unfold rowE iD z at *
      simp [ex, dMul, bigOk, dAbs, dInt, dLt, dAdd, dGt, pow18, small, r10]
      exact (if_neg h).trans e2
theorem dn_rt {W : List Nat} {n N : Nat} {b : Es} {ds es : List D} {r r' : R} {ρ : Env} (E0 : Env) (hl : ds.length = n) (hE : ds.map some ++ List.replicate (N - n) none = E0) (hb : b E0 = some (.rt r ρ)) (hf : finR r = some r') (ha : argsB W ρ 0 ds = some es) : dnOf W n N b ds = some (r', es) := by
  unfold dnOf
  rw [if_pos hl, hE, hb]
  show (finR r).bind (fun r => (argsB W ρ 0 ds).map fun xs => (r, xs)) = _
  rw [hf, ha]
  rfl
theorem small_int (i : Int) (h1 : 0 ≤ i) (h2 : i < 90000) : small i = true := by
  unfold small
  rw [Bool.and_eq_true, decide_eq_true_eq, decide_eq_true_eq]
  omega
theorem small_nat (n : Nat) (h : n < 90000) : small (n : Int) = true := small_int _ (by omega) (by omega)
theorem den_row (ns : List Int) (N : Nat) (hN : N ≤ 63) : ∃ is : List Int, d_law_row [.rd (ns.map D.int), .int 0, .int (N : Nat)] = some (.v (.lst (intsD is)), [.rd (ns.map D.int), .int 0, .int (N : Nat)]) ∧ is.length ≤ 3800 := by
  obtain ⟨ρ', e, is, a, b, c, rfl, h⟩ := forL_cnt iD (fun n ρ => ∃ is a b c, ρ = rowE N ns is a b c ∧ is.length ≤ 60 * n) (g := gN 4) (b := rowB) (List.range N) (rowE N ns [] none none none) ⟨[], _, _, _, rfl, by simp⟩ (by
    rintro n a ρ hn ha ⟨is, a', b, c, rfl, h⟩
    rw [List.length_range] at hn
    obtain ⟨is', b', c', e, h'⟩ := rowB_st N ns is a b c (by omega)
    exact ⟨_, _, gN_eq _ _ _, e, is', _, _, _, rfl, by omega⟩)
  rw [List.length_range] at h
  refine ⟨is, ?_, by omega⟩
  have hR : iR2 (xCons (xVar 1) (xCons (xVar 2) xNil)) (rowE N ns [] none none none) = some (rng 0 N, rowE N ns [] none none none) := by
    have e1 : (xCons (xVar 1) (xCons (xVar 2) xNil)) (rowE N ns [] none none none) = some ([.v (.int 0), .v (.int (N : Nat))], rowE N ns [] none none none) := rfl
    rw [iR2_eq, e1, Option.bind_some, r2K_v, small_nat N (by omega), show small 0 = true from small_int 0 (by omega) (by omega), if_pos (show (true && true) = true from rfl)]
    rw [show ((N : Int) - 0).toNat = N by omega]
  have k1 : sSet 3 (xLst xNil) [some (.rd (ns.map D.int)), some (.int 0), some (.int (N : Nat)), none, none, none, none] = some (.nx (rowE N ns [] none none none)) := rfl
  have k2 : sFor (iR2 (xCons (xVar 1) (xCons (xVar 2) xNil))) (gN 4) rowB (rowE N ns [] none none none) = some (.nx (rowE N ns is a b c)) := by
    rw [sFor_eq, hR, Option.bind_some]
    show forL _ _ (rng 0 N) _ = _
    rw [rng0]
    exact e
  have fi : (intsD is).map fz = intsD is := by unfold intsD; rw [List.map_map]; congr 1
  have k3 : xFz (xVar 3) (rowE N ns is a b c) = some (.v (.lst (intsD is)), (rowE N ns is a b c).set 3 (some (.lst (intsD is)))) := by
    generalize ((N : Nat) : Int) = z
    unfold rowE
    simp [fi]
  refine dn_rt [some (.rd (ns.map D.int)), some (.int 0), some (.int (N : Nat)), none, none, none, none] rfl rfl (ρ := (rowE N ns is a b c).set 3 (some (.lst (intsD is)))) (r := .v (.lst (intsD is))) ?_ rfl ?_
  · rw [row_eq, sSeq_eq, k1, Option.bind_some, sqK_nx, sSeq_eq, k2, Option.bind_some, sqK_nx, sRet_eq, k3]
    rfl
  · generalize ((N : Nat) : Int) = z
    generalize intsD is = w
    rfl
end Den

namespace Den
open PySem PySem.Spec L2
theorem drw1 (is : List Int) (k : Nat) : dIx (.own [.lst (intsD is), .int (k : Nat)]) (.int 1) = some (.int (k : Nat)) := rfl
theorem drw0 (is : List Int) (j : Int) : dIx (.own [.lst (intsD is), .int j]) (.int 0) = some (.lst (intsD is)) := rfl
theorem ixN21 : ixN 2 1 = some 1 := rfl
theorem drwI (is : List Int) (k : Nat) (h : k < is.length) : dIx (.lst (intsD is)) (.int k) = some (.int is[k]) := by
  show atI (is.map D.int) _ = _
  rw [atI_map]
  unfold atI ixN
  simp [h]
theorem drwA (is : List Int) (k : Nat) (m r : Int) (hm : 0 < m) (h : k < is.length) (hr : is[k] % m = r) : d_law_draw [.own [.lst (intsD is), .int k], .int m] = some (.v (.int r), [.own [.lst (intsD is), .int (k + 1 : Nat)], .int m]) := by
  unfold d_law_draw dnOf b_law_draw
  rw [← hr]
  simp [drw1, drw0, ixN21, drwI is k h, dAdd, sSto, kC, getP, setP, dLen, seqOf, dLt, intsD_len, h, dInt, dMod, hm, argsB]
theorem drwB (is : List Int) (k : Int) (m r : Int) (hm : 0 < m) (h : ¬ k < is.length) (hr : (k * 5 + 1) % m = r) : d_law_draw [.own [.lst (intsD is), .int k], .int m] = some (.v (.int r), [.own [.lst (intsD is), .int (k + 1)], .int m]) := by
  have e1 : dIx (.own [.lst (intsD is), .int k]) (.int 1) = some (.int k) := rfl
  unfold d_law_draw dnOf b_law_draw
  simp [e1, drw0, ixN21, dAdd, sSto, kC, getP, setP, dLen, seqOf, dLt, intsD_len, h, dInt, dMod, hm, argsB, dMul, bigOk, hr]
theorem den_draw (is : List Int) (k : Nat) (m : Int) (hm : 0 < m) : ∃ r : Int, 0 ≤ r ∧ r < m ∧ d_law_draw [.own [.lst (intsD is), .int k], .int m] = some (.v (.int r), [.own [.lst (intsD is), .int (k + 1 : Nat)], .int m]) := by
  by_cases h : k < is.length
  · exact ⟨is[k] % m, Int.emod_nonneg _ (by omega), Int.emod_lt_of_pos _ hm, drwA is k m _ hm h rfl⟩
  · exact ⟨((k : Int) * 5 + 1) % m, Int.emod_nonneg _ (by omega), Int.emod_lt_of_pos _ hm, drwB is k m _ hm (by omega) rfl⟩
def bx (is : List Int) (z : Int) : D := .own [.lst (intsD is), .int z]
theorem den_drawZ (is : List Int) (z : Int) (hz : 0 ≤ z) (m : Int) (hm : 0 < m) : ∃ r : Int, 0 ≤ r ∧ r < m ∧ d_law_draw [bx is z, .int m] = some (.v (.int r), [bx is (z + 1), .int m]) := by
  obtain ⟨k, rfl⟩ := Int.eq_ofNat_of_zero_le hz
  exact den_draw is k m hm
/-- a draw by a call that lends the box in place 0 -/
theorem lend_draw (is : List Int) (z : Int) (hz : 0 ≤ z) (m : Int) (hm : 0 < m) (ρ : Env) : ∃ r : Int, 0 ≤ r ∧ r < m ∧ ∀ g : Ea, g (some (bx is z) :: ρ) = some ([.v (.int m)], some (bx is z) :: ρ) → xCallL 2 d_law_draw 0 g (some (bx is z) :: ρ) = some (.v (.int r), some (bx is (z + 1)) :: ρ) := by
  obtain ⟨r, h1, h2, e⟩ := den_drawZ is z hz m hm
  refine ⟨r, h1, h2, fun g hg => ?_⟩
  have l : lV 0 (some (bx is z) :: ρ) = some (0, []) := rfl
  rw [xCallL_eq, l]
  show (g (some (bx is z) :: ρ)).bind _ = _
  rw [hg]
  simp [e]
theorem dIx_str {s : List Nat} {r : Int} (h0 : 0 ≤ r) (h1 : r < s.length) (hc : s.length ≤ cap) : ∃ c ∈ s, dIx (.str s) (.int r) = some (.str [c]) := by
  obtain ⟨k, rfl⟩ := Int.eq_ofNat_of_zero_le h0
  have hk : k < s.length := by omega
  refine ⟨s[k], List.getElem_mem hk, ?_⟩
  show (if s.length ≤ cap then (atI s k).map fun c => D.str [c] else none) = _
  rw [if_pos hc]
  unfold atI ixN
  simp [hk]
theorem dIx_lst {s : List D} {r : Int} (h0 : 0 ≤ r) (h1 : r < s.length) : ∃ c ∈ s, dIx (.lst s) (.int r) = some c := by
  obtain ⟨k, rfl⟩ := Int.eq_ofNat_of_zero_le h0
  have hk : k < s.length := by omega
  refine ⟨s[k], List.getElem_mem hk, ?_⟩
  show atI s _ = _
  unfold atI ixN
  simp [hk]
def encR (p : Md × List Nat) : D := .tup [.str p.1.s, .str p.2]
def alph : List Nat := [32, 32, 10, 10, 124, 124, 94, 94, 60, 62, 65, 65, 66, 98, 97, 120, 55]
def fr1 : Es := (sSet 5 (xOp dAdd (xVar 5) (xOp dIx (xC (.str [32, 32, 10, 10, 124, 124, 94, 94, 60, 62, 65, 65, 66, 98, 97, 120, 55])) (xCallL 2 d_law_draw 0 (xCons (xC (.int 17)) xNil)))))
def frB : Es := (sSeq (sSet 4 (xOp dIx (xFz (xLst (xCons (xC (.str [99, 111, 108, 108, 97, 112, 115, 101])) (xCons (xC (.str [99, 111, 108, 108, 97, 112, 115, 101])) (xCons (xC (.str [98, 114, 101, 97, 107, 115])) (xCons (xC (.str [112, 114, 101, 115, 101, 114, 118, 101])) xNil)))))) (xCallL 2 d_law_draw 0 (xCons (xC (.int 4)) xNil))))
  (sSeq (sSet 5 (xC (.str [])))
  (sSeq (sFor (iR1 (xCons (xCallL 2 d_law_draw 0 (xCons (xVar 1) xNil)) xNil)) (gN 6) fr1)
  (sExpr (xApp 2 (xTup (xCons (xVar 4) (xCons (xVar 5) xNil))))))))
theorem fr_eq : b_law_fragment = (sSeq (sSet 2 (xLst xNil))
  (sSeq (sFor (iR1 (xCons (xCallL 2 d_law_draw 0 (xCons (xC (.int 5)) xNil)) xNil)) (gN 3) frB)
  (sRet (xFz (xVar 2))))) := rfl
def frE (M : Int) (is : List Int) (z : Int) (out : List (Md × List Nat)) (a b c d : Option D) : Env := [some (bx is z), some (.int M), some (.own (out.map encR)), a, b, c, d]
theorem fr1_st (M : Int) (is : List Int) (z : Int) (hz : 0 ≤ z) (out : List (Md × List Nat)) (a b : Option D) (t : List Nat) (ht : t.length ≤ 100) (j : Nat) : ∃ c, c < 128 ∧ fr1 (frE M is z out a b (some (.str t)) (some (iD j))) = some (.nx (frE M is (z + 1) out a b (some (.str (t ++ [c]))) (some (iD j)))) := by
  unfold fr1 frE
  obtain ⟨r, h0, h1, e⟩ := lend_draw is z hz 17 (by omega) [some (.int M), some (.own (out.map encR)), a, b, some (.str t), some (iD j)]
  obtain ⟨c, hc, e2⟩ := dIx_str (s := [32, 32, 10, 10, 124, 124, 94, 94, 60, 62, 65, 65, 66, 98, 97, 120, 55]) h0 h1 (by decide)
  have q : t.length + 1 ≤ cap := Nat.le_trans (Nat.add_le_add_right ht 1) (by decide)
  have e' := e (xCons (xC (.int 17)) xNil) rfl
  refine ⟨c, by simp at hc; omega, ?_⟩
  simp [-xCallL_eq, e', e2, dAdd, q]
theorem frB_st (M : Int) (hM : 0 < M) (hM2 : M ≤ 20) (is : List Int) (z : Int) (hz : 0 ≤ z) (out : List (Md × List Nat)) (ho : out.length ≤ 100) (b c d : Option D) (k : Nat) : ∃ z' m t b' c' d', frB (frE M is z out (some (iD k)) b c d) = some (.nx (frE M is z' (out ++ [(m, t)]) (some (iD k)) b' c' d')) ∧ 0 ≤ z' ∧ t.length < M ∧ ∀ c ∈ t, c < 128 := by
  obtain ⟨r, h0, h1, e⟩ := lend_draw is z hz 4 (by omega) [some (.int M), some (.own (out.map encR)), some (iD k), b, c, d]
  have e4 := e (xCons (xC (.int 4)) xNil) rfl
  obtain ⟨x, hx, e5⟩ := dIx_lst (s := [.str [99, 111, 108, 108, 97, 112, 115, 101], .str [99, 111, 108, 108, 97, 112, 115, 101], .str [98, 114, 101, 97, 107, 115], .str [112, 114, 101, 115, 101, 114, 118, 101]]) h0 h1
  obtain ⟨m, rfl⟩ : ∃ m : Md, x = .str m.s := by
    simp at hx
    rcases hx with rfl | rfl | rfl
    · exact ⟨.col, rfl⟩
    · exact ⟨.brk, rfl⟩
    · exact ⟨.pre, rfl⟩
  obtain ⟨r2, h2, h3, e6⟩ := lend_draw is (z + 1) (by omega) M hM [some (.int M), some (.own (out.map encR)), some (iD k), some (.str m.s), some (.str []), d]
  have e7 := e6 (xCons (xVar 1) xNil) rfl
  have hn8 : r2.toNat < M := by omega
  obtain ⟨ρ', e8, z', t, d', rfl, h4, h5, h5c⟩ := forL_cnt iD (fun n ρ => ∃ z' t d', ρ = frE M is z' out (some (iD k)) (some (.str m.s)) (some (.str t)) d' ∧ 0 ≤ z' ∧ t.length ≤ n ∧ ∀ c ∈ t, c < 128) (g := gN 6) (b := fr1) (List.range r2.toNat) (frE M is (z + 1 + 1) out (some (iD k)) (some (.str m.s)) (some (.str [])) d) ⟨_, [], _, rfl, by omega, by simp, by simp⟩ (by
    rintro i a ρ hi ha ⟨z', t, d', rfl, h4, h5, h5c⟩
    rw [List.length_range] at hi
    have : i < 20 := by omega
    obtain ⟨c, hc, e9⟩ := fr1_st M is z' h4 out (some (iD k)) (some (.str m.s)) t (by omega) a
    exact ⟨_, _, gN_eq _ _ _, e9, _, _, _, rfl, by omega, by simp; omega, fun x hx => by
      rcases List.mem_append.mp hx with hx | hx
      · exact h5c x hx
      · rw [List.mem_singleton.mp hx]; exact hc⟩)
  rw [List.length_range] at h5
  refine ⟨z', m, t, some (.str m.s), some (.str t), d', ?_, h4, by omega, h5c⟩
  · unfold frB frE at *
    have rg : rng 0 r2.toNat = (List.range r2.toNat).map iD := rng0 r2.toNat
    have sm : small r2 = true := by
      unfold small
      rw [Bool.and_eq_true, decide_eq_true_eq, decide_eq_true_eq]
      omega
    have q : out.length < cap := Nat.lt_of_le_of_lt ho (by decide)
    simp [-xCallL_eq, e4, e5, e7, e8, rg, sm, q, show (4 : Nat) ≤ cap by decide, show (2 : Nat) ≤ cap by decide, encR]
theorem den_frag (M : Int) (hM : 0 < M) (hM2 : M ≤ 20) (is : List Int) (z : Int) (hz : 0 ≤ z) : ∃ z' fr, d_law_fragment [bx is z, .int M] = some (.v (.lst (List.map encR fr)), [bx is z', .int M]) ∧ 0 ≤ z' ∧ fr.length ≤ 4 ∧ ∀ p ∈ fr, p.2.length < M ∧ ∀ c ∈ p.2, c < 128 := by
  obtain ⟨r, h0, h1, e⟩ := lend_draw is z hz 5 (by omega) [some (.int M), some (.own []), none, none, none, none]
  have e4 := e (xCons (xC (.int 5)) xNil) rfl
  have hn8 : r.toNat ≤ 4 := by omega
  obtain ⟨ρ', e8, z', fr, a, b, c, d, rfl, h4, h5, h6⟩ := forL_cnt iD (fun n ρ => ∃ z' fr a b c d, ρ = frE M is z' fr a b c d ∧ 0 ≤ z' ∧ fr.length ≤ n ∧ ∀ p ∈ fr, p.2.length < M ∧ ∀ c ∈ p.2, c < 128) (g := gN 3) (b := frB) (List.range r.toNat) (frE M is (z + 1) [] none none none none) ⟨_, [], _, _, _, _, rfl, by omega, by simp, by simp⟩ (by
    rintro i a ρ hi ha ⟨z', fr, a', b, c, d, rfl, h4, h5, h6⟩
    rw [List.length_range] at hi
    obtain ⟨z2, m, t, b', c', d', e9, h7, h8⟩ := frB_st M hM hM2 is z' h4 fr (by omega) b c d a
    refine ⟨_, _, gN_eq _ _ _, e9, _, _, _, _, _, _, rfl, h7, by simp; omega, fun p hp => ?_⟩
    rw [List.mem_append, List.mem_singleton] at hp
    rcases hp with hp | rfl
    · exact h6 p hp
    · exact h8)
  rw [List.length_range] at h5
  refine ⟨z', fr, ?_, h4, by omega, h6⟩
  have rg : rng 0 r.toNat = (List.range r.toNat).map iD := rng0 r.toNat
  have sm : small r = true := by
    unfold small
    rw [Bool.and_eq_true, decide_eq_true_eq, decide_eq_true_eq]
    omega
  have fm : (fr.map encR).map fz = fr.map encR := by
    rw [List.map_map]
    congr 1
  unfold d_law_fragment dnOf
  rw [fr_eq]
  unfold frE at e8
  rw [show List.map encR [] = [] from rfl] at e8
  simp [-xCallL_eq, -List.map_map, e4, e8, rg, sm, cap, fm]
  simp [argsB, bx]
end Den

namespace Den
open PySem PySem.Spec L2
/-! ### the gaps, the signs that stay: plainly -/
structure Gap where
  s : Nat
  cur : List U
  l : Ok
  r : Ok
def gp (o : Ok) : Nat → List U → Ok → List U → List Gap
  | s, cur, l, [] => [⟨s, cur, l, o⟩]
  | s, cur, l, u :: us => if gk u.k then gp o s (cur ++ [u]) l us else ⟨s, cur, l, some u.k⟩ :: gp o (s + cur.length + 1) [] (some u.k) us
def whiteI (l r : Ok) (ks : List Kd) : Int := if l = some .fin ∨ r = some .fin then -1 else if Kd.feed ∈ ks then (if joinO l r then -1 else (ks.idxOf .feed : Nat)) else if Kd.space ∈ ks then (ks.idxOf .space : Nat) else -1
def Gap.w (g : Gap) : Int := whiteI g.l g.r (g.cur.map U.k)
def Gap.kept (g : Gap) : Int := if g.w = -1 then -1 else g.s + g.w
def Gap.ins (g : Gap) : List Nat := ((g.cur.zipIdx g.s).filter fun p => decide ((p.2 : Int) = g.kept) || decide (p.1.k = .mark)).map (·.2)
def Gap.num (n : Nat) (g : Gap) : List Nat := g.ins ++ if g.s + g.cur.length < n then [g.s + g.cur.length] else []
theorem whiteI_rng (l r : Ok) (ks : List Kd) : whiteI l r ks = -1 ∨ ∃ j : Nat, whiteI l r ks = j ∧ j < ks.length := by
  unfold whiteI
  split
  · exact .inl rfl
  split
  · rename_i h
    split
    · exact .inl rfl
    · exact .inr ⟨_, rfl, List.idxOf_lt_length_iff.mpr h⟩
  split
  · rename_i h
    exact .inr ⟨_, rfl, List.idxOf_lt_length_iff.mpr h⟩
  · exact .inl rfl
theorem kept_rng (g : Gap) : g.kept = -1 ∨ ∃ j : Nat, g.w = j ∧ g.kept = (g.s + j : Nat) ∧ j < g.cur.length := by
  unfold Gap.kept
  rcases whiteI_rng g.l g.r (g.cur.map U.k) with h | ⟨j, h, hj⟩
  · exact .inl (if_pos h)
  · refine .inr ⟨j, h, ?_, by simpa using hj⟩
    have : ¬ g.w = -1 := by
      have : g.w = j := h
      omega
    rw [if_neg this, show g.w = j from h]
    simp
/-- kept by the law's way: the place is among the kept ones of all the gaps, or the kind is no white one -/
def sv (ks : List Int) (p : U × Nat) : Bool := decide ((p.2 : Int) ∈ ks) || !(decide (p.1.k = .space) || decide (p.1.k = .feed))
theorem gp_low (o : Ok) : ∀ (us : List U) (s : Nat) (cur : List U) (l : Ok), ∀ g ∈ gp o s cur l us, g.kept = -1 ∨ (s : Int) ≤ g.kept
  | [], s, cur, l, g, hg => by
    rw [gp, List.mem_singleton] at hg
    subst hg
    rcases kept_rng ⟨s, cur, l, o⟩ with h | ⟨j, _, h, _⟩
    · exact .inl h
    · right; rw [h]; simp; omega
  | u :: us, s, cur, l, g, hg => by
    rw [gp] at hg
    split at hg
    · exact gp_low o us s _ l g hg
    · rcases List.mem_cons.mp hg with rfl | hg
      · rcases kept_rng ⟨s, cur, l, some u.k⟩ with h | ⟨j, _, h, _⟩
        · exact .inl h
        · right; rw [h]; simp; omega
      · rcases gp_low o us _ [] _ g hg with h | h
        · exact .inl h
        · right; omega
theorem zip_mem {cur : List U} {s : Nat} {p : U × Nat} (h : p ∈ cur.zipIdx s) : s ≤ p.2 ∧ p.2 < s + cur.length ∧ p.1 ∈ cur := by
  have h1 := List.snd_lt_add_of_mem_zipIdx h
  have h2 := List.le_snd_of_mem_zipIdx h
  have h3 := List.fst_mem_of_mem_zipIdx h
  exact ⟨h2, by omega, h3⟩
theorem gk_or {k : Kd} (h : gk k = true) : k = .space ∨ k = .feed ∨ k = .mark := by
  cases k <;> first
    | (cases h; done)
    | simp
/-- the signs of one gap: the law's way tells what the gap alone tells -/
theorem gap_filter (g : Gap) (hc : ∀ u ∈ g.cur, gk u.k = true) (ks : List Int) (hk : ∀ p ∈ g.cur.zipIdx g.s, (p.2 : Int) ∈ ks ↔ (p.2 : Int) = g.kept) : ((g.cur.zipIdx g.s).filter (sv ks)).map (·.2) = g.ins := by
  unfold Gap.ins
  congr 1
  refine List.filter_congr fun p hp => ?_
  unfold sv
  have := hk p hp
  have h2 := gk_or (hc p.1 (zip_mem hp).2.2)
  rw [decide_eq_decide.mpr this]
  congr 1
  rcases h2 with h | h | h <;> rw [h] <;> rfl
theorem src_eq (o : Ok) : ∀ (us : List U) (s : Nat) (cur : List U) (l : Ok) (ex : List Int), (∀ u ∈ cur, gk u.k = true) → (∀ e ∈ ex, e < (s : Int)) →
    (((cur ++ us).zipIdx s).filter (sv (ex ++ (gp o s cur l us).map Gap.kept))).map (·.2) = (gp o s cur l us).flatMap (Gap.num (s + cur.length + us.length))
  | [], s, cur, l, ex, hc, he => by
    rw [gp, List.append_nil]
    have e := gap_filter ⟨s, cur, l, o⟩ hc (ex ++ [Gap.kept ⟨s, cur, l, o⟩]) fun p hp => by
      rw [List.mem_append, List.mem_singleton]
      refine or_iff_right fun h => ?_
      have := he _ h
      have h2 : s ≤ p.2 := (zip_mem hp).1
      omega
    rw [show [Gap.mk s cur l o].map Gap.kept = [Gap.kept ⟨s, cur, l, o⟩] from rfl]
    rw [show (List.zipIdx cur s).filter _ = (List.zipIdx (Gap.cur ⟨s, cur, l, o⟩) (Gap.s ⟨s, cur, l, o⟩)).filter (sv (ex ++ [Gap.kept ⟨s, cur, l, o⟩])) from rfl, e]
    simp [Gap.num]
  | u :: us, s, cur, l, ex, hc, he => by
    rw [gp]
    split
    · rename_i h
      have := src_eq o us s (cur ++ [u]) l ex (fun v hv => by
        rcases List.mem_append.mp hv with hv | hv
        · exact hc v hv
        · rw [List.mem_singleton.mp hv]; exact h) he
      rw [List.append_assoc] at this
      rw [show cur ++ u :: us = cur ++ ([u] ++ us) from rfl, this]
      congr 2
      simp
      omega
    · rename_i h
      let g : Gap := ⟨s, cur, l, some u.k⟩
      have low := gp_low o us (s + cur.length + 1) [] (some u.k)
      have ih := src_eq o us (s + cur.length + 1) [] (some u.k) (ex ++ [g.kept]) (fun v hv => by cases hv) (fun e h => by
        rcases List.mem_append.mp h with h | h
        · have := he e h; omega
        · rw [List.mem_singleton.mp h]
          rcases kept_rng g with q | ⟨j, _, q, hj⟩
          · rw [q]; omega
          · rw [q]
            have : j < cur.length := hj
            have : g.s = s := rfl
            omega)
      have e := gap_filter g hc (ex ++ (g :: gp o (s + cur.length + 1) [] (some u.k) us).map Gap.kept) fun p hp => by
        have hp' := zip_mem hp
        have hs : g.s = s := rfl
        have hcu : g.cur = cur := rfl
        rw [List.mem_append, List.map_cons, List.mem_cons]
        constructor
        · rintro (h | h | h)
          · have := he _ h
            omega
          · exact h
          · obtain ⟨g', hg, e⟩ := List.mem_map.mp h
            rw [hcu] at hp'
            rcases low g' hg with q | q <;> omega
        · exact fun h => .inr (.inl h)
      rw [List.zipIdx_append, List.zipIdx_cons, List.filter_append, List.filter_cons, List.map_append]
      rw [show List.zipIdx cur s = List.zipIdx g.cur g.s from rfl, e]
      have sol : sv (ex ++ (g :: gp o (s + cur.length + 1) [] (some u.k) us).map Gap.kept) (u, s + cur.length) = true := by
        unfold sv
        have : (decide (u.k = .space) || decide (u.k = .feed)) = false := by
          revert h
          unfold gk
          cases u.k <;> simp
        rw [this]
        simp
      rw [if_pos sol]
      rw [List.map_cons, List.flatMap_cons]
      rw [List.nil_append, List.append_assoc] at ih
      rw [show s + cur.length + (u :: us).length = s + cur.length + 1 + ([] : List U).length + us.length by simp; omega]
      rw [show List.map Gap.kept (g :: gp o (s + cur.length + 1) [] (some u.k) us) = [g.kept] ++ List.map Gap.kept (gp o (s + cur.length + 1) [] (some u.k) us) from rfl, ih]
      unfold Gap.num
      rw [if_pos (show g.s + g.cur.length < s + cur.length + 1 + ([] : List U).length + us.length by show s + cur.length < _; omega)]
      rw [List.append_assoc]
      rfl
end Den

namespace Den
open PySem PySem.Spec L2
def uR (p : Md × List Nat) : List U := p.2.map fun c => (p.1, c)
def us (fr : List (Md × List Nat)) : List U := fr.flatMap uR
theorem filter_true {α : Type} (l : List α) : l.filter (fun _ => true) = l := by simp
theorem lc2_units (x : D) : ∀ fr : List (Md × List Nat), lcL2 (gA 2 (gsCons (gN 1) (gsCons (gN 2) gsNil))) qYes (iA (xVar 2)) (gN 3) qYes (xTup (xCons (xVar 1) (xCons (xVar 3) xNil))) [1, 2, 3] [3] (fr.map encR) [some x, none, none, none] = some ((us fr).map U.d, [some x, none, none, none])
  | [] => rfl
  | p :: fr => by
    have ih := lc2_units x fr
    have e := lcL_ok (g := gN 3) (t := qYes) (f := xTup (xCons (xVar 1) (xCons (xVar 3) xNil))) (vs := [3]) (fun c : Nat => D.str [c]) (fun _ => true) (fun c => U.d (p.1, c)) [some x, some (.str p.1.s), some (.str p.2), none] p.2 (fun c _ => ⟨_, rfl, rfl, fun _ => by simp [U.d, show 2 ≤ cap by decide], rfl⟩)
    rw [filter_true] at e
    rw [List.map_cons, lcL2]
    simp [encR, wipeD, -List.map_map]
    rw [show signs p.2 = p.2.map fun c => D.str [c] from rfl, e]
    simp [wipeD, ih, us, uR]
theorem den_units (fr : List (Md × List Nat)) (h : (us fr).length ≤ cap) : d_units [.lst (fr.map encR)] = some (.v (.lst ((us fr).map U.d)), [.lst (fr.map encR)]) := by
  have e := lc2_units (.lst (fr.map encR)) fr
  have fm : ((us fr).map U.d).map fz = (us fr).map U.d := by
    rw [List.map_map]
    congr 1
  unfold d_units dnOf b_units
  simp [xLc2, wipeD, e, h, -List.map_map, fm]
  simp [argsB]
def lwE (fr : List (Md × List Nat)) (o : List U) (a b c : Option D) : Env := [some (.lst (fr.map encR)), some (.own (o.map U.d)), a, b, c]
def luB : Es := (sExpr (xExt 1 (xFz (xLc (iA (xVar 3)) (gN 4) qYes (xTup (xCons (xVar 2) (xCons (xVar 4) xNil))) [4]))))
theorem lu_st (fr : List (Md × List Nat)) (o : List U) (p : Md × List Nat) (c : Option D) (h : o.length + p.2.length ≤ cap) : luB (lwE fr o (some (.str p.1.s)) (some (.str p.2)) c) = some (.nx (lwE fr (o ++ uR p) (some (.str p.1.s)) (some (.str p.2)) none)) := by
  have e := lcL_ok (g := gN 4) (t := qYes) (f := xTup (xCons (xVar 2) (xCons (xVar 4) xNil))) (vs := [4]) (fun c : Nat => D.str [c]) (fun _ => true) (fun c => U.d (p.1, c)) (lwE fr o (some (.str p.1.s)) (some (.str p.2)) none) p.2 (fun c _ => ⟨_, rfl, rfl, fun _ => by simp [lwE, U.d, show 2 ≤ cap by decide], rfl⟩)
  rw [filter_true] at e
  have fm : (p.2.map fun c => U.d (p.1, c)).map fz = p.2.map fun c => U.d (p.1, c) := by
    rw [List.map_map]
    congr 1
  have h2 : p.2.length ≤ cap := by omega
  unfold lwE at *
  unfold luB
  simp [xExt, xLc, wipeD, -List.map_map]
  rw [show signs p.2 = p.2.map fun c => D.str [c] from rfl, e]
  simp [h, h2, -List.map_map, fm, uR]
  rw [List.map_map]
  rfl
theorem lu_loop (fr0 : List (Md × List Nat)) : ∀ (fr : List (Md × List Nat)) (o : List U) (a b c : Option D), o.length + (us fr).length ≤ cap → ∃ a' b' c', forL (gA 2 (gsCons (gN 2) (gsCons (gN 3) gsNil))) luB (fr.map encR) (lwE fr0 o a b c) = some (.nx (lwE fr0 (o ++ us fr) a' b' c'))
  | [], o, a, b, c, _ => ⟨a, b, c, by simp [forL, us]⟩
  | p :: fr, o, a, b, c, h => by
    have hl : (us (p :: fr)).length = p.2.length + (us fr).length := by simp [us, uR]
    have st := lu_st fr0 o p c (by omega)
    obtain ⟨a', b', c', e⟩ := lu_loop fr0 fr (o ++ uR p) (some (.str p.1.s)) (some (.str p.2)) none (by simp [uR]; omega)
    refine ⟨a', b', c', ?_⟩
    rw [List.map_cons, forL_cons]
    have g1 : gA 2 (gsCons (gN 2) (gsCons (gN 3) gsNil)) (encR p) (lwE fr0 o a b c) = some (lwE fr0 o (some (.str p.1.s)) (some (.str p.2)) c) := rfl
    rw [g1]
    show (luB _).bind _ = _
    rw [st]
    show forL _ _ _ _ = _
    rw [e, List.append_assoc]
    rfl
theorem den_law_units (fr : List (Md × List Nat)) (h : (us fr).length ≤ cap) : d_law_units [.lst (fr.map encR)] = some (.v (.lst ((us fr).map U.d)), [.lst (fr.map encR)]) := by
  obtain ⟨a, b, c, e⟩ := lu_loop fr fr [] none none none (by simpa using h)
  have fm : ((us fr).map U.d).map fz = (us fr).map U.d := by
    rw [List.map_map]
    congr 1
  unfold d_law_units dnOf b_law_units
  unfold lwE at e
  rw [show List.map U.d [] = [] from rfl, List.nil_append] at e
  unfold luB at e
  simp [e, -List.map_map, fm]
  simp [argsB]
end Den

namespace Den
open PySem PySem.Spec L2
theorem den_join (l r : Ok) : d_are_joining [okd l, okd r] = some (.v (.bl (joinO l r)), [okd l, okd r]) := by
  rcases l with _ | l <;> rcases r with _ | r
  · rfl
  · cases r <;> rfl
  · cases l <;> rfl
  · cases l <;> cases r <;> rfl
theorem den_law_join (l r : Kd) : d_law_join [.str l.s, .str r.s] = some (.v (.bl (joinK l r)), [.str l.s, .str r.s]) := by
  cases l <;> cases r <;> rfl
theorem gk_sign {u : U} (h : gk u.k = true) : (u.2 = 32 ↔ u.k = .space) ∧ (u.2 = 10 ↔ u.k = .feed) ∧ ((kd .col u.2 = .mark) ↔ u.k = .mark) := by
  obtain ⟨m, c⟩ := u
  show (c = 32 ↔ kd m c = .space) ∧ (c = 10 ↔ kd m c = .feed) ∧ (kd .col c = .mark ↔ kd m c = .mark)
  have h : gk (kd m c) = true := h
  by_cases h1 : c = 32
  · subst h1
    revert h
    cases m <;> decide
  by_cases h2 : c = 10
  · subst h2
    revert h
    cases m <;> decide
  have e : ∀ m, kd m c = kdS c := fun m => by unfold kd; rw [if_neg h1, if_neg h2]
  rw [e, e]
  have : kdS c ≠ .space ∧ kdS c ≠ .feed := by
    unfold kdS
    constructor <;> (repeat' split) <;> simp
  simp [h1, h2, this]
theorem mem_sign (c : Nat) (k : Kd) : ∀ cur : List U, (∀ u ∈ cur, (u.2 = c ↔ u.k = k)) → ((c ∈ cur.map (·.2) ↔ k ∈ cur.map U.k) ∧ (cur.map (·.2)).idxOf c = (cur.map U.k).idxOf k)
  | [], _ => by simp
  | u :: cur, h => by
    obtain ⟨i1, i2⟩ := mem_sign c k cur fun v hv => h v (List.mem_cons_of_mem _ hv)
    have hu := h u (List.mem_cons_self ..)
    rw [List.map_cons, List.map_cons]
    constructor
    · rw [List.mem_cons, List.mem_cons, i1, eq_comm, hu, eq_comm]
    · rw [List.idxOf_cons, List.idxOf_cons, i2]
      by_cases q : u.2 = c
      · rw [beq_iff_eq.mpr q, beq_iff_eq.mpr (hu.mp q)]
      · rw [beq_eq_false_iff_ne.mpr q, beq_eq_false_iff_ne.mpr (fun z => q (hu.mpr z))]
theorem den_white (l r : Ok) (cur : List U) (hc : ∀ u ∈ cur, gk u.k = true) : d_white [.str (sg cur), okd l, okd r] = some (.v (.int (whiteI l r (cur.map U.k))), [.str (sg cur), okd l, okd r]) := by
  obtain ⟨m1, m2⟩ := mem_sign 32 .space cur fun u hu => (gk_sign (hc u hu)).1
  obtain ⟨n1, n2⟩ := mem_sign 10 .feed cur fun u hu => (gk_sign (hc u hu)).2.1
  have f1 : fnd (sg cur) 32 = if Kd.space ∈ cur.map U.k then (((cur.map U.k).idxOf .space : Nat) : Int) else -1 := by
    unfold fnd sg
    rw [m2]
    exact ite_congr (propext m1) (fun _ => rfl) (fun _ => rfl)
  have f2 : Kd.feed ∈ cur.map U.k → fnd (sg cur) 10 = (((cur.map U.k).idxOf .feed : Nat) : Int) := by
    intro h
    unfold fnd sg
    rw [n2, if_pos (n1.mpr h)]
  have i1 : dNotIn (.str [10]) (.str (sg cur)) = some (.bl (!decide (10 ∈ sg cur))) := rfl
  have i2 : decide (10 ∈ sg cur) = decide (Kd.feed ∈ cur.map U.k) := decide_eq_decide.mpr n1
  rw [i2] at i1
  have el : ∀ o : Ok, dEq (okd o) (.str [101, 110, 100]) = some (.bl (decide (o = some .fin))) := fun o => okd_eq o .fin
  have fd : ∀ c, dFind (.str (sg cur)) [.str [c]] = some (.int (fnd (sg cur) c)) := fun _ => rfl
  have ng : dNeg (.int 1) = some (.int (-1)) := rfl
  have jn := den_join l r
  have el1 := el l
  have el2 := el r
  by_cases h1 : l = some .fin
  · have wv : whiteI l r (cur.map U.k) = -1 := by unfold whiteI; rw [if_pos (.inl h1)]
    rw [decide_eq_true h1] at el1
    rw [wv]
    unfold d_white dnOf b_white
    simp [el1, argsB, ng]
  rw [decide_eq_false h1] at el1
  by_cases h2 : r = some .fin
  · have wv : whiteI l r (cur.map U.k) = -1 := by unfold whiteI; rw [if_pos (.inr h2)]
    rw [decide_eq_true h2] at el2
    rw [wv]
    unfold d_white dnOf b_white
    simp [el1, el2, argsB, ng]
  rw [decide_eq_false h2] at el2
  have hn : ¬ (l = some .fin ∨ r = some .fin) := fun z => z.elim h1 h2
  by_cases h3 : Kd.feed ∈ cur.map U.k
  · have f3 := f2 h3
    rw [decide_eq_true h3] at i1
    by_cases h4 : joinO l r = true
    · have wv : whiteI l r (cur.map U.k) = -1 := by unfold whiteI; rw [if_neg hn, if_pos h3, if_pos h4]
      rw [h4] at jn
      rw [wv]
      unfold d_white dnOf b_white
      simp [el1, el2, i1, jn, argsB, ng, dTruth]
    · have wv : whiteI l r (cur.map U.k) = (((cur.map U.k).idxOf .feed : Nat) : Int) := by unfold whiteI; rw [if_neg hn, if_pos h3, if_neg h4]
      rw [eq_false_of_ne_true h4] at jn
      rw [wv]
      unfold d_white dnOf b_white
      simp [el1, el2, i1, jn, argsB, ng, dTruth, fd, f3]
  · have wv : whiteI l r (cur.map U.k) = fnd (sg cur) 32 := by unfold whiteI; rw [if_neg hn, if_neg h3, f1]
    rw [decide_eq_false h3] at i1
    rw [wv]
    unfold d_white dnOf b_white
    simp [el1, el2, i1, argsB, fd]
/-! ### gaps -/
def Gap.d (g : Gap) : D := .tup [.int (g.s : Nat), .str (sg g.cur), okd g.l, okd g.r]
def sgD (cur : List U) : List D := cur.map fun u => .str [u.2]
def gpB : Es := (sSeq (sSet 8 (xCallV 2 d_kind (xCons (xVar 6) (xCons (xVar 7) xNil))))
  (sIf (xB (xOp dIn (xVar 8) (xC (.tup [(.str [115, 112, 97, 99, 101]), (.str [102, 101, 101, 100]), (.str [109, 97, 114, 107])]))))
  (sExpr (xApp 3 (xVar 7)))
  (sSeq (sExpr (xApp 2 (xTup (xCons (xOp dSub (xVar 5) (xCB dLen (xCons (xVar 3) xNil))) (xCons (xBM "str" dJoin (xC (.str [])) (xCons (xVar 3) xNil)) (xCons (xVar 4) (xCons (xVar 8) xNil)))))))
  (sSeq (sSet 3 (xLst xNil))
  (sSet 4 (xVar 8))))))
theorem gaps_eq : b_gaps = (sSeq (sSet 2 (xLst xNil))
  (sSeq (sSet 3 (xLst xNil))
  (sSeq (sSet 4 (xVar 1))
  (sSeq (sFor (iEA (xCons (xVar 0) xNil)) (gA 2 (gsCons (gN 5) (gsCons (gA 2 (gsCons (gN 6) (gsCons (gN 7) gsNil))) gsNil))) gpB)
  (sSeq (sExpr (xApp 2 (xTup (xCons (xOp dSub (xCB dLen (xCons (xVar 0) xNil)) (xCB dLen (xCons (xVar 3) xNil))) (xCons (xBM "str" dJoin (xC (.str [])) (xCons (xVar 3) xNil)) (xCons (xVar 4) (xCons (xVar 1) xNil)))))))
  (sRet (xFz (xVar 2)))))))) := rfl
def gpE (o : Ok) (all : List U) (F : List Gap) (cur : List U) (l : Ok) (a b c d : Option D) : Env := [some (.lst (all.map U.d)), some (okd o), some (.own (F.map Gap.d)), some (.own (sgD cur)), some (okd l), a, b, c, d]
theorem strs_sg : ∀ cur : List U, strsOf (sgD cur) = some (cur.map fun u => [u.2])
  | [] => rfl
  | u :: cur => by
    have ih := strs_sg cur
    show (strOf (D.str [u.2])).bind (fun s => (strsOf (sgD cur)).map fun ss => s :: ss) = _
    rw [ih]
    rfl
theorem flat_sg : ∀ cur : List U, (cur.map fun u => [u.2]).flatten = sg cur
  | [] => rfl
  | u :: cur => by
    have ih := flat_sg cur
    simp [ih, sg]
theorem join_sg (cur : List U) (h : cur.length ≤ cap) : dJoin (.str []) [.own (sgD cur)] = some (.str (sg cur)) := by
  show (strsOf (sgD cur)).bind (fun ss => if ss.flatten.length ≤ cap then some (D.str ss.flatten) else none) = _
  rw [strs_sg]
  show (if _ then _ else _) = _
  rw [flat_sg, if_pos (by simpa [sg] using h)]
theorem inGap (k : Kd) : dIn (.str k.s) (.tup [(.str [115, 112, 97, 99, 101]), (.str [102, 101, 101, 100]), (.str [109, 97, 114, 107])]) = some (.bl (gk k)) := by
  cases k <;> rfl
theorem sgD_app (cur : List U) (u : U) : sgD cur ++ [.str [u.2]] = sgD (cur ++ [u]) := by simp [sgD]
theorem sgD_len (cur : List U) : (sgD cur).length = cur.length := by simp [sgD]
theorem gp_stA (o : Ok) (all : List U) (F : List Gap) (cur : List U) (l : Ok) (u : U) (i : Int) (d : Option D) (hg : gk u.k = true) (hc : cur.length < cap) : gpB (gpE o all F cur l (some (.int i)) (some (.str u.1.s)) (some (.str [u.2])) d) = some (.nx (gpE o all F (cur ++ [u]) l (some (.int i)) (some (.str u.1.s)) (some (.str [u.2])) (some (.str u.k.s)))) := by
  have e := den_kind u.1 u.2
  rw [show kd u.1 u.2 = u.k from rfl] at e
  unfold gpB gpE
  simp [e, inGap, hg, sgD_len, hc, sgD_app]
theorem gp_stB (o : Ok) (all : List U) (F : List Gap) (cur : List U) (l : Ok) (u : U) (s : Nat) (i : Int) (hi : i - (cur.length : Nat) = (s : Nat)) (d : Option D) (hg : ¬ gk u.k = true) (hc : cur.length ≤ cap) (hF : F.length < cap) : gpB (gpE o all F cur l (some (.int i)) (some (.str u.1.s)) (some (.str [u.2])) d) = some (.nx (gpE o all (F ++ [⟨s, cur, l, some u.k⟩]) [] (some u.k) (some (.int i)) (some (.str u.1.s)) (some (.str [u.2])) (some (.str u.k.s)))) := by
  have e := den_kind u.1 u.2
  rw [show kd u.1 u.2 = u.k from rfl] at e
  have j := join_sg cur hc
  have ln : dLen [.own (sgD cur)] = some (.int (cur.length : Nat)) := by
    show some (D.int ((sgD cur).length : Nat)) = _
    rw [sgD_len]
  unfold gpB gpE
  simp [e, inGap, hg, j, ln, dSub, hi, hF, Gap.d, show ∀ k, okd (some k) = D.str k.s from fun _ => rfl, show (4 : Nat) ≤ cap by decide, show (0 : Nat) ≤ cap by decide]
  rfl
end Den

namespace Den
open PySem PySem.Spec L2
theorem gp_loop (o : Ok) (all : List U) : ∀ (us : List U) (F : List Gap) (s : Nat) (cur : List U) (l : Ok) (a b c d : Option D), F.length + cur.length + us.length < 100000 →
    ∃ F' s' cur' l' a' b' c' d', forL (gA 2 (gsCons (gN 5) (gsCons (gA 2 (gsCons (gN 6) (gsCons (gN 7) gsNil))) gsNil))) gpB (enumL (s + cur.length) (us.map U.d)) (gpE o all F cur l a b c d) = some (.nx (gpE o all F' cur' l' a' b' c' d')) ∧
      F' ++ [⟨s', cur', l', o⟩] = F ++ gp o s cur l us ∧ s' + cur'.length = s + cur.length + us.length ∧ F'.length + cur'.length < 100000
  | [], F, s, cur, l, a, b, c, d, h => ⟨F, s, cur, l, a, b, c, d, rfl, by rw [gp], rfl, h⟩
  | u :: us, F, s, cur, l, a, b, c, d, h => by
    rw [List.length_cons] at h
    have g1 : gA 2 (gsCons (gN 5) (gsCons (gA 2 (gsCons (gN 6) (gsCons (gN 7) gsNil))) gsNil)) (.tup [.int ((s + cur.length : Nat) : Int), u.d]) (gpE o all F cur l a b c d) = some (gpE o all F cur l (some (.int ((s + cur.length : Nat) : Int))) (some (.str u.1.s)) (some (.str [u.2])) d) := rfl
    rw [List.map_cons, enumL, forL_cons, g1]
    show ∃ F' s' cur' l' a' b' c' d', (gpB _).bind _ = _ ∧ _
    rw [gp]
    by_cases hg : gk u.k = true
    · rw [gp_stA o all F cur l u _ d hg (Nat.lt_of_le_of_lt (by omega : cur.length ≤ 100000) (by decide)), if_pos hg]
      have ih := gp_loop o all us F s (cur ++ [u]) l (some (.int ((s + cur.length : Nat) : Int))) (some (.str u.1.s)) (some (.str [u.2])) (some (.str u.k.s)) (by simp <;> omega)
      rw [show s + (cur ++ [u]).length = s + cur.length + 1 by rw [List.length_append]; rfl] at ih
      rw [List.length_cons, show s + cur.length + (us.length + 1) = s + cur.length + 1 + us.length by omega]
      exact ih
    · rw [gp_stB o all F cur l u s _ (by simp <;> omega) d hg (Nat.le_trans (by omega : cur.length ≤ 100000) (by decide)) (Nat.lt_of_le_of_lt (by omega : F.length ≤ 100000) (by decide)), if_neg hg]
      have ih := gp_loop o all us (F ++ [⟨s, cur, l, some u.k⟩]) (s + cur.length + 1) [] (some u.k) (some (.int ((s + cur.length : Nat) : Int))) (some (.str u.1.s)) (some (.str [u.2])) (some (.str u.k.s)) (by simp <;> omega)
      rw [List.append_assoc] at ih
      rw [List.length_cons, show s + cur.length + (us.length + 1) = s + cur.length + 1 + ([] : List U).length + us.length by simp <;> omega]
      exact ih
theorem enum_call {ρ : Env} {ds : List D} (h : gt ρ 0 = some (.lst ds)) : iEA (xCons (xVar 0) xNil) ρ = some (enumL 0 ds, ρ) := by
  refine iEA_l ?_
  show (xVar 0 ρ).bind _ = _
  rw [xVar_eq, h]
  rfl
theorem den_gaps (o : Ok) (us : List U) (h : us.length < 90000) : d_gaps [.lst (us.map U.d), okd o] = some (.v (.lst ((gp o 0 [] o us).map Gap.d)), [.lst (us.map U.d), okd o]) := by
  obtain ⟨F, s, cur, l, a, b, c, d, e, h1, h2, h3⟩ := gp_loop o us us [] 0 [] o none none none none (by simp <;> omega)
  have j := join_sg cur (Nat.le_trans (by omega : cur.length ≤ 100000) (by decide))
  have ln : dLen [.own (sgD cur)] = some (.int (cur.length : Nat)) := by
    show some (D.int ((sgD cur).length : Nat)) = _
    rw [sgD_len]
  have ln2 : dLen [.lst (us.map U.d)] = some (.int (us.length : Nat)) := by
    show some (D.int ((us.map U.d).length : Nat)) = _
    rw [List.length_map]
  have hF : F.length < cap := Nat.lt_of_le_of_lt (by omega : F.length ≤ 100000) (by decide)
  have sub : dSub (.int (us.length : Nat)) (.int (cur.length : Nat)) = some (.int (s : Nat)) := by
    show some (D.int (_ - _)) = _
    simp at h2
    congr 2
    omega
  have fm : ∀ G : List Gap, (G.map Gap.d).map fz = G.map Gap.d := fun G => by
    rw [List.map_map]
    congr 1
  unfold d_gaps dnOf
  rw [gaps_eq]
  have e' := e
  unfold gpE at e'
  rw [show List.map Gap.d [] = [] from rfl, show sgD [] = [] from rfl] at e'
  have en : ∀ ρ : Env, gt ρ 0 = some (.lst (us.map U.d)) → iEA (xCons (xVar 0) xNil) ρ = some (enumL 0 (us.map U.d), ρ) := fun ρ q => enum_call q
  rw [show 0 + ([] : List U).length = 0 from rfl] at e'
  rw [List.nil_append] at h1
  simp [-List.map_map, enum_call (ρ := [some (.lst (us.map U.d)), some (okd o), some (.own []), some (.own []), some (okd o), none, none, none, none]) rfl, show (0 : Nat) ≤ cap by decide, show (4 : Nat) ≤ cap by decide, e', ln, ln2, sub, j, hF]
  rw [fm, show List.map Gap.d F ++ [D.tup [D.int (s : Nat), D.str (sg cur), okd l, okd o]] = (gp o 0 [] o us).map Gap.d by rw [← h1, List.map_append]; rfl]
  simp [-List.map_map, argsB, fm]
/-! ### counting -/
def cn1 : Es := (sIf (qOr (xB (xOp dEq (xVar 8) (xVar 7))) (xB (xOp dEq (xCallV 2 d_kind (xCons (xC (.str [99, 111, 108, 108, 97, 112, 115, 101])) (xCons (xVar 9) xNil))) (xC (.str [109, 97, 114, 107])))))
  (sExpr (xApp 2 (xOp dAdd (xVar 3) (xVar 8))))
  sNil)
def cnB : Es := (sSeq (sSet 7 (xCallV 3 d_white (xCons (xVar 4) (xCons (xVar 5) (xCons (xVar 6) xNil)))))
  (sSeq (sFor (iEA (xCons (xVar 4) xNil)) (gA 2 (gsCons (gN 8) (gsCons (gN 9) gsNil))) cn1)
  (sSeq (sSet 10 (xOp dAdd (xVar 3) (xCB dLen (xCons (xVar 4) xNil))))
  (sIf (xB (xOp dLt (xVar 10) (xCB dLen (xCons (xVar 0) xNil))))
  (sExpr (xApp 2 (xVar 10)))
  sNil))))
theorem cn_eq : b_counting = (sSeq (sSet 2 (xLst xNil))
  (sSeq (sFor (iA (xCallV 2 d_gaps (xCons (xVar 0) (xCons (xVar 1) xNil)))) (gA 4 (gsCons (gN 3) (gsCons (gN 4) (gsCons (gN 5) (gsCons (gN 6) gsNil))))) cnB)
  (sRet (xFz (xVar 2))))) := rfl
def natsD (ks : List Nat) : List D := ks.map iD
def cnE (o : Ok) (all : List U) (ks : List Nat) (g : Gap) (w b c d : Option D) : Env := [some (.lst (all.map U.d)), some (okd o), some (.own (natsD ks)), some (.int (g.s : Nat)), some (.str (sg g.cur)), some (okd g.l), some (okd g.r), w, b, c, d]
/-- the condition of the loop over a gap's signs -/
def cnP (w : Int) (p : U × Nat) : Bool := decide ((p.2 : Int) = w) || decide (p.1.k = .mark)
theorem natsD_app (ks : List Nat) (k : Nat) : natsD ks ++ [.int (k : Nat)] = natsD (ks ++ [k]) := by simp [natsD, iD]
theorem natsD_len (ks : List Nat) : (natsD ks).length = ks.length := by simp [natsD]
theorem cn1_st (o : Ok) (all : List U) (ks : List Nat) (g : Gap) (w : Int) (p : U × Nat) (d : Option D) (hg : gk p.1.k = true) (hk : ks.length < cap) : cn1 (cnE o all ks g (some (.int w)) (some (.int (p.2 : Nat))) (some (.str [p.1.2])) d) = some (.nx (cnE o all (ks ++ if cnP w p then [g.s + p.2] else []) g (some (.int w)) (some (.int (p.2 : Nat))) (some (.str [p.1.2])) d)) := by
  have e := den_kind .col p.1.2
  rw [show Md.col.s = [99, 111, 108, 108, 97, 112, 115, 101] from rfl] at e
  have el : decide ((kd .col p.1.2).s = [109, 97, 114, 107]) = decide (p.1.k = .mark) := by
    rw [decide_eq_decide]
    exact (kd_s_inj (b := .mark)).trans (gk_sign hg).2.2
  have el2 : ((kd .col p.1.2).s = [109, 97, 114, 107]) = (p.1.k = .mark) := propext ((kd_s_inj (b := .mark)).trans (gk_sign hg).2.2)
  have ap := natsD_app ks (g.s + p.2)
  have ad : dAdd (.int (g.s : Nat)) (.int (p.2 : Nat)) = some (.int ((g.s + p.2 : Nat) : Int)) := rfl
  unfold cn1 cnE cnP
  by_cases h1 : (p.2 : Int) = w
  · subst h1
    simp [e, el, el2, ad, natsD_len, hk]
    exact ap
  · by_cases h2 : p.1.k = .mark
    · simp [h1, h2, e, el, el2, ad, natsD_len, hk]
      exact ap
    · simp [h1, h2, e, el, el2]
theorem enumL_zip (f : U → D) : ∀ (l : List U) (n : Nat), enumL n (l.map f) = (l.zipIdx n).map fun p => D.tup [.int (p.2 : Nat), f p.1]
  | [], n => rfl
  | u :: l, n => by
    rw [List.map_cons, enumL, enumL_zip f l, List.zipIdx_cons, List.map_cons]
theorem foldl_app {α β : Type} (f : α → List β) : ∀ (l : List α) (o : List β), l.foldl (fun o a => o ++ f a) o = o ++ l.flatMap f
  | [], o => by simp
  | a :: l, o => by rw [List.foldl_cons, foldl_app f l, List.flatMap_cons, List.append_assoc]
theorem flat_if {α : Type} (p : α → Bool) (f : α → Nat) (l : List α) : (l.flatMap fun a => if p a then [f a] else []) = (l.filter p).map f := by
  induction l with
  | nil => rfl
  | cons a l ih =>
    rw [List.flatMap_cons, ih]
    by_cases h : p a = true
    · rw [if_pos h, List.filter_cons_of_pos h]; rfl
    · rw [if_neg h, List.filter_cons_of_neg h]; rfl
/-- the inner loop gives the gap's own signs -/
theorem ins_zip (g : Gap) : g.ins = ((g.cur.zipIdx).filter (cnP g.w)).map fun p => g.s + p.2 := by
  have e : g.cur.zipIdx g.s = g.cur.zipIdx.map fun p => (p.1, g.s + p.2) := by
    have := List.zipIdx_eq_map_add (l := g.cur) (i := g.s)
    rw [this]
  unfold Gap.ins
  rw [e, List.filter_map, List.map_map]
  congr 1
  refine List.filter_congr fun p hp => ?_
  have hp := zip_mem hp
  show (decide (((g.s + p.2 : Nat) : Int) = g.kept) || _) = _
  unfold cnP
  congr 1
  rw [decide_eq_decide]
  unfold Gap.kept
  split
  · rename_i h
    rw [h]
    omega
  · simp
theorem ins_len (g : Gap) : g.ins.length ≤ g.cur.length := by
  rw [ins_zip, List.length_map]
  exact Nat.le_trans (List.length_filter_le _ _) (by simp)
theorem cn_in (o : Ok) (all : List U) (g : Gap) (w : Int) (d : Option D) : ∀ (ps : List (U × Nat)) (ks : List Nat) (b c : Option D), (∀ p ∈ ps, gk p.1.k = true) → ks.length + ps.length < 500000 →
    ∃ b' c', forL (gA 2 (gsCons (gN 8) (gsCons (gN 9) gsNil))) cn1 (ps.map fun p => D.tup [.int (p.2 : Nat), .str [p.1.2]]) (cnE o all ks g (some (.int w)) b c d) = some (.nx (cnE o all (ks ++ (ps.filter (cnP w)).map fun p => g.s + p.2) g (some (.int w)) b' c' d))
  | [], ks, b, c, _, _ => ⟨b, c, by simp [forL]⟩
  | p :: ps, ks, b, c, hg, hk => by
    rw [List.length_cons] at hk
    have st := cn1_st o all ks g w p d (hg p (List.mem_cons_self ..)) (Nat.lt_of_le_of_lt (by omega : ks.length ≤ 500000) (by decide))
    obtain ⟨b', c', e⟩ := cn_in o all g w d ps (ks ++ if cnP w p then [g.s + p.2] else []) (some (.int (p.2 : Nat))) (some (.str [p.1.2])) (fun q hq => hg q (List.mem_cons_of_mem _ hq)) (by
      rw [List.length_append]
      split
      · rw [List.length_singleton]; omega
      · rw [List.length_nil]; omega)
    refine ⟨b', c', ?_⟩
    have g1 : gA 2 (gsCons (gN 8) (gsCons (gN 9) gsNil)) (.tup [.int (p.2 : Nat), .str [p.1.2]]) (cnE o all ks g (some (.int w)) b c d) = some (cnE o all ks g (some (.int w)) (some (.int (p.2 : Nat))) (some (.str [p.1.2])) d) := rfl
    rw [List.map_cons, forL_cons, g1]
    show (cn1 _).bind _ = _
    rw [st]
    show forL _ _ _ _ = _
    rw [e]
    by_cases h : cnP w p = true
    · rw [if_pos h, List.filter_cons_of_pos h, List.map_cons, List.append_assoc]
      rfl
    · rw [if_neg h, List.filter_cons_of_neg h, List.append_nil]
theorem enum_str {ρ : Env} {t : List Nat} (h : gt ρ 4 = some (.str t)) : iEA (xCons (xVar 4) xNil) ρ = some (enumL 0 (signs t), ρ) := by
  refine iEA_s ?_
  show (xVar 4 ρ).bind _ = _
  rw [xVar_eq, h]
  rfl
theorem cnB_st (o : Ok) (all : List U) (ks : List Nat) (g : Gap) (a b c d : Option D) (hg : ∀ u ∈ g.cur, gk u.k = true) (hk : ks.length + g.cur.length < 400000) : ∃ a' b' c' d', cnB (cnE o all ks g a b c d) = some (.nx (cnE o all (ks ++ g.num all.length) g a' b' c' d')) := by
  have ew := den_white g.l g.r g.cur hg
  have e1 : signs (sg g.cur) = g.cur.map fun u => D.str [u.2] := by
    unfold signs sg
    rw [List.map_map]
    rfl
  obtain ⟨b', c', e⟩ := cn_in o all g g.w d g.cur.zipIdx ks b c (fun p hp => hg _ (zip_mem hp).2.2) (by simp; omega)
  rw [← ins_zip g] at e
  rw [← enumL_zip (fun u => D.str [u.2]), ← e1] at e
  have hs : g.cur.length ≤ cap := Nat.le_trans (by omega : g.cur.length ≤ 400000) (by decide)
  have ln : dLen [.str (sg g.cur)] = some (.int (g.cur.length : Nat)) := by
    show (if _ then _ else _) = _
    rw [if_pos (by simpa [sg] using hs)]
    simp [sg]
  have ln2 : dLen [.lst (all.map U.d)] = some (.int (all.length : Nat)) := by
    show some (D.int ((all.map U.d).length : Nat)) = _
    rw [List.length_map]
  have en := enum_str (ρ := cnE o all ks g (some (.int g.w)) b c d) (t := sg g.cur) rfl
  have il := ins_len g
  have hn : (ks ++ g.ins).length < cap := Nat.lt_of_le_of_lt (by rw [List.length_append]; omega : (ks ++ g.ins).length ≤ 400000) (by decide)
  have ad : dAdd (.int (g.s : Nat)) (.int (g.cur.length : Nat)) = some (.int ((g.s + g.cur.length : Nat) : Int)) := rfl
  have ap := natsD_app (ks ++ g.ins) (g.s + g.cur.length)
  have lt : dLt (.int ((g.s + g.cur.length : Nat) : Int)) (.int (all.length : Nat)) = some (.bl (decide (g.s + g.cur.length < all.length))) := by
    show some (D.bl _) = _
    congr 2
    exact decide_eq_decide.mpr Int.ofNat_lt
  refine ⟨some (.int g.w), b', c', some (.int ((g.s + g.cur.length : Nat) : Int)), ?_⟩
  rw [show Gap.w g = whiteI g.l g.r (g.cur.map U.k) from rfl] at *
  unfold cnB
  unfold cnE at *
  unfold Gap.num
  by_cases h : g.s + g.cur.length < all.length
  · rw [decide_eq_true h] at lt
    rw [if_pos h, ← List.append_assoc, ← ap]
    rw [← natsD_len] at hn
    simp [-Int.natCast_add, -List.length_append, ew, en, e, ln, ln2, ad, lt, hn]
  · rw [decide_eq_false h] at lt
    rw [if_neg h, List.append_nil]
    simp [-Int.natCast_add, ew, en, e, ln, ln2, ad, lt]
end Den

namespace Den
open PySem PySem.Spec L2
theorem gp_gk (o : Ok) : ∀ (us : List U) (s : Nat) (cur : List U) (l : Ok), (∀ u ∈ cur, gk u.k = true) → ∀ g ∈ gp o s cur l us, ∀ u ∈ g.cur, gk u.k = true
  | [], s, cur, l, h, g, hg => by
    rw [gp, List.mem_singleton] at hg
    subst hg
    exact h
  | v :: us, s, cur, l, h, g, hg => by
    rw [gp] at hg
    split at hg
    · rename_i hv
      exact gp_gk o us s _ l (fun u hu => by
        rcases List.mem_append.mp hu with hu | hu
        · exact h u hu
        · rw [List.mem_singleton.mp hu]; exact hv) g hg
    · rcases List.mem_cons.mp hg with rfl | hg
      · exact h
      · exact gp_gk o us _ [] _ (fun u hu => by cases hu) g hg
def tot (G : List Gap) : Nat := (G.map fun g => g.cur.length + 1).sum
theorem gp_tot (o : Ok) : ∀ (us : List U) (s : Nat) (cur : List U) (l : Ok), tot (gp o s cur l us) = cur.length + us.length + 1
  | [], s, cur, l => by simp [gp, tot]
  | v :: us, s, cur, l => by
    rw [gp]
    split
    · rw [gp_tot o us]
      simp
      omega
    · have := gp_tot o us (s + cur.length + 1) [] (some v.k)
      unfold tot at *
      rw [List.map_cons, List.sum_cons, this]
      simp
      omega
theorem num_len (n : Nat) (g : Gap) : (g.num n).length ≤ g.cur.length + 1 := by
  have := ins_len g
  unfold Gap.num
  rw [List.length_append]
  split
  · rw [List.length_singleton]; omega
  · rw [List.length_nil]; omega
def srcs (o : Ok) (us : List U) : List Nat := (gp o 0 [] o us).flatMap (Gap.num us.length)
def keptL (o : Ok) (us : List U) : List Int := (gp o 0 [] o us).map Gap.kept
theorem srcs_eq (o : Ok) (us : List U) : srcs o us = ((us.zipIdx).filter (sv (keptL o us))).map (·.2) := by
  have := src_eq o us 0 [] o [] (fun u hu => by cases hu) (fun e he => by cases he)
  rw [List.nil_append, List.nil_append] at this
  unfold srcs keptL
  rw [this]
  simp
theorem srcs_lt {o : Ok} {us : List U} {k : Nat} (h : k ∈ srcs o us) : k < us.length := by
  rw [srcs_eq] at h
  obtain ⟨p, hp, rfl⟩ := List.mem_map.mp h
  have := (zip_mem (List.mem_filter.mp hp).1).2.1
  omega
theorem srcs_len (o : Ok) (us : List U) : (srcs o us).length ≤ us.length := by
  rw [srcs_eq, List.length_map]
  exact Nat.le_trans (List.length_filter_le _ _) (by simp)
def cE0 (o : Ok) (all : List U) (ks : List Nat) (a1 a2 a3 a4 a b c d : Option D) : Env := [some (.lst (all.map U.d)), some (okd o), some (.own (natsD ks)), a1, a2, a3, a4, a, b, c, d]
theorem cnt_loop (o : Ok) (all : List U) : ∀ (G : List Gap) (ks : List Nat) (a1 a2 a3 a4 a b c d : Option D), (∀ g ∈ G, ∀ u ∈ g.cur, gk u.k = true) → ks.length + tot G < 400000 →
    ∃ y1 y2 y3 y4 a' b' c' d', forL (gA 4 (gsCons (gN 3) (gsCons (gN 4) (gsCons (gN 5) (gsCons (gN 6) gsNil))))) cnB (G.map Gap.d) (cE0 o all ks a1 a2 a3 a4 a b c d) = some (.nx (cE0 o all (ks ++ G.flatMap (Gap.num all.length)) y1 y2 y3 y4 a' b' c' d'))
  | [], ks, a1, a2, a3, a4, a, b, c, d, _, _ => ⟨a1, a2, a3, a4, a, b, c, d, by simp [forL]⟩
  | g :: G, ks, a1, a2, a3, a4, a, b, c, d, hg, hk => by
    have ht : tot (g :: G) = g.cur.length + 1 + tot G := rfl
    obtain ⟨a', b', c', d', st⟩ := cnB_st o all ks g a b c d (hg g (List.mem_cons_self ..)) (by omega)
    have nl := num_len all.length g
    obtain ⟨x1, x2, x3, x4, x5, x6, x7, x8, e⟩ := cnt_loop o all G (ks ++ g.num all.length) (some (.int (g.s : Nat))) (some (.str (sg g.cur))) (some (okd g.l)) (some (okd g.r)) a' b' c' d' (fun h hh => hg h (List.mem_cons_of_mem _ hh)) (by rw [List.length_append]; omega)
    refine ⟨x1, x2, x3, x4, x5, x6, x7, x8, ?_⟩
    have g1 : gA 4 (gsCons (gN 3) (gsCons (gN 4) (gsCons (gN 5) (gsCons (gN 6) gsNil)))) g.d (cE0 o all ks a1 a2 a3 a4 a b c d) = some (cnE o all ks g a b c d) := rfl
    rw [List.map_cons, forL_cons, g1]
    show (cnB _).bind _ = _
    rw [st, List.flatMap_cons, ← List.append_assoc]
    exact e
theorem fz_nats (ks : List Nat) : (natsD ks).map fz = natsD ks := by
  unfold natsD
  rw [List.map_map]
  congr 1
theorem den_counting (o : Ok) (us : List U) (h : us.length < 90000) : d_counting [.lst (us.map U.d), okd o] = some (.v (.lst (natsD (srcs o us))), [.lst (us.map U.d), okd o]) := by
  have eg := den_gaps o us h
  have tt := gp_tot o us 0 [] o
  simp at tt
  obtain ⟨a1, a2, a3, a4, a, b, c, d, e⟩ := cnt_loop o us (gp o 0 [] o us) [] none none none none none none none none (gp_gk o us 0 [] o (fun u hu => by cases hu)) (by simp; omega)
  unfold cE0 at e
  rw [show natsD [] = [] from rfl, List.nil_append, show List.flatMap (Gap.num us.length) (gp o 0 [] o us) = srcs o us from rfl] at e
  unfold d_counting dnOf
  rw [cn_eq]
  simp [-List.map_map, eg, e, fz_nats, show (0 : Nat) ≤ cap by decide]
  simp [argsB]
theorem den_shsign (u : U) : d_shown_sign [.str u.1.s, .str [u.2]] = some (.v (.str [shC u]), [.str u.1.s, .str [u.2]]) := by
  have e := den_kind u.1 u.2
  rw [show kd u.1 u.2 = u.k from rfl] at e
  have el : (u.k.s = [101, 110, 100]) = (u.k = .fin) := propext (kd_s_inj (b := .fin))
  have el2 : (u.k.s = [102, 101, 101, 100]) = (u.k = .feed) := propext (kd_s_inj (b := .feed))
  unfold d_shown_sign dnOf b_shown_sign shC
  by_cases h1 : u.k = .fin
  · simp [e, el, el2, h1, argsB, show Kd.fin.s = [101, 110, 100] from rfl]
  · by_cases h2 : u.k = .feed
    · simp [e, el, el2, h1, h2, argsB, show Kd.feed.s = [102, 101, 101, 100] from rfl]
    · simp [e, el, el2, h1, h2, argsB]
def atU (us : List U) (k : Nat) : U := us.getD k (.col, 0)
theorem dIx_U {us : List U} {k : Nat} (h : k < us.length) : dIx (.lst (us.map U.d)) (iD k) = some (atU us k).d := by
  show atI (us.map U.d) (k : Nat) = _
  rw [atI_map]
  unfold atI ixN atU
  simp [h]
theorem strs_map {α : Type} (f : α → Nat) : ∀ l : List α, strsOf (l.map fun a => .str [f a]) = some (l.map fun a => [f a])
  | [] => rfl
  | a :: l => by
    have ih := strs_map f l
    show (strOf (D.str [f a])).bind (fun s => (strsOf (l.map fun a => D.str [f a])).map fun ss => s :: ss) = _
    rw [ih]
    rfl
theorem flat_map1 {α : Type} (f : α → Nat) : ∀ l : List α, (l.map fun a => [f a]).flatten = l.map f
  | [] => rfl
  | a :: l => by rw [List.map_cons, List.flatten_cons, flat_map1 f l]; rfl
theorem join_map {α : Type} (f : α → Nat) (l : List α) (h : l.length ≤ cap) : dJoin (.str []) [.lst (l.map fun a => .str [f a])] = some (.str (l.map f)) := by
  show (strsOf (l.map fun a => .str [f a])).bind (fun ss => if ss.flatten.length ≤ cap then some (D.str ss.flatten) else none) = _
  rw [strs_map]
  show (if _ then _ else _) = _
  rw [flat_map1, if_pos (by simpa using h)]
def txt (us : List U) : List Nat := (srcs (some .fin) us).map fun k => shC (atU us k)
theorem den_shown (fr : List (Md × List Nat)) (h : (us fr).length < 90000) : d_shown [.lst (fr.map encR)] = some (.v (.tup [.str (txt (us fr)), .lst (natsD (srcs (some .fin) (us fr)))]), [.lst (fr.map encR)]) := by
  have h' : (us fr).length ≤ cap := Nat.le_trans (by omega : (us fr).length ≤ 90000) (by decide)
  have sl := srcs_len (some .fin) (us fr)
  have e1 := den_units fr h'
  have e2 := den_counting (some .fin) (us fr) h
  rw [show okd (some .fin) = .str [101, 110, 100] from rfl] at e2
  let x0 : Option D := some (.lst (fr.map encR))
  let x1 : Option D := some (.lst ((us fr).map U.d))
  let x2 : Option D := some (.lst (natsD (srcs (some .fin) (us fr))))
  have e3 := lcL_ok (g := gN 4) (t := qYes) (f := xOp dIx (xVar 1) (xVar 4)) (vs := [4]) iD (fun _ => true) (fun k => (atU (us fr) k).d) [x0, x1, x2, none, none, none, none] (srcs (some .fin) (us fr)) (fun k hk => ⟨_, rfl, rfl, fun _ => by
    have := dIx_U (srcs_lt hk)
    rw [xOp_eq]
    show (dIx (.lst ((us fr).map U.d)) (iD k)).map _ = _
    rw [this]
    rfl, rfl⟩)
  rw [filter_true] at e3
  have e4 := lcL_ok (g := gA 2 (gsCons (gN 5) (gsCons (gN 6) gsNil))) (t := qYes) (f := xCallV 2 d_shown_sign (xCons (xVar 5) (xCons (xVar 6) xNil))) (vs := [5, 6]) (fun k => (atU (us fr) k).d) (fun _ => true) (fun k => D.str [shC (atU (us fr) k)]) [x0, x1, x2, some (.lst ((srcs (some .fin) (us fr)).map fun k => (atU (us fr) k).d)), none, none, none] (srcs (some .fin) (us fr)) (fun k hk => ⟨_, rfl, rfl, fun _ => by
    have := den_shsign (atU (us fr) k)
    simp [this], rfl⟩)
  rw [filter_true] at e4
  have f1 : ((srcs (some .fin) (us fr)).map fun k => (atU (us fr) k).d).map fz = (srcs (some .fin) (us fr)).map fun k => (atU (us fr) k).d := by
    rw [List.map_map]
    congr 1
  have f2 : ((srcs (some .fin) (us fr)).map fun k => D.str [shC (atU (us fr) k)]).map fz = (srcs (some .fin) (us fr)).map fun k => D.str [shC (atU (us fr) k)] := by
    rw [List.map_map]
    congr 1
  have j := join_map (fun k => shC (atU (us fr) k)) (srcs (some .fin) (us fr)) (by omega)
  have sc : (srcs (some .fin) (us fr)).length ≤ cap := by omega
  unfold d_shown dnOf b_shown
  simp only [x0, x1, x2, natsD] at e3 e4
  simp [-List.map_map, e1, e2, xLc, wipeD, natsD, e3, e4, f1, f2, j, sc, show (2 : Nat) ≤ cap by decide]
  simp [argsB, txt]
end Den

namespace Den
open PySem PySem.Spec L2
def ixs (s : Nat) (cur : List U) : List Nat := List.range' s cur.length
def lgD (ks : List Nat) (l r : D) : D := .own [.own (natsD ks), l, r]
def gpD : Nat → List U → D → List U → List D
  | s, cur, l, [] => [lgD (ixs s cur) l .non]
  | s, cur, l, u :: us => if gk u.k then gpD s (cur ++ [u]) l us else lgD (ixs s cur) l (.str u.k.s) :: gpD (s + cur.length + 1) [] (.str u.k.s) us
theorem ix_last (n : Nat) : ixN (n + 1) (-1) = some n := by
  unfold ixN
  simp
  omega
theorem l_last {ρ : Env} {done xs : List D} (h : gt ρ 2 = some (.own (done ++ [.own xs]))) : lIx (lV 2) (kC (-1)) ρ = some (2, [done.length]) := by
  have l : lV 2 ρ = some (2, []) := by rw [lV_eq, h]; rfl
  unfold lIx
  rw [l]
  simp [kC, -gt_eq, h, getP, ix_last]
theorem l_last0 {ρ : Env} {done xs ks : List D} (h : gt ρ 2 = some (.own (done ++ [.own (.own ks :: xs)]))) : lIx (lIx (lV 2) (kC (-1))) (kC 0) ρ = some (2, [done.length, 0]) := by
  have l := l_last h
  unfold lIx at l ⊢
  rw [l]
  have e : ixN (xs.length + 1) 0 = some 0 := by unfold ixN; simp
  simp [kC, -gt_eq, h, getP, e]
def lgB : Es := (sIf (xB (xOp dIn (xOp dIx (xVar 1) (xVar 3)) (xTup (xCons (xC (.str [115, 112, 97, 99, 101])) (xCons (xC (.str [102, 101, 101, 100])) (xCons (xC (.str [109, 97, 114, 107])) xNil))))))
  (sExpr (xAppP (lIx (lIx (lV 2) (kC (-1))) (kC 0)) (pV 3)))
  (sSeq (sSto (xOp dIx (xVar 1) (xVar 3)) (lIx (lV 2) (kC (-1))) (kC 2))
  (sExpr (xApp 2 (xLst (xCons (xLst xNil) (xCons (xOp dIx (xVar 1) (xVar 3)) (xCons (xC .non) xNil))))))))
theorem lg_eq : b_law_gaps = (sSeq (sSet 1 (xFz (xLc (iA (xVar 0)) (gN 4) qYes (xCallV 1 d_law_kind (xCons (xVar 4) xNil)) [4])))
  (sSeq (sSet 2 (xLst (xCons (xLst (xCons (xLst xNil) (xCons (xC .non) (xCons (xC .non) xNil)))) xNil)))
  (sSeq (sFor (iR1 (xCons (xCB dLen (xCons (xVar 0) xNil)) xNil)) (gN 3) lgB)
  (sRet (xMv 2))))) := rfl
def ksD (us : List U) : List D := us.map fun u => .str u.k.s
def lgE (all : List U) (gs : List D) (a : Option D) : Env := [some (.lst (all.map U.d)), some (.lst (ksD all)), some (.own gs), a, none]
theorem ksD_ix {all : List U} {k : Nat} {u : U} (h : all[k]? = some u) : dIx (.lst (ksD all)) (.int (k : Nat)) = some (.str u.k.s) := by
  show atI (all.map fun u => D.str u.k.s) (k : Nat) = _
  rw [atI_map]
  obtain ⟨hk, e⟩ := List.getElem?_eq_some_iff.mp h
  unfold atI ixN
  simp [hk, e]
theorem lg_stA {all : List U} {done : List D} {s : Nat} {cur : List U} {l : D} {u : U} (h : all[s + cur.length]? = some u) (hg : gk u.k = true) (hl : cur.length < cap) :
    lgB (lgE all (done ++ [lgD (ixs s cur) l .non]) (some (iD (s + cur.length)))) = some (.nx (lgE all (done ++ [lgD (ixs s (cur ++ [u])) l .non]) (some (iD (s + cur.length))))) := by
  have ix := ksD_ix h
  have l0 := l_last0 (ρ := lgE all (done ++ [lgD (ixs s cur) l .non]) (some (iD (s + cur.length)))) (done := done) (ks := natsD (ixs s cur)) (xs := [l, .non]) rfl
  have hi : (natsD (ixs s cur)).length < cap := by simpa [natsD, ixs] using hl
  have ap : natsD (ixs s cur) ++ [iD (s + cur.length)] = natsD (ixs s (cur ++ [u])) := by
    unfold natsD ixs
    rw [List.length_append, List.length_singleton, List.range'_1_concat, List.map_append]
    rfl
  unfold lgB
  unfold lgE lgD at l0 ⊢
  rw [show D.int ((s + cur.length : Nat) : Int) = iD (s + cur.length) from rfl] at ix
  have g := inGap u.k
  simp [ix, show (3 : Nat) ≤ cap by decide, g, hg, xAppP, l0, pV, show (iD (s + cur.length)).flat = true from rfl, getP, hi, setP, ap]
theorem lg_stB {all : List U} {done : List D} {s : Nat} {cur : List U} {l : D} {u : U} (h : all[s + cur.length]? = some u) (hg : ¬ gk u.k = true) (hl : done.length + 1 < cap) :
    lgB (lgE all (done ++ [lgD (ixs s cur) l .non]) (some (iD (s + cur.length)))) = some (.nx (lgE all ((done ++ [lgD (ixs s cur) l (.str u.k.s)]) ++ [lgD (ixs (s + cur.length + 1) []) (.str u.k.s) .non]) (some (iD (s + cur.length))))) := by
  have ix := ksD_ix h
  have l0 := l_last (ρ := lgE all (done ++ [lgD (ixs s cur) l .non]) (some (iD (s + cur.length)))) (done := done) (xs := [.own (natsD (ixs s cur)), l, .non]) rfl
  unfold lgB
  unfold lgE lgD at l0 ⊢
  rw [show D.int ((s + cur.length : Nat) : Int) = iD (s + cur.length) from rfl] at ix
  have g := inGap u.k
  have i2 : ixN 3 2 = some 2 := rfl
  simp [ix, show (3 : Nat) ≤ cap by decide, show (0 : Nat) ≤ cap by decide, show (iD (s + cur.length)).flat = true from rfl, g, hg, sSto, kC, l0, getP, setP, i2, hl]
  rfl
end Den

namespace Den
open PySem PySem.Spec L2
theorem lg_loop (all : List U) : ∀ (us : List U) (done : List D) (s : Nat) (cur : List U) (l : D) (a : Option D), (∀ j, all[s + cur.length + j]? = us[j]?) → done.length + cur.length + us.length < 100000 →
    ∃ a', forL (gN 3) lgB ((List.range' (s + cur.length) us.length).map iD) (lgE all (done ++ [lgD (ixs s cur) l .non]) a) = some (.nx (lgE all (done ++ gpD s cur l us) a'))
  | [], done, s, cur, l, a, _, _ => ⟨a, by simp [forL, gpD]⟩
  | u :: us, done, s, cur, l, a, hx, hk => by
    rw [List.length_cons] at hk
    have h0 : all[s + cur.length]? = some u := by
      have := hx 0
      simpa using this
    rw [List.length_cons, List.range'_succ, List.map_cons, forL_cons]
    have g1 : ∀ gs, gN 3 (iD (s + cur.length)) (lgE all gs a) = some (lgE all gs (some (iD (s + cur.length)))) := fun _ => rfl
    rw [g1]
    show ∃ a', (lgB _).bind _ = _
    rw [gpD]
    by_cases hg : gk u.k = true
    · rw [lg_stA h0 hg (Nat.lt_of_le_of_lt (by omega : cur.length ≤ 100000) (by decide)), if_pos hg]
      have el : s + (cur ++ [u]).length = s + cur.length + 1 := by rw [List.length_append]; rfl
      have ih := lg_loop all us done s (cur ++ [u]) l (some (iD (s + cur.length))) (fun j => by
        rw [el]
        have := hx (j + 1)
        rw [List.getElem?_cons_succ] at this
        rw [← this]
        congr 1
        omega) (by rw [List.length_append, List.length_singleton]; omega)
      rw [el] at ih
      exact ih
    · rw [lg_stB h0 hg (Nat.lt_of_le_of_lt (by omega : done.length + 1 ≤ 100000) (by decide)), if_neg hg]
      have ih := lg_loop all us (done ++ [lgD (ixs s cur) l (.str u.k.s)]) (s + cur.length + 1) [] (.str u.k.s) (some (iD (s + cur.length))) (fun j => by
        have := hx (j + 1)
        rw [List.getElem?_cons_succ] at this
        rw [← this]
        congr 1
        simp
        omega) (by rw [List.length_append, List.length_singleton, List.length_nil]; omega)
      rw [List.append_assoc done [lgD (ixs s cur) l (.str u.k.s)] (gpD _ _ _ _)] at ih
      exact ih
theorem iR1_of {g : Ea} {ρ : Env} {z : Int} (h : g ρ = some ([.v (.int z)], ρ)) (hs : small z = true) : iR1 g ρ = some (rng 0 z.toNat, ρ) := by
  rw [iR1_eq, h]
  rw [Option.bind_some, r1K_v, if_pos hs]
theorem iR1_len {ρ : Env} {ds : List D} (h : gt ρ 0 = some (.lst ds)) (hl : ds.length < 90000) : iR1 (xCons (xCB dLen (xCons (xVar 0) xNil)) xNil) ρ = some (rng 0 ds.length, ρ) := by
  have e : (xCons (xCB dLen (xCons (xVar 0) xNil)) xNil) ρ = some ([.v (.int (ds.length : Nat))], ρ) := by
    have : xVar 0 ρ = some (.v (.lst ds), ρ) := by rw [xVar_eq, h]; rfl
    rw [xCons_eq, xCB_eq, xCons_eq, this]
    rfl
  rw [iR1_of e (small_nat _ hl)]
  rfl
theorem den_law_gaps (us : List U) (h : us.length < 90000) : d_law_gaps [.lst (us.map U.d)] = some (.own (.own (gpD 0 [] .non us)), [.lst (us.map U.d)]) := by
  obtain ⟨a, e⟩ := lg_loop us us [] 0 [] .non none (fun j => by simp) (by simp; omega)
  rw [List.nil_append, List.nil_append] at e
  rw [show 0 + ([] : List U).length = 0 from rfl, ← List.range_eq_range', ← rng0] at e
  have e3 := lcL_ok (g := gN 4) (t := qYes) (f := xCallV 1 d_law_kind (xCons (xVar 4) xNil)) (vs := [4]) U.d (fun _ => true) (fun u => D.str u.k.s) [some (.lst (us.map U.d)), none, none, none, none] us (fun u hu => ⟨_, rfl, rfl, fun _ => by
    have := den_law_kind u
    simp [this, show U.d u = .tup [.str u.1.s, .str [u.2]] from rfl]
    rw [show D.tup [.str u.1.s, .str [u.2]] = U.d u from rfl, this]
    exact ⟨_, rfl⟩, rfl⟩)
  rw [filter_true] at e3
  have f1 : (us.map fun u => D.str u.k.s).map fz = us.map fun u => D.str u.k.s := by
    rw [List.map_map]
    congr 1
  have ln2 : dLen [.lst (us.map U.d)] = some (.int (us.length : Nat)) := by
    show some (D.int ((us.map U.d).length : Nat)) = _
    rw [List.length_map]
  have hl : us.length ≤ cap := Nat.le_trans (by omega : us.length ≤ 90000) (by decide)
  unfold lgE lgD ksD at e
  rw [show natsD (ixs 0 []) = [] from rfl] at e
  unfold d_law_gaps dnOf
  rw [lg_eq]
  have hr := iR1_len (ρ := [some (.lst (us.map U.d)), some (.lst (us.map fun u => D.str u.k.s)), some (.own [.own [.own [], .non, .non]]), none, none]) (ds := us.map U.d) rfl (by rw [List.length_map]; exact h)
  rw [List.length_map] at hr
  have hS : sFor (iR1 (xCons (xCB dLen (xCons (xVar 0) xNil)) xNil)) (gN 3) lgB [some (.lst (us.map U.d)), some (.lst (us.map fun u => D.str u.k.s)), some (.own [.own [.own [], .non, .non]]), none, none] = some (.nx [some (.lst (us.map U.d)), some (.lst (us.map fun u => D.str u.k.s)), some (.own (gpD 0 [] .non us)), a, none]) := by
    rw [sFor_eq, hr, Option.bind_some]
    exact e
  clear hr e
  generalize sFor (iR1 (xCons (xCB dLen (xCons (xVar 0) xNil)) xNil)) (gN 3) lgB = S at hS ⊢
  have k1 : sSet 1 (xFz (xLc (iA (xVar 0)) (gN 4) qYes (xCallV 1 d_law_kind (xCons (xVar 4) xNil)) [4])) [some (.lst (us.map U.d)), none, none, none, none] = some (.nx [some (.lst (us.map U.d)), some (.lst (us.map fun u => D.str u.k.s)), none, none, none]) := by
    simp [-List.map_map, xLc, wipeD, e3, f1, hl]
  have k2 : ∀ x, sSet 2 (xLst (xCons (xLst (xCons (xLst xNil) (xCons (xC .non) (xCons (xC .non) xNil)))) xNil)) [some (.lst (us.map U.d)), x, none, none, none] = some (.nx [some (.lst (us.map U.d)), x, some (.own [.own [.own [], .non, .non]]), none, none]) := by
    intro x
    rfl
  show ((sSeq _ _ [some (.lst (us.map U.d)), none, none, none, none]).bind _) = _
  rw [sSeq_eq, k1, Option.bind_some, sqK_nx, sSeq_eq, k2, Option.bind_some, sqK_nx, sSeq_eq, hS, Option.bind_some, sqK_nx, sRet_eq]
  rfl
end Den

namespace Den
open PySem PySem.Spec L2
def gfz (g : Gap) : D := .lst [.lst (natsD (ixs g.s g.cur)), okd g.l, okd g.r]
theorem isSc_ks (cur : List U) : (ksD cur).all isSc = true := by
  unfold ksD
  rw [List.all_map]
  exact List.all_eq_true.mpr fun u _ => rfl
theorem any_ks (k : Kd) : ∀ cur : List U, (ksD cur).any (fun z => scEq z (.str k.s)) = decide (k ∈ cur.map U.k)
  | [] => rfl
  | u :: cur => by
    have ih := any_ks k cur
    show (scEq (.str u.k.s) (.str k.s) || (ksD cur).any fun z => scEq z (.str k.s)) = _
    rw [ih, List.map_cons]
    rw [show scEq (.str u.k.s) (.str k.s) = decide (u.k = k) by
      show (u.k.s == k.s) = _
      rw [Bool.eq_iff_iff, beq_iff_eq, decide_eq_true_eq, kd_s_inj]]
    rw [Bool.eq_iff_iff]
    simp
    constructor
    · rintro (h | h)
      · exact .inl h.symm
      · exact .inr h
    · rintro (h | h)
      · exact .inl h.symm
      · exact .inr h
theorem in_ks (k : Kd) (cur : List U) : dIn (.str k.s) (.lst (ksD cur)) = some (.bl (decide (k ∈ cur.map U.k))) := by
  have : bIn (.str k.s) (.lst (ksD cur)) = some ((ksD cur).any fun z => scEq z (.str k.s)) := by
    cases k <;> exact if_pos (by rw [isSc_ks]; rfl)
  show (bIn _ _).map D.bl = _
  rw [this, any_ks]
  rfl
theorem find_ks (k : Kd) : ∀ cur : List U, k ∈ cur.map U.k → (ksD cur).findIdx? (fun z => scEq z (.str k.s)) = some ((cur.map U.k).idxOf k)
  | [], h => by cases h
  | u :: cur, h => by
    show List.findIdx? _ (D.str u.k.s :: ksD cur) = _
    rw [List.findIdx?_cons, List.map_cons, List.idxOf_cons]
    rw [show scEq (.str u.k.s) (.str k.s) = (u.k == k) by
      show (u.k.s == k.s) = _
      rw [Bool.eq_iff_iff, beq_iff_eq, beq_iff_eq, kd_s_inj]]
    by_cases q : u.k = k
    · rw [beq_iff_eq.mpr q]; rfl
    · rw [beq_eq_false_iff_ne.mpr q]
      rw [List.map_cons, List.mem_cons] at h
      have := find_ks k cur (h.resolve_left fun z => q z.symm)
      rw [this]
      rfl
theorem idx_ks (k : Kd) (cur : List U) (h : k ∈ cur.map U.k) : dIndex (.lst (ksD cur)) [.str k.s] = some (.int ((cur.map U.k).idxOf k : Nat)) := by
  show (if isSc (.str k.s) && (ksD cur).all isSc then (idxSc (ksD cur) (.str k.s)).map fun j => D.int (j : Nat) else none) = _
  rw [isSc_ks, if_pos (by rfl)]
  unfold idxSc
  rw [find_ks k cur h]
  rfl
theorem ixs_at (s : Nat) (cur : List U) (j : Nat) (h : j < cur.length) : dIx (.lst (natsD (ixs s cur))) (.int (j : Nat)) = some (.int ((s + j : Nat) : Int)) := by
  show atI ((ixs s cur).map iD) (j : Nat) = _
  rw [atI_map]
  unfold atI ixN ixs
  simp [h, iD]
theorem den_kept (all : List U) (g : Gap) (hx : ∀ j, j < g.cur.length → all[g.s + j]? = g.cur[j]?) (hc : g.cur.length ≤ cap) : d_law_kept [.lst (all.map U.d), gfz g] = some (.v (.int g.kept), [.lst (all.map U.d), gfz g]) := by
  have i0 : dIx (gfz g) (.int 0) = some (.lst (natsD (ixs g.s g.cur))) := rfl
  have i1 : dIx (gfz g) (.int 1) = some (okd g.l) := rfl
  have i2 : dIx (gfz g) (.int 2) = some (okd g.r) := rfl
  have fl : (gfz g).flat = true := rfl
  have gk0 : ∀ k ∈ ixs g.s g.cur, ∃ u, all[k]? = some u ∧ u ∈ g.cur := fun k hk => by
    unfold ixs at hk
    rw [List.mem_range'_1] at hk
    obtain ⟨j, rfl⟩ := Nat.exists_eq_add_of_le hk.1
    have hj : j < g.cur.length := by omega
    exact ⟨g.cur[j], by rw [hx j hj, List.getElem?_eq_getElem hj], List.getElem_mem hj⟩
  have e := lcL_ok (g := gN 3) (t := qYes) (f := xCallV 1 d_law_kind (xCons (xOp dIx (xVar 0) (xVar 3)) xNil)) (vs := [3]) iD (fun _ => true) (fun k => D.str (atU all k).k.s) [some (.lst (all.map U.d)), some (gfz g), none, none] (ixs g.s g.cur) (fun k hk => ⟨_, rfl, rfl, fun _ => by
    obtain ⟨u, h1, _⟩ := gk0 k hk
    have hk : k < all.length := (List.getElem?_eq_some_iff.mp h1).1
    have := dIx_U hk
    have d := den_law_kind (atU all k)
    have fl2 : (iD k).flat = true := rfl
    simp [this, d, fl2], rfl⟩)
  rw [filter_true] at e
  have ek : ((ixs g.s g.cur).map fun k => D.str (atU all k).k.s) = ksD g.cur := by
    unfold ksD ixs
    refine List.ext_getElem? fun j => ?_
    rw [List.getElem?_map, List.getElem?_map]
    by_cases hj : j < g.cur.length
    · have h1 := hx j hj
      rw [List.getElem?_range' hj, List.getElem?_eq_getElem hj] 
      rw [List.getElem?_eq_getElem hj] at h1
      simp [atU, h1]
    · rw [List.getElem?_eq_none (by simpa using hj), List.getElem?_eq_none (by simpa using hj)]
      rfl
  rw [ek] at e
  have f1 : (ksD g.cur).map fz = ksD g.cur := by
    unfold ksD
    rw [List.map_map]
    congr 1
  have hl : (ksD g.cur).length ≤ cap := by simpa [ksD] using hc
  have k1 : sSet 2 (xFz (xLc (iA (xOp dIx (xVar 1) (xC (.int 0)))) (gN 3) qYes (xCallV 1 d_law_kind (xCons (xOp dIx (xVar 0) (xVar 3)) xNil)) [3])) [some (.lst (all.map U.d)), some (gfz g), none, none] = some (.nx [some (.lst (all.map U.d)), some (gfz g), some (.lst (ksD g.cur)), none]) := by
    rw [natsD] at i0
    simp [-List.map_map, xLc, wipeD, fl, i0, e, f1, hl]
  have nf := in_ks .feed g.cur
  have ns := in_ks .space g.cur
  have xf := idx_ks .feed g.cur
  have xs := idx_ks .space g.cur
  rw [show Kd.feed.s = [102, 101, 101, 100] from rfl] at nf xf
  rw [show Kd.space.s = [115, 112, 97, 99, 101] from rfl] at ns xs
  have ng : dNeg (.int 1) = some (.int (-1)) := rfl
  have el1 := okd_eq g.l .fin
  have el2 := okd_eq g.r .fin
  rw [show Kd.fin.s = [101, 110, 100] from rfl] at el1 el2
  have n1 := okd_isnot g.l
  have n2 := okd_isnot g.r
  have ab : ∀ x y, argsB W_law_kept [some (.lst (all.map U.d)), some (gfz g), x, y] 0 [.lst (all.map U.d), gfz g] = some [.lst (all.map U.d), gfz g] := fun _ _ => rfl
  have fin1 : ∀ w : Int, g.w = w → w = -1 → g.kept = -1 := fun w h1 h2 => by unfold Gap.kept; rw [if_pos (h1.trans h2)]
  have fin2 : ∀ j : Nat, g.w = (j : Int) → g.kept = ((g.s + j : Nat) : Int) := fun j h1 => by
    unfold Gap.kept
    rw [if_neg (by omega), h1]
    simp
  unfold d_law_kept dnOf b_law_kept
  show ((sSeq _ _ [some (.lst (all.map U.d)), some (gfz g), none, none]).bind _) = _
  rw [sSeq_eq, k1, Option.bind_some, sqK_nx]
  by_cases h1 : g.l = some .fin
  · have w : g.w = -1 := by unfold Gap.w whiteI; rw [if_pos (.inl h1)]
    rw [fin1 _ w rfl]
    rw [decide_eq_true h1] at el1
    simp [fl, i1, i2, el1, ng, ab]
  rw [decide_eq_false h1] at el1
  by_cases h2 : g.r = some .fin
  · have w : g.w = -1 := by unfold Gap.w whiteI; rw [if_pos (.inr h2)]
    rw [fin1 _ w rfl]
    rw [decide_eq_true h2] at el2
    simp [fl, i1, i2, el1, el2, ng, ab]
  rw [decide_eq_false h2] at el2
  have hn : ¬ (g.l = some .fin ∨ g.r = some .fin) := fun z => z.elim h1 h2
  by_cases h3 : Kd.feed ∈ g.cur.map U.k
  · rw [decide_eq_true h3] at nf
    have xf := xf h3
    have ia := ixs_at g.s g.cur _ (by simpa using List.idxOf_lt_length_iff.mpr h3)
    have wn : joinO g.l g.r = false → g.w = (((g.cur.map U.k).idxOf .feed : Nat) : Int) := fun z => by
      unfold Gap.w whiteI
      rw [if_neg hn, if_pos h3, z]
      rfl
    by_cases q1 : g.l = none
    · have w := wn (by rw [q1]; rfl)
      rw [show decide (g.l ≠ none) = false by simp [q1]] at n1
      rw [fin2 _ w]
      simp [-Int.natCast_add, fl, i0, i1, i2, el1, el2, nf, n1, n2, ng, xf, ia, ab]
    rw [show decide (g.l ≠ none) = true by simp [q1]] at n1
    by_cases q2 : g.r = none
    · have w := wn (by rw [q2]; cases g.l <;> rfl)
      rw [show decide (g.r ≠ none) = false by simp [q2]] at n2
      rw [fin2 _ w]
      simp [-Int.natCast_add, fl, i0, i1, i2, el1, el2, nf, n1, n2, ng, xf, ia, ab]
    rw [show decide (g.r ≠ none) = true by simp [q2]] at n2
    have jn : d_law_join [okd g.l, okd g.r] = some (.v (.bl (joinO g.l g.r)), [okd g.l, okd g.r]) := by
      obtain ⟨l, hl⟩ := Option.ne_none_iff_exists'.mp q1
      obtain ⟨r, hr⟩ := Option.ne_none_iff_exists'.mp q2
      rw [hl, hr]
      exact den_law_join l r
    by_cases h4 : joinO g.l g.r = true
    · have w : g.w = -1 := by unfold Gap.w whiteI; rw [if_neg hn, if_pos h3, if_pos h4]
      rw [h4] at jn
      rw [fin1 _ w rfl]
      simp [fl, i1, i2, el1, el2, nf, n1, n2, jn, dTruth, ng, ab]
    · have w := wn (eq_false_of_ne_true h4)
      rw [eq_false_of_ne_true h4] at jn
      rw [fin2 _ w]
      simp [-Int.natCast_add, fl, i0, i1, i2, el1, el2, nf, n1, n2, jn, dTruth, ng, xf, ia, ab]
  · rw [decide_eq_false h3] at nf
    by_cases h4 : Kd.space ∈ g.cur.map U.k
    · have w : g.w = (((g.cur.map U.k).idxOf .space : Nat) : Int) := by unfold Gap.w whiteI; rw [if_neg hn, if_neg h3, if_pos h4]
      rw [decide_eq_true h4] at ns
      rw [fin2 _ w]
      have xs := xs h4
      have ia := ixs_at g.s g.cur _ (by simpa using List.idxOf_lt_length_iff.mpr h4)
      simp [-Int.natCast_add, fl, i0, i1, i2, el1, el2, nf, ns, xs, ia, ab]
    · have w : g.w = -1 := by unfold Gap.w whiteI; rw [if_neg hn, if_neg h3, if_neg h4]
      rw [decide_eq_false h4] at ns
      rw [fin1 _ w rfl]
      simp [fl, i1, i2, el1, el2, nf, ns, ng, ab]
theorem inSF (k : Kd) : dIn (.str k.s) (.tup [(.str [115, 112, 97, 99, 101]), (.str [102, 101, 101, 100])]) = some (.bl (decide (k = .space) || decide (k = .feed))) := by
  cases k <;> rfl
theorem notSF (k : Kd) : dNotIn (.str k.s) (.tup [(.str [115, 112, 97, 99, 101]), (.str [102, 101, 101, 100])]) = some (.bl (!(decide (k = .space) || decide (k = .feed)))) := by
  cases k <;> rfl
theorem sp_sign {u : U} (h : u.k = .space) : u.2 = 32 := by
  obtain ⟨m, c⟩ := u
  exact ((gk_sign (u := (m, c)) (by rw [h]; rfl)).1).mpr h
theorem den_law_sign (u : U) : d_law_sign [u.d] = some (.v (.str [shC u]), [u.d]) := by
  have e := den_law_kind u
  have i1 : dIx u.d (.int 1) = some (.str [u.2]) := rfl
  have fl : u.d.flat = true := rfl
  have el2 : ∀ k : Kd, (k.s = [101, 110, 100]) = (k = .fin) := fun k => propext (kd_s_inj (b := .fin))
  have sf := inSF u.k
  have ab : ∀ x, argsB W_law_sign [some u.d, x] 0 [u.d] = some [u.d] := fun _ => rfl
  unfold d_law_sign dnOf b_law_sign shC
  by_cases h1 : u.k = .fin
  · simp [e, i1, fl, ab, el2, h1]
  · by_cases h2 : u.k = .feed
    · rw [show (decide (u.k = .space) || decide (u.k = .feed)) = true by rw [h2]; rfl] at sf
      rw [if_neg h1, if_pos h2]
      simp [e, i1, fl, ab, el2, h1, sf, show (2 : Nat) ≤ cap by decide]
    · by_cases h3 : u.k = .space
      · rw [show (decide (u.k = .space) || decide (u.k = .feed)) = true by rw [h3]; rfl] at sf
        have c := sp_sign h3
        simp [e, i1, fl, ab, el2, h1, h2, sf, c, show (2 : Nat) ≤ cap by decide]
      · rw [show (decide (u.k = .space) || decide (u.k = .feed)) = false by rw [decide_eq_false h2, decide_eq_false h3]; rfl] at sf
        simp [e, i1, fl, ab, el2, h1, h2, sf, show (2 : Nat) ≤ cap by decide]
end Den

namespace Den
open PySem PySem.Spec L2
/-- the left of the first gap may be put otherwise -/
theorem gpD_head : ∀ (us : List U) (s : Nat) (cur : List U), ∃ ks r t, ∀ l, gpD s cur l us = lgD ks l r :: t
  | [], s, cur => ⟨_, _, _, fun _ => rfl⟩
  | u :: us, s, cur => by
    by_cases h : gk u.k = true
    · obtain ⟨ks, r, t, e⟩ := gpD_head us s (cur ++ [u])
      exact ⟨ks, r, t, fun l => by rw [gpD, if_pos h, e]⟩
    · exact ⟨_, _, _, fun l => by rw [gpD, if_neg h]⟩
def gown (g : Gap) : D := lgD (ixs g.s g.cur) (okd g.l) (okd g.r)
/-- the right of the last gap, put to the end, makes them the gaps -/
theorem gpD_last (o : Ok) : ∀ (us : List U) (s : Nat) (cur : List U) (l : Ok), ∃ init ks x, gpD s cur (okd l) us = init ++ [lgD ks x .non] ∧ (gp o s cur l us).map gown = init ++ [lgD ks x (okd o)]
  | [], s, cur, l => ⟨[], _, _, rfl, rfl⟩
  | u :: us, s, cur, l => by
    by_cases h : gk u.k = true
    · obtain ⟨i, ks, x, e1, e2⟩ := gpD_last o us s (cur ++ [u]) l
      exact ⟨i, ks, x, by rw [gpD, if_pos h, e1], by rw [gp, if_pos h, e2]⟩
    · obtain ⟨i, ks, x, e1, e2⟩ := gpD_last o us (s + cur.length + 1) [] (some u.k)
      rw [show okd (some u.k) = .str u.k.s from rfl] at e1
      exact ⟨lgD (ixs s cur) (okd l) (.str u.k.s) :: i, ks, x, by rw [gpD, if_neg h, e1]; rfl, by rw [gp, if_neg h, List.map_cons, e2]; rfl⟩
theorem gp_sub (o : Ok) (all : List U) : ∀ (us : List U) (s : Nat) (cur : List U) (l : Ok), (∀ j, all[s + j]? = (cur ++ us)[j]?) → ∀ g ∈ gp o s cur l us, ∀ j, j < g.cur.length → all[g.s + j]? = g.cur[j]?
  | [], s, cur, l, h, g, hg, j, hj => by
    rw [gp, List.mem_singleton] at hg
    subst hg
    have := h j
    rw [List.append_nil] at this
    exact this
  | u :: us, s, cur, l, h, g, hg, j, hj => by
    rw [gp] at hg
    split at hg
    · exact gp_sub o all us s (cur ++ [u]) l (fun j => by rw [h j, List.append_assoc]; rfl) g hg j hj
    · rcases List.mem_cons.mp hg with rfl | hg
      · have := h j
        rw [List.getElem?_append_left hj] at this
        exact this
      · refine gp_sub o all us (s + cur.length + 1) [] (some u.k) (fun j => ?_) g hg j hj
        have := h (cur.length + 1 + j)
        rw [List.getElem?_append_right (by omega), show cur.length + 1 + j - cur.length = j + 1 by omega, List.getElem?_cons_succ] at this
        rw [List.nil_append, ← this]
        congr 1
        omega
theorem mem_sum {x : Nat} : ∀ {l : List Nat}, x ∈ l → x ≤ l.sum
  | y :: l, h => by
    rw [List.sum_cons]
    rcases List.mem_cons.mp h with rfl | h
    · omega
    · have := mem_sum h; omega
theorem gp_cur_len {o : Ok} {us : List U} {g : Gap} (h : g ∈ gp o 0 [] o us) : g.cur.length ≤ us.length := by
  have := gp_tot o us 0 [] o
  unfold tot at this
  have m : g.cur.length + 1 ∈ (gp o 0 [] o us).map fun g => g.cur.length + 1 := List.mem_map.mpr ⟨g, h, rfl⟩
  have := mem_sum m
  simp at *
  omega
theorem fz_gown (g : Gap) : fz (gown g) = gfz g := by
  unfold gown gfz lgD
  rw [fz_own]
  simp [fz_nats]
theorem fz_gaps (G : List Gap) : fz (.own (G.map gown)) = .lst (G.map gfz) := by
  rw [fz_own, List.map_map]
  congr 1
  exact List.map_congr_left fun g _ => fz_gown g
theorem gp_len (o : Ok) (us : List U) : (gp o 0 [] o us).length ≤ us.length + 1 := by
  have tt := gp_tot o us 0 [] o
  have : (gp o 0 [] o us).length ≤ tot (gp o 0 [] o us) := by
    unfold tot
    generalize gp o 0 [] o us = G
    induction G with
    | nil => simp
    | cons g G ih =>
      rw [List.map_cons, List.sum_cons, List.length_cons]
      omega
  rw [tt, List.length_nil] at this
  omega
theorem gpD_none : ∀ (us : List U) (s : Nat) (cur : List U) (l : Ok), gpD s cur (okd l) us = (gp none s cur l us).map gown
  | [], s, cur, l => rfl
  | u :: us, s, cur, l => by
    rw [gpD, gp, gpD_none us s (cur ++ [u]) l]
    have := gpD_none us (s + cur.length + 1) [] (some u.k)
    rw [show okd (some u.k) = .str u.k.s from rfl] at this
    rw [this]
    split <;> rfl
theorem den_law_gaps' (us : List U) (h : us.length < 90000) : d_law_gaps [.lst (us.map U.d)] = some (.own (.own ((gp none 0 [] none us).map gown)), [.lst (us.map U.d)]) := by
  rw [den_law_gaps us h, ← gpD_none us 0 [] none]
  rfl
/-- the kept places, by any place of the names -/
theorem kept_lc (o : Ok) (us : List U) (h : us.length < 90000) (ρ : Env) (j : Nat) (v0 : gt ρ 0 = some (.lst (us.map U.d))) (vj : ∀ g : Gap, gt (ρ.set j (some (gfz g))) j = some (gfz g)) (v0j : ∀ g : Gap, gt (ρ.set j (some (gfz g))) 0 = some (.lst (us.map U.d))) (wp : ∀ g : Gap, wipeD (ρ.set j (some (gfz g))) [j] = ρ) :
    lcL (gN j) qYes (xCallV 2 d_law_kept (xCons (xVar 0) (xCons (xVar j) xNil))) [j] ((gp o 0 [] o us).map gfz) ρ = some (intsD (keptL o us), ρ) := by
  have e := lcL_ok (g := gN j) (t := qYes) (f := xCallV 2 d_law_kept (xCons (xVar 0) (xCons (xVar j) xNil))) (vs := [j]) gfz (fun _ => true) (fun g => D.int g.kept) ρ (gp o 0 [] o us) (fun g hg => ⟨_, rfl, rfl, fun _ => by
    have := den_kept us g (gp_sub o us us 0 [] o (fun j => by simp) g hg) (Nat.le_trans (Nat.le_trans (gp_cur_len hg) (by omega : us.length ≤ 90000)) (by decide))
    have fl : (gfz g).flat = true := rfl
    simp [-gt_eq, v0j, vj, this, fl], wp g⟩)
  rw [filter_true] at e
  have e2 : ((gp o 0 [] o us).map fun g => D.int g.kept) = intsD (keptL o us) := by
    unfold intsD keptL
    rw [List.map_map]
    rfl
  rw [e2] at e
  exact e
theorem kept_len (o : Ok) (us : List U) (h : us.length < 90000) : (intsD (keptL o us)).length ≤ cap := by
  have h2 : (intsD (keptL o us)).length = (gp o 0 [] o us).length := by simp [intsD, keptL]
  have := gp_len o us
  exact Nat.le_trans (by omega : (intsD (keptL o us)).length ≤ 100000) (by decide)
theorem fz_ints (is : List Int) : (intsD is).map fz = intsD is := by
  unfold intsD
  rw [List.map_map]
  congr 1
def lsE (all : List U) (a b c : Option D) : Env := [some (.lst (all.map U.d)), a, b, c, none, none]
theorem ls_k1 (us : List U) (h : us.length < 90000) : sSet 1 (xCallV 1 d_law_gaps (xCons (xVar 0) xNil)) (lsE us none none none) = some (.nx (lsE us (some (.own (gpD 0 [] .non us))) none none)) := by
  have e := den_law_gaps us h
  unfold lsE
  simp [e]
theorem ls_k2 (us : List U) : sSto (xC (.str [101, 110, 100])) (lIx (lV 1) (kC 0)) (kC 1) (lsE us (some (.own (gpD 0 [] .non us))) none none) = some (.nx (lsE us (some (.own (gpD 0 [] (.str Kd.fin.s) us))) none none)) := by
  obtain ⟨ks, r, t, e⟩ := gpD_head us 0 []
  rw [e, e]
  unfold lsE lgD
  have i0 : ixN (t.length + 1) 0 = some 0 := by unfold ixN; simp
  have i1 : ixN 3 1 = some 1 := rfl
  simp [sSto, lIx, kC, getP, setP, i0, i1]
  rfl
theorem ls_k3 (us : List U) : sSto (xC (.str [101, 110, 100])) (lIx (lV 1) (kC (-1))) (kC 2) (lsE us (some (.own (gpD 0 [] (.str Kd.fin.s) us))) none none) = some (.nx (lsE us (some (.own ((gp (some .fin) 0 [] (some .fin) us).map gown))) none none)) := by
  obtain ⟨i, ks, x, e1, e2⟩ := gpD_last (some .fin) us 0 [] (some .fin)
  rw [show okd (some .fin) = .str Kd.fin.s from rfl] at e1 e2
  rw [e1, e2]
  unfold lsE lgD
  have i1 : ixN 3 2 = some 2 := rfl
  simp [sSto, lIx, kC, getP, setP, ix_last, i1]
  rfl
theorem ls_k4 (us : List U) (h : us.length < 90000) : sSet 2 (xFz (xLc (iA (xFz (xVar 1))) (gN 4) qYes (xCallV 2 d_law_kept (xCons (xVar 0) (xCons (xVar 4) xNil))) [4])) (lsE us (some (.own ((gp (some .fin) 0 [] (some .fin) us).map gown))) none none) = some (.nx (lsE us (some (.lst ((gp (some .fin) 0 [] (some .fin) us).map gfz))) (some (.lst (intsD (keptL (some .fin) us)))) none)) := by
  have e := lcL_ok (g := gN 4) (t := qYes) (f := xCallV 2 d_law_kept (xCons (xVar 0) (xCons (xVar 4) xNil))) (vs := [4]) gfz (fun _ => true) (fun g => D.int g.kept) (lsE us (some (.lst ((gp (some .fin) 0 [] (some .fin) us).map gfz))) none none) (gp (some .fin) 0 [] (some .fin) us) (fun g hg => ⟨_, rfl, rfl, fun _ => by
    have := den_kept us g (gp_sub (some .fin) us us 0 [] (some .fin) (fun j => by simp) g hg) (Nat.le_trans (Nat.le_trans (gp_cur_len hg) (by omega : us.length ≤ 90000)) (by decide))
    have fl : (gfz g).flat = true := rfl
    unfold lsE
    simp [this, fl], rfl⟩)
  rw [filter_true] at e
  have e2 : ((gp (some .fin) 0 [] (some .fin) us).map fun g => D.int g.kept) = intsD (keptL (some .fin) us) := by
    unfold intsD keptL
    rw [List.map_map]
    rfl
  rw [e2] at e
  have f1 : (intsD (keptL (some .fin) us)).map fz = intsD (keptL (some .fin) us) := by
    unfold intsD
    rw [List.map_map]
    congr 1
  have tt := gp_tot (some .fin) us 0 [] (some .fin)
  have hl : (intsD (keptL (some .fin) us)).length ≤ cap := by
    have : (gp (some .fin) 0 [] (some .fin) us).length ≤ tot (gp (some .fin) 0 [] (some .fin) us) := by
      unfold tot
      generalize gp (some .fin) 0 [] (some .fin) us = G
      induction G with
      | nil => simp
      | cons g G ih =>
        rw [List.map_cons, List.sum_cons, List.length_cons]
        omega
    have h2 : (intsD (keptL (some .fin) us)).length = (gp (some .fin) 0 [] (some .fin) us).length := by simp [intsD, keptL]
    rw [tt, List.length_nil] at this
    exact Nat.le_trans (by omega : (intsD (keptL (some .fin) us)).length ≤ 100000) (by decide)
  have fg := fz_gaps (gp (some .fin) 0 [] (some .fin) us)
  have fx : xFz (xVar 1) (lsE us (some (.own ((gp (some .fin) 0 [] (some .fin) us).map gown))) none none) = some (.v (.lst ((gp (some .fin) 0 [] (some .fin) us).map gfz)), lsE us (some (.lst ((gp (some .fin) 0 [] (some .fin) us).map gfz))) none none) := by
    unfold lsE
    rw [← fg]
    rfl
  rw [sSet_eq, xFz_eq]
  unfold xLc
  rw [iA_eq, fx]
  show ((Option.bind (Option.bind (some _) _) fzK).bind _) = _
  rw [Option.bind_some]
  show ((Option.bind ((lcL _ _ _ _ ((gp (some .fin) 0 [] (some .fin) us).map gfz) (lsE us (some (.lst ((gp (some .fin) 0 [] (some .fin) us).map gfz))) none none)).bind _) fzK).bind _) = _
  rw [e, Option.bind_some, if_pos hl, Option.bind_some, fzK_own, fz_own, f1]
  rfl
end Den

namespace Den
open PySem PySem.Spec L2
theorem rngz (us : List U) : rng 0 us.length = us.zipIdx.map fun p => iD p.2 := by
  rw [rng0, List.range_eq_range', ← List.zipIdx_map_snd, List.map_map]
  rfl
theorem any_int (k : Int) : ∀ ks : List Int, (intsD ks).any (fun z => scEq z (.int k)) = decide (k ∈ ks)
  | [] => rfl
  | x :: ks => by
    have ih := any_int k ks
    show (scEq (.int x) (.int k) || (intsD ks).any fun z => scEq z (.int k)) = _
    rw [ih, show scEq (.int x) (.int k) = (x == k) from rfl, Bool.eq_iff_iff]
    simp
    constructor
    · rintro (h | h)
      · exact .inl h.symm
      · exact .inr h
    · rintro (h | h)
      · exact .inl h.symm
      · exact .inr h
theorem in_ints (k : Int) (ks : List Int) : dIn (.int k) (.lst (intsD ks)) = some (.bl (decide (k ∈ ks))) := by
  have hs : (intsD ks).all isSc = true := by
    unfold intsD
    rw [List.all_map]
    exact List.all_eq_true.mpr fun u _ => rfl
  have : bIn (.int k) (.lst (intsD ks)) = some ((intsD ks).any fun z => scEq z (.int k)) := if_pos (by rw [hs]; rfl)
  show (bIn _ _).map D.bl = _
  rw [this, any_int]
  rfl
def lsF (all : List U) (a b c : Option D) : Env := lsE all a b c
theorem ls_k5 (us : List U) (h : us.length < 90000) (A : Option D) : sSet 3 (xFz (xLc (iR1 (xCons (xCB dLen (xCons (xVar 0) xNil)) xNil)) (gN 5) (qOr (xB (xOp dIn (xVar 5) (xVar 2))) (xB (xOp dNotIn (xCallV 1 d_law_kind (xCons (xOp dIx (xVar 0) (xVar 5)) xNil)) (xTup (xCons (xC (.str [115, 112, 97, 99, 101])) (xCons (xC (.str [102, 101, 101, 100])) xNil)))))) (xVar 5) [5])) (lsE us A (some (.lst (intsD (keptL (some .fin) us)))) none) = some (.nx (lsE us A (some (.lst (intsD (keptL (some .fin) us)))) (some (.lst (natsD (srcs (some .fin) us)))))) := by
  have e := lcL_ok (g := gN 5) (t := qOr (xB (xOp dIn (xVar 5) (xVar 2))) (xB (xOp dNotIn (xCallV 1 d_law_kind (xCons (xOp dIx (xVar 0) (xVar 5)) xNil)) (xTup (xCons (xC (.str [115, 112, 97, 99, 101])) (xCons (xC (.str [102, 101, 101, 100])) xNil)))))) (f := xVar 5) (vs := [5]) (fun p : U × Nat => iD p.2) (sv (keptL (some .fin) us)) (fun p => iD p.2) (lsE us A (some (.lst (intsD (keptL (some .fin) us)))) none) us.zipIdx (fun p hp => ⟨_, rfl, by
    have hz := zip_mem hp
    have h1 : us[p.2]? = some p.1 := by
      have := List.mem_zipIdx hp
      simp at this
      obtain ⟨h1, h2⟩ := this
      rw [List.getElem?_eq_getElem h1, h2]
    have hk : p.2 < us.length := (List.getElem?_eq_some_iff.mp h1).1
    have ix := dIx_U hk
    have ea : atU us p.2 = p.1 := by unfold atU; simp [h1]
    rw [ea] at ix
    have d := den_law_kind p.1
    have ii := in_ints (p.2 : Nat) (keptL (some .fin) us)
    have ns := notSF p.1.k
    have fl : (iD p.2).flat = true := rfl
    have fl2 : p.1.d.flat = true := rfl
    rw [show D.int ((p.2 : Nat) : Int) = iD p.2 from rfl] at ii
    unfold lsE sv
    by_cases q : ((p.2 : Nat) : Int) ∈ keptL (some .fin) us
    · rw [decide_eq_true q] at ii ⊢
      simp [fl, ii]
    · rw [decide_eq_false q] at ii ⊢
      simp [fl, fl2, ii, ix, d, ns, show (2 : Nat) ≤ cap by decide], fun _ => rfl, rfl⟩)
  have e2 : ((us.zipIdx.filter (sv (keptL (some .fin) us))).map fun p => iD p.2) = natsD (srcs (some .fin) us) := by
    rw [srcs_eq (some .fin)]
    unfold natsD
    rw [List.map_map]
    rfl
  rw [e2, ← rngz] at e
  have hr := iR1_len (ρ := lsE us A (some (.lst (intsD (keptL (some .fin) us)))) none) (ds := us.map U.d) rfl (by rw [List.length_map]; exact h)
  rw [List.length_map] at hr
  have sl := srcs_len (some .fin) us
  have hl : (natsD (srcs (some .fin) us)).length ≤ cap := by
    rw [natsD_len]
    exact Nat.le_trans (by omega : (srcs (some .fin) us).length ≤ 90000) (by decide)
  rw [sSet_eq, xFz_eq]
  unfold xLc
  rw [hr, Option.bind_some]
  show ((Option.bind ((lcL _ _ _ _ (rng 0 us.length) (lsE us A (some (.lst (intsD (keptL (some .fin) us)))) none)).bind _) fzK).bind _) = _
  rw [e, Option.bind_some, if_pos hl, Option.bind_some, fzK_own, fz_own, fz_nats]
  rfl
theorem den_law_shown (us : List U) (h : us.length < 90000) : d_law_shown [.lst (us.map U.d)] = some (.v (.lst [.str (txt us), .lst (natsD (srcs (some .fin) us))]), [.lst (us.map U.d)]) := by
  have sl := srcs_len (some .fin) us
  have e4 := lcL_ok (g := gN 5) (t := qYes) (f := xCallV 1 d_law_sign (xCons (xOp dIx (xVar 0) (xVar 5)) xNil)) (vs := [5]) iD (fun _ => true) (fun k => D.str [shC (atU us k)]) (lsE us (some (.lst ((gp (some .fin) 0 [] (some .fin) us).map gfz))) (some (.lst (intsD (keptL (some .fin) us)))) (some (.lst (natsD (srcs (some .fin) us))))) (srcs (some .fin) us) (fun k hk => ⟨_, rfl, rfl, fun _ => by
    have := dIx_U (srcs_lt hk)
    have d := den_law_sign (atU us k)
    have fl : (iD k).flat = true := rfl
    unfold lsE
    simp [this, d, fl], rfl⟩)
  rw [filter_true] at e4
  have f2 : ((srcs (some .fin) us).map fun k => D.str [shC (atU us k)]).map fz = (srcs (some .fin) us).map fun k => D.str [shC (atU us k)] := by
    rw [List.map_map]
    congr 1
  have j := join_map (fun k => shC (atU us k)) (srcs (some .fin) us) (Nat.le_trans (by omega : (srcs (some .fin) us).length ≤ 90000) (by decide))
  have hl : ((srcs (some .fin) us).map fun k => D.str [shC (atU us k)]).length ≤ cap := by
    rw [List.length_map]
    exact Nat.le_trans (by omega : (srcs (some .fin) us).length ≤ 90000) (by decide)
  have x1 : xFz (xLc (iA (xVar 3)) (gN 5) qYes (xCallV 1 d_law_sign (xCons (xOp dIx (xVar 0) (xVar 5)) xNil)) [5]) (lsE us (some (.lst ((gp (some .fin) 0 [] (some .fin) us).map gfz))) (some (.lst (intsD (keptL (some .fin) us)))) (some (.lst (natsD (srcs (some .fin) us))))) = some (.v (.lst ((srcs (some .fin) us).map fun k => D.str [shC (atU us k)])), lsE us (some (.lst ((gp (some .fin) 0 [] (some .fin) us).map gfz))) (some (.lst (intsD (keptL (some .fin) us)))) (some (.lst (natsD (srcs (some .fin) us))))) := by
    rw [xFz_eq]
    unfold xLc
    rw [iA_eq]
    show (Option.bind ((lcL _ _ _ _ ((srcs (some .fin) us).map iD) (lsE us (some (.lst ((gp (some .fin) 0 [] (some .fin) us).map gfz))) (some (.lst (intsD (keptL (some .fin) us)))) (some (.lst (natsD (srcs (some .fin) us)))))).bind _) fzK) = _
    rw [e4, Option.bind_some, if_pos hl, Option.bind_some, fzK_own, fz_own, f2]
  unfold d_law_shown dnOf b_law_shown
  show ((sSeq _ _ (lsE us none none none)).bind _) = _
  rw [sSeq_eq, ls_k1 us h, Option.bind_some, sqK_nx]
  rw [sSeq_eq, ls_k2 us, Option.bind_some, sqK_nx]
  rw [sSeq_eq, ls_k3 us, Option.bind_some, sqK_nx]
  rw [sSeq_eq, ls_k4 us h, Option.bind_some, sqK_nx]
  rw [sSeq_eq, ls_k5 us h, Option.bind_some, sqK_nx]
  have v3 : xVar 3 (lsE us (some (.lst ((gp (some .fin) 0 [] (some .fin) us).map gfz))) (some (.lst (intsD (keptL (some .fin) us)))) (some (.lst (natsD (srcs (some .fin) us))))) = some (.v (.lst (natsD (srcs (some .fin) us))), lsE us (some (.lst ((gp (some .fin) 0 [] (some .fin) us).map gfz))) (some (.lst (intsD (keptL (some .fin) us)))) (some (.lst (natsD (srcs (some .fin) us))))) := rfl
  generalize hE : lsE us (some (.lst ((gp (some .fin) 0 [] (some .fin) us).map gfz))) (some (.lst (intsD (keptL (some .fin) us)))) (some (.lst (natsD (srcs (some .fin) us)))) = E at *
  generalize hX : xFz (xLc (iA (xVar 3)) (gN 5) qYes (xCallV 1 d_law_sign (xCons (xOp dIx (xVar 0) (xVar 5)) xNil)) [5]) = X at *
  have ab : argsB W_law_shown E 0 [.lst (us.map U.d)] = some [.lst (us.map U.d)] := by subst hE; rfl
  simp [-xVar_eq, -gt_eq, x1, v3, j, show (2 : Nat) ≤ cap by decide, ab, fz_nats]
  rfl
/-- the needed places, by any places of the names -/
theorem need_lc (o : Ok) (us : List U) (h : us.length < 90000) (ρ : Env) (i j : Nat) (v0 : ∀ z, gt (ρ.set j (some (iD z))) 0 = some (.lst (us.map U.d))) (vi : ∀ z, gt (ρ.set j (some (iD z))) i = some (.lst (intsD (keptL o us)))) (vj : ∀ z, gt (ρ.set j (some (iD z))) j = some (iD z)) (wp : ∀ z, wipeD (ρ.set j (some (iD z))) [j] = ρ) :
    lcL (gN j) (qOr (xB (xOp dIn (xVar j) (xVar i))) (xB (xOp dNotIn (xCallV 1 d_law_kind (xCons (xOp dIx (xVar 0) (xVar j)) xNil)) (xTup (xCons (xC (.str [115, 112, 97, 99, 101])) (xCons (xC (.str [102, 101, 101, 100])) xNil)))))) (xVar j) [j] (rng 0 us.length) ρ = some (natsD (srcs o us), ρ) := by
  have e := lcL_ok (g := gN j) (t := qOr (xB (xOp dIn (xVar j) (xVar i))) (xB (xOp dNotIn (xCallV 1 d_law_kind (xCons (xOp dIx (xVar 0) (xVar j)) xNil)) (xTup (xCons (xC (.str [115, 112, 97, 99, 101])) (xCons (xC (.str [102, 101, 101, 100])) xNil)))))) (f := xVar j) (vs := [j]) (fun p : U × Nat => iD p.2) (sv (keptL o us)) (fun p => iD p.2) ρ us.zipIdx (fun p hp => ⟨_, rfl, by
    have hz := zip_mem hp
    have h1 : us[p.2]? = some p.1 := by
      have := List.mem_zipIdx hp
      simp at this
      obtain ⟨h1, h2⟩ := this
      rw [List.getElem?_eq_getElem h1, h2]
    have hk : p.2 < us.length := (List.getElem?_eq_some_iff.mp h1).1
    have ix := dIx_U hk
    have ea : atU us p.2 = p.1 := by unfold atU; simp [h1]
    rw [ea] at ix
    have d := den_law_kind p.1
    have ii := in_ints (p.2 : Nat) (keptL o us)
    have ns := notSF p.1.k
    have fl : (iD p.2).flat = true := rfl
    have fl2 : p.1.d.flat = true := rfl
    rw [show D.int ((p.2 : Nat) : Int) = iD p.2 from rfl] at ii
    have w0 := v0 p.2
    have w1 := vi p.2
    have w2 := vj p.2
    unfold sv
    generalize ρ.set j (some (iD p.2)) = ρ1 at *
    by_cases q : ((p.2 : Nat) : Int) ∈ keptL o us
    · rw [decide_eq_true q] at ii ⊢
      simp [-gt_eq, w0, w1, w2, fl, ii]
    · rw [decide_eq_false q] at ii ⊢
      simp [-gt_eq, w0, w1, w2, fl, fl2, ii, ix, d, ns, show (2 : Nat) ≤ cap by decide], fun _ => by
        have w2 := vj p.2
        have fl : (iD p.2).flat = true := rfl
        simp [-gt_eq, w2, fl], wp _⟩)
  have e2 : ((us.zipIdx.filter (sv (keptL o us))).map fun p => iD p.2) = natsD (srcs o us) := by
    rw [srcs_eq]
    unfold natsD
    rw [List.map_map]
    rfl
  rw [e2, ← rngz] at e
  exact e
theorem srcs_cap (o : Ok) (us : List U) (h : us.length < 90000) : (natsD (srcs o us)).length ≤ cap := by
  have sl := srcs_len o us
  rw [natsD_len]
  exact Nat.le_trans (by omega : (srcs o us).length ≤ 90000) (by decide)
theorem den_law_needed (us : List U) (h : us.length < 90000) : d_law_needed [.lst (us.map U.d)] = some (.v (.lst (natsD (srcs none us))), [.lst (us.map U.d)]) := by
  let E0 : Env := [some (.lst (us.map U.d)), none, none, none]
  let E1 : Env := [some (.lst (us.map U.d)), some (.lst (intsD (keptL none us))), none, none]
  have eg := den_law_gaps' us h
  have k1 : sSet 1 (xFz (xLc (iA (xFz (xCallV 1 d_law_gaps (xCons (xVar 0) xNil)))) (gN 2) qYes (xCallV 2 d_law_kept (xCons (xVar 0) (xCons (xVar 2) xNil))) [2])) E0 = some (.nx E1) := by
    have c : xFz (xCallV 1 d_law_gaps (xCons (xVar 0) xNil)) E0 = some (.v (.lst ((gp none 0 [] none us).map gfz)), E0) := by
      have : xCallV 1 d_law_gaps (xCons (xVar 0) xNil) E0 = some (.own (.own ((gp none 0 [] none us).map gown)), E0) := by
        simp [E0, eg]
      rw [xFz_eq, this, Option.bind_some, fzK_own, fz_gaps]
    have l := kept_lc none us h E0 2 rfl (fun _ => rfl) (fun _ => rfl) (fun _ => rfl)
    rw [sSet_eq, xFz_eq]
    unfold xLc
    rw [iA_eq, c, Option.bind_some]
    show ((Option.bind ((lcL _ _ _ _ ((gp none 0 [] none us).map gfz) E0).bind _) fzK).bind _) = _
    rw [l, Option.bind_some, if_pos (kept_len none us h), Option.bind_some, fzK_own, fz_own, fz_ints]
    rfl
  have k2 : xFz (xLc (iR1 (xCons (xCB dLen (xCons (xVar 0) xNil)) xNil)) (gN 3) (qOr (xB (xOp dIn (xVar 3) (xVar 1))) (xB (xOp dNotIn (xCallV 1 d_law_kind (xCons (xOp dIx (xVar 0) (xVar 3)) xNil)) (xTup (xCons (xC (.str [115, 112, 97, 99, 101])) (xCons (xC (.str [102, 101, 101, 100])) xNil)))))) (xVar 3) [3]) E1 = some (.v (.lst (natsD (srcs none us))), E1) := by
    have hr := iR1_len (ρ := E1) (ds := us.map U.d) rfl (by rw [List.length_map]; exact h)
    rw [List.length_map] at hr
    have l := need_lc none us h E1 1 3 (fun _ => rfl) (fun _ => rfl) (fun _ => rfl) (fun _ => rfl)
    rw [xFz_eq]
    unfold xLc
    rw [hr, Option.bind_some]
    show (Option.bind ((lcL _ _ _ _ (rng 0 us.length) E1).bind _) fzK) = _
    rw [l, Option.bind_some, if_pos (srcs_cap none us h), Option.bind_some, fzK_own, fz_own, fz_nats]
  refine dn_rt E0 rfl rfl (ρ := E1) (r := .v (.lst (natsD (srcs none us)))) ?_ rfl rfl
  unfold b_law_needed
  rw [sSeq_eq, k1, Option.bind_some, sqK_nx, sRet_eq, k2]
  rfl
end Den

namespace Den
open PySem PySem.Spec PyProof.Rows L2
theorem nats_noTy : ∀ ks : List Nat, noTys (natsD ks) = true
  | [] => rfl
  | k :: ks => by
    have := nats_noTy ks
    show (noTy (iD k) && noTys (natsD ks)) = true
    rw [this]
    rfl
theorem nats_lay : ∀ ks : List Nat, PyData.canLayAll0 (pys (natsD ks)) = true
  | [] => by simp [natsD, pys, PyData.canLayAll0]
  | k :: ks => by
    have := nats_lay ks
    show PyData.canLayAll0 (py (iD k) :: pys (natsD ks)) = true
    simp [PyData.canLayAll0, this, iD, py, PyData.canLay0]
theorem nats_depth : ∀ ks : List Nat, PyData.depthAll (pys (natsD ks)) ≤ 1
  | [] => by simp [natsD, pys, PyData.depthAll]
  | k :: ks => by
    have := nats_depth ks
    show PyData.depthAll (py (iD k) :: pys (natsD ks)) ≤ 1
    simp [PyData.depthAll, iD, py, PyData.depth]
    omega
theorem nats_eqv : ∀ ks : List Nat, PyData.eqvAll (pys (natsD ks)) (pys (natsD ks)) = true
  | [] => by simp [natsD, pys, PyData.eqvAll]
  | k :: ks => by
    have := nats_eqv ks
    show PyData.eqvAll (py (iD k) :: pys (natsD ks)) (py (iD k) :: pys (natsD ks)) = true
    simp [PyData.eqvAll, this, iD, py, PyData.eqv]
theorem nats_ok (ks : List Nat) : okD (.lst (natsD ks)) = true := by
  unfold okD SeqAt.shaped
  have h1 : noTy (.lst (natsD ks)) = true := nats_noTy ks
  have h2 : (py (.lst (natsD ks))).canLay0 = true := by
    show PyData.canLay0 (.list (pys (natsD ks))) = true
    simp [PyData.canLay0, nats_lay]
  have h3 : (py (.lst (natsD ks))).depth ≤ 64 := by
    show PyData.depth (.list (pys (natsD ks))) ≤ 64
    have := nats_depth ks
    simp [PyData.depth]
    omega
  rw [h1, h2, decide_eq_true h3]
  rfl
theorem nats_ne (ks : List Nat) : dNe (.lst (natsD ks)) (.lst (natsD ks)) = some (.bl false) := by
  have e : bEq (.lst (natsD ks)) (.lst (natsD ks)) = some true := by
    show (if okD (.lst (natsD ks)) && okD (.lst (natsD ks)) then some (PyData.eqv (py (.lst (natsD ks))) (py (.lst (natsD ks)))) else none) = _
    rw [nats_ok, if_pos (show (true && true) = true from rfl)]
    show some (PyData.eqv (.list (pys (natsD ks))) (.list (pys (natsD ks)))) = _
    simp [PyData.eqv, nats_eqv]
  show (bEq _ _).map _ = _
  rw [e]
  rfl
theorem shC_ne (u : U) : shC u ≠ 124 := by
  obtain ⟨m, c⟩ := u
  unfold shC
  split
  · decide
  split
  · decide
  · intro h
    have h : c = 124 := h
    subst h
    rename_i h1 _
    exact h1 (by cases m <;> rfl)
theorem txt_pre (T : List Nat) (h : ∀ c ∈ T, c ≠ 124) : txt (T.map fun c => (Md.pre, c)) = T := by
  have e : (T.map fun c => (Md.pre, c) : List U).zipIdx.filter (sv (keptL (some .fin) (T.map fun c => (Md.pre, c)))) = (T.map fun c => (Md.pre, c) : List U).zipIdx := by
    refine List.filter_eq_self.mpr fun p hp => ?_
    obtain ⟨c, _, hc⟩ := List.mem_map.mp (zip_mem hp).2.2
    unfold sv
    have : (decide (p.1.k = .space) || decide (p.1.k = .feed)) = false := by
      rw [← hc]
      show (decide (kd .pre c = .space) || decide (kd .pre c = .feed)) = false
      unfold kd kdS
      (repeat' split) <;> simp_all
    rw [this]
    simp
  have e2 : srcs (some .fin) (T.map fun c => (Md.pre, c)) = List.range T.length := by
    rw [srcs_eq, e, List.zipIdx_map_snd, List.length_map, List.range_eq_range']
  unfold txt
  rw [e2]
  refine List.ext_getElem? fun j => ?_
  rw [List.getElem?_map]
  by_cases hj : j < T.length
  · rw [List.getElem?_range hj, List.getElem?_eq_getElem hj]
    show some (shC (atU _ j)) = _
    have : atU (T.map fun c => (Md.pre, c)) j = (Md.pre, T[j]) := by
      unfold atU
      simp [hj]
    rw [this]
    have hc := h T[j] (List.getElem_mem hj)
    generalize T[j] = c at *
    congr 1
    unfold shC
    show (if kd .pre c = .fin then 10 else if kd .pre c = .feed then 32 else c) = c
    unfold kd kdS
    by_cases h1 : c = 32
    · subst h1; rfl
    by_cases h2 : c = 10
    · subst h2; rfl
    by_cases h3 : 65 ≤ c ∧ c ≤ 90
    · simp [h1, h2, h3]
    by_cases h4 : c = 94
    · subst h4; rfl
    by_cases h5 : c = 60 ∨ c = 62
    · simp [h1, h2, h3, hc, h4, h5]
    · simp [h1, h2, h3, hc, h4, h5]
  · rw [List.getElem?_eq_none (by simpa using hj), List.getElem?_eq_none (by simpa using hj)]
    rfl
theorem us_len : ∀ fr : List (Md × List Nat), (∀ p ∈ fr, p.2.length ≤ 8) → (us fr).length ≤ 8 * fr.length
  | [], _ => by simp [us]
  | p :: fr, h => by
    have ih := us_len fr fun q hq => h q (List.mem_cons_of_mem _ hq)
    have := h p (List.mem_cons_self ..)
    have e : (us (p :: fr)).length = p.2.length + (us fr).length := by simp [us, uR]
    rw [e, List.length_cons]
    omega
end Den

namespace Den
open PySem PySem.Spec L2
/-! ### the gaps by their places, and as split -/
def gps (o : Ok) : Nat → List U → Ok → SG → List Gap
  | s, c, l, [] => [⟨s, c, l, o⟩]
  | s, c, l, (u, h) :: L => ⟨s, c, l, some u.k⟩ :: gps o (s + c.length + 1) h (some u.k) L
theorem gp_gps (o : Ok) : ∀ (us : List U) (s : Nat) (cur : List U) (l : Ok), gp o s cur l us = gps o s (cur ++ (split us).1) l (split us).2
  | [], s, cur, l => by simp [gp, split, gps]
  | u :: us, s, cur, l => by
    rw [gp, split]
    by_cases h : gk u.k = true
    · rw [if_pos h, if_pos h, gp_gps o us s (cur ++ [u]) l, List.append_assoc]
      rfl
    · rw [if_neg h, if_neg h, gp_gps o us (s + cur.length + 1) [] (some u.k), List.append_nil]
      rfl
def flatL (L : SG) : List U := L.flatMap fun p => p.1 :: p.2
theorem flat_split : ∀ us : List U, (split us).1 ++ flatL (split us).2 = us
  | [] => rfl
  | u :: us => by
    have ih := flat_split us
    rw [split]
    split
    · rw [List.cons_append, ih]
    · rw [List.nil_append]
      show (u :: (split us).1) ++ flatL (split us).2 = _
      rw [List.cons_append, ih]
/-- the units of a gap that are needed -/
def keptU (c : List U) (l r : Ok) : List U := (c.zipIdx.filter (cnP (whiteI l r (c.map U.k)))).map (·.1)
def hdO (o : Ok) : SG → Ok
  | [] => o
  | (u, _) :: _ => some u.k
theorem hdO_none (L : SG) : hdO none L = hdK L := by cases L <;> rfl
def ndL (o : Ok) : SG → List U
  | [] => []
  | (s, h) :: L => s :: (keptU h (some s.k) (hdO o L) ++ ndL o L)
theorem atU_app (x y z : List U) (j : Nat) (u : U) (h : y[j]? = some u) : atU (x ++ (y ++ z)) (x.length + j) = u := by
  unfold atU
  obtain ⟨hj, e⟩ := List.getElem?_eq_some_iff.mp h
  rw [List.getD_eq_getElem?_getD, List.getElem?_append_right (by omega), show x.length + j - x.length = j by omega, List.getElem?_append_left hj, h]
  rfl
theorem ins_at (pre c post : List U) (l r : Ok) : (Gap.ins ⟨pre.length, c, l, r⟩).map (atU (pre ++ (c ++ post))) = keptU c l r := by
  rw [ins_zip, List.map_map]
  unfold keptU
  refine List.map_congr_left fun p hp => ?_
  have hp := (List.mem_filter.mp hp).1
  have h := List.mem_zipIdx hp
  simp at h
  obtain ⟨h1, h2⟩ := h
  exact atU_app _ _ _ _ _ (by rw [List.getElem?_eq_getElem h1, h2])
theorem gps_at (o : Ok) : ∀ (L : SG) (pre c : List U) (l : Ok), ((gps o pre.length c l L).flatMap (Gap.num (pre ++ (c ++ flatL L)).length)).map (atU (pre ++ (c ++ flatL L))) = keptU c l (hdO o L) ++ ndL o L
  | [], pre, c, l => by
    rw [gps, List.flatMap_singleton]
    unfold Gap.num
    rw [if_neg (by simp [flatL]), List.append_nil]
    rw [ins_at]
    simp [ndL, hdO]
  | (u, h) :: L, pre, c, l => by
    have e : pre ++ (c ++ flatL ((u, h) :: L)) = (pre ++ (c ++ [u])) ++ (h ++ flatL L) := by simp [flatL]
    have ih := gps_at o L (pre ++ (c ++ [u])) h (some u.k)
    rw [show (pre ++ (c ++ [u])).length = pre.length + c.length + 1 by simp; omega] at ih
    rw [gps, List.flatMap_cons, List.map_append]
    have e1 : (Gap.num (pre ++ (c ++ flatL ((u, h) :: L))).length ⟨pre.length, c, l, some u.k⟩).map (atU (pre ++ (c ++ flatL ((u, h) :: L)))) = keptU c l (some u.k) ++ [u] := by
      unfold Gap.num
      rw [if_pos (by simp [flatL]), List.map_append, ins_at]
      congr 1
      show [atU _ (pre.length + c.length)] = [u]
      congr 1
      have : pre ++ (c ++ flatL ((u, h) :: L)) = (pre ++ c) ++ ([u] ++ (h ++ flatL L)) := by simp [flatL]
      rw [this]
      have := atU_app (pre ++ c) [u] (h ++ flatL L) 0 u rfl
      rwa [Nat.add_zero, List.length_append] at this
    rw [e1, e, ih]
    simp [ndL, hdO]
def needed (o : Ok) (x : List U) : List U := (srcs o x).map (atU x)
theorem needed_eq (o : Ok) (x : List U) : needed o x = keptU (split x).1 o (hdO o (split x).2) ++ ndL o (split x).2 := by
  have := gps_at o (split x).2 [] (split x).1 o
  rw [List.nil_append, flat_split] at this
  unfold needed srcs
  rw [gp_gps, List.nil_append]
  exact this
/-! ### the signs that a gap keeps -/
theorem idx_first (w : Nat) (k : Kd) (hw : w = 32 ∨ w = 10) : ∀ (c : List U) (s : Nat), (∀ u ∈ c, gk u.k = true) → (∀ u ∈ c, u.2 = w ↔ u.k = k) → k ∈ c.map U.k → ((c.zipIdx s).filter fun p => decide ((p.2 : Int) = ((s + (c.map U.k).idxOf k : Nat) : Int)) || decide (p.1.k = .mark)).map (fun p => p.1.2) = rd1 w (sg c)
  | [], s, _, _, h => by cases h
  | u :: c, s, hg, hk, h => by
    have hu := hk u (List.mem_cons_self ..)
    have gu := gk_sign (hg u (List.mem_cons_self ..))
    rw [List.zipIdx_cons, List.map_cons, show sg (u :: c) = u.2 :: sg c from rfl, rd1]
    have mkc : ∀ (s2 : Nat) (t : Int), t < s2 → ((c.zipIdx s2).filter fun p => decide ((p.2 : Int) = t) || decide (p.1.k = .mark)).map (fun p => p.1.2) = mk (sg c) := by
      intro s2 t ht
      have e : (c.zipIdx s2).filter (fun p => decide ((p.2 : Int) = t) || decide (p.1.k = .mark)) = (c.zipIdx s2).filter ((fun v : U => decide (v.2 ≠ 32 ∧ v.2 ≠ 10)) ∘ (·.1)) := by
        refine List.filter_congr fun p hp => ?_
        have z := zip_mem hp
        have g := gk_sign (hg p.1 (List.mem_cons_of_mem _ z.2.2))
        have g0 := gk_or (hg p.1 (List.mem_cons_of_mem _ z.2.2))
        rw [decide_eq_false (show ¬ (p.2 : Int) = t by omega), Bool.false_or]
        show decide _ = decide _
        rw [decide_eq_decide, ne_eq, ne_eq, g.1, g.2.1]
        constructor
        · intro q; rw [q]; decide
        · rintro ⟨q1, q2⟩
          rcases g0 with q | q | q
          · exact absurd q q1
          · exact absurd q q2
          · exact q
      rw [e]
      have : ((c.zipIdx s2).filter ((fun v : U => decide (v.2 ≠ 32 ∧ v.2 ≠ 10)) ∘ (·.1))).map (fun p => p.1.2) = (((c.zipIdx s2).map (·.1)).filter (fun v : U => decide (v.2 ≠ 32 ∧ v.2 ≠ 10))).map (·.2) := by
        rw [List.filter_map, List.map_map]
        rfl
      rw [this, List.zipIdx_map_fst]
      unfold mk sg
      rw [List.filter_map]
      congr 1
      refine List.filter_congr fun v _ => ?_
      show decide _ = (v.2 != 32 && v.2 != 10)
      rw [Bool.eq_iff_iff]
      simp
    by_cases q : u.k = k
    · rw [if_pos (hu.mpr q), List.idxOf_cons, beq_iff_eq.mpr q]
      rw [List.filter_cons_of_pos (by simp), List.map_cons]
      congr 1
      exact mkc (s + 1) _ (by simp; omega)
    · have q' : u.2 ≠ w := fun z => q (hu.mp z)
      rw [if_neg q', List.idxOf_cons, beq_eq_false_iff_ne.mpr q]
      have h' : k ∈ c.map U.k := by
        rw [List.map_cons, List.mem_cons] at h
        exact h.resolve_left fun z => q z.symm
      have ih := idx_first w k hw c (s + 1) (fun v hv => hg v (List.mem_cons_of_mem _ hv)) (fun v hv => hk v (List.mem_cons_of_mem _ hv)) h'
      have ee : ∀ i : Nat, s + 1 + i = s + (i + 1) := fun i => by omega
      rw [ee] at ih
      have m : u.k = .mark ↔ ¬ (u.2 = 32 ∨ u.2 = 10) := by
        rw [gu.1, gu.2.1]
        rcases gk_or (hg u (List.mem_cons_self ..)) with z | z | z <;> rw [z] <;> decide
      show (List.filter (fun p : U × Nat => decide ((p.2 : Int) = ((s + ((c.map U.k).idxOf k + 1) : Nat) : Int)) || decide (p.1.k = .mark)) ((u, s) :: c.zipIdx (s + 1))).map _ = _
      by_cases z : u.k = .mark
      · rw [List.filter_cons_of_pos (by simp [z]), List.map_cons, ih, if_neg (m.mp z)]
      · rw [List.filter_cons_of_neg (by simp [z]; omega), ih, if_pos (Decidable.of_not_not fun y => z (m.mpr y))]
theorem sg_keptU (c : List U) (l r : Ok) (hg : ∀ u ∈ c, gk u.k = true) : sg (keptU c l r) = keepG (sg c) l r := by
  obtain ⟨n1, n2⟩ := mem_sign 10 .feed c fun u hu => (gk_sign (hg u hu)).2.1
  obtain ⟨m1, m2⟩ := mem_sign 32 .space c fun u hu => (gk_sign (hg u hu)).1
  have mkA : ((c.zipIdx).filter (cnP (-1))).map (fun p => p.1.2) = mk (sg c) := by
    have e : c.zipIdx.filter (cnP (-1)) = c.zipIdx.filter ((fun v : U => decide (v.2 ≠ 32 ∧ v.2 ≠ 10)) ∘ (·.1)) := by
      refine List.filter_congr fun p hp => ?_
      have z := zip_mem hp
      have g := gk_sign (hg p.1 z.2.2)
      have g0 := gk_or (hg p.1 z.2.2)
      unfold cnP
      rw [decide_eq_false (show ¬ (p.2 : Int) = -1 by omega), Bool.false_or]
      show decide _ = decide _
      rw [decide_eq_decide, ne_eq, ne_eq, g.1, g.2.1]
      constructor
      · intro q; rw [q]; decide
      · rintro ⟨q1, q2⟩
        rcases g0 with q | q | q
        · exact absurd q q1
        · exact absurd q q2
        · exact q
    have : (c.zipIdx.filter ((fun v : U => decide (v.2 ≠ 32 ∧ v.2 ≠ 10)) ∘ (·.1))).map (fun p => p.1.2) = ((c.zipIdx.map (·.1)).filter (fun v : U => decide (v.2 ≠ 32 ∧ v.2 ≠ 10))).map (·.2) := by
      rw [List.filter_map, List.map_map]
      rfl
    rw [e, this, List.zipIdx_map_fst]
    unfold mk sg
    rw [List.filter_map]
    congr 1
    refine List.filter_congr fun v _ => ?_
    show decide _ = (v.2 != 32 && v.2 != 10)
    rw [Bool.eq_iff_iff]
    simp
  have fs : sg (keptU c l r) = (c.zipIdx.filter (cnP (whiteI l r (c.map U.k)))).map (fun p => p.1.2) := by
    unfold sg keptU
    rw [List.map_map]
    rfl
  rw [fs]
  unfold whiteI keepG
  have he : (endO l r = true) = (l = some .fin ∨ r = some .fin) := by
    unfold endO
    simp
  by_cases h1 : l = some .fin ∨ r = some .fin
  · rw [if_pos h1, if_pos (he ▸ h1), mkA]
  have he' : ¬ endO l r = true := by rw [he]; exact h1
  rw [if_neg h1, if_neg he']
  by_cases h2 : Kd.feed ∈ c.map U.k
  · rw [if_pos h2, if_pos (show 10 ∈ sg c from n1.mpr h2)]
    by_cases h3 : joinO l r = true
    · rw [if_pos h3, if_pos h3, mkA]
    · rw [if_neg h3, if_neg h3]
      have := idx_first 10 .feed (.inr rfl) c 0 hg (fun u hu => (gk_sign (hg u hu)).2.1) h2
      rw [← this]
      simp only [Nat.zero_add]
      rfl
  · rw [if_neg h2, if_neg (show ¬ 10 ∈ sg c from fun z => h2 (n1.mp z))]
    by_cases h3 : Kd.space ∈ c.map U.k
    · rw [if_pos h3]
      have := idx_first 32 .space (.inl rfl) c 0 hg (fun u hu => (gk_sign (hg u hu)).1) h3
      rw [← this]
      simp only [Nat.zero_add]
      rfl
    · rw [if_neg h3, mkA, rd1_no (.inl rfl) (show 32 ∉ sg c from fun z => h3 (m1.mp z))]
theorem keptU_mem {c : List U} {l r : Ok} {u : U} (h : u ∈ keptU c l r) : u ∈ c := by
  obtain ⟨p, hp, rfl⟩ := List.mem_map.mp h
  exact (zip_mem (List.mem_filter.mp hp).1).2.2
end Den

namespace Den
open PySem PySem.Spec PyProof.Rows L2
/-! ### steps, told once -/
theorem lcA {α : Type} {f : Ex} {g : Eg} {t : Et} {e : Ex} {vs : List Nat} {ρ : Env} {d : D} (enc : α → D) (p : α → Bool) (val : α → D) (l : List α) (hf : f ρ = some (.v d, ρ)) (hd : itemsOf d = some (l.map enc)) (hw : wipeD ρ vs = ρ)
    (hb : ∀ a ∈ l, ∃ ρ1, g (enc a) ρ = some ρ1 ∧ t ρ1 = some (p a, ρ1) ∧ (p a = true → e ρ1 = some (.v (val a), ρ1)) ∧ wipeD ρ1 vs = ρ) (hv : ∀ a, fz (val a) = val a) (hl : l.length ≤ cap) : xFz (xLc (iA f) g t e vs) ρ = some (.v (.lst ((l.filter p).map val)), ρ) := by
  have h := lcL_ok enc p val ρ l hb
  have h2 : ((l.filter p).map val).length ≤ cap := by
    rw [List.length_map]
    exact Nat.le_trans (List.length_filter_le _ _) hl
  rw [xFz_eq]
  unfold xLc
  rw [iA_eq, hf, Option.bind_some]
  show (Option.bind (((itemsOf d).map fun ds => (ds, ρ)).bind _) fzK) = _
  rw [hd]
  show (Option.bind ((lcL g t e vs (l.map enc) (wipeD ρ vs)).bind _) fzK) = _
  rw [hw, h, Option.bind_some, if_pos h2, Option.bind_some, fzK_own, fz_own, List.map_map]
  rw [show fz ∘ val = val from funext hv]
theorem lcA1 {α : Type} {f : Ex} {g : Eg} {e : Ex} {vs : List Nat} {ρ : Env} {d : D} (enc : α → D) (val : α → D) (l : List α) (hf : f ρ = some (.v d, ρ)) (hd : itemsOf d = some (l.map enc)) (hw : wipeD ρ vs = ρ)
    (hb : ∀ a ∈ l, ∃ ρ1, g (enc a) ρ = some ρ1 ∧ e ρ1 = some (.v (val a), ρ1) ∧ wipeD ρ1 vs = ρ) (hv : ∀ a, fz (val a) = val a) (hl : l.length ≤ cap) : xFz (xLc (iA f) g qYes e vs) ρ = some (.v (.lst (l.map val)), ρ) := by
  have := lcA (t := qYes) enc (fun _ => true) val l hf hd hw (fun a ha => by
    obtain ⟨ρ1, h1, h2, h3⟩ := hb a ha
    exact ⟨ρ1, h1, rfl, fun _ => h2, h3⟩) hv hl
  rwa [filter_true] at this
theorem lcR {α : Type} {ga : Ea} {g : Eg} {t : Et} {e : Ex} {vs : List Nat} {ρ : Env} {ds : List D} (enc : α → D) (p : α → Bool) (val : α → D) (l : List α) (hf : iR1 ga ρ = some (l.map enc, ρ)) (hw : wipeD ρ vs = ρ)
    (hb : ∀ a ∈ l, ∃ ρ1, g (enc a) ρ = some ρ1 ∧ t ρ1 = some (p a, ρ1) ∧ (p a = true → e ρ1 = some (.v (val a), ρ1)) ∧ wipeD ρ1 vs = ρ) (hv : ∀ a, fz (val a) = val a) (hl : l.length ≤ cap) : xFz (xLc (iR1 ga) g t e vs) ρ = some (.v (.lst ((l.filter p).map val)), ρ) := by
  have h := lcL_ok enc p val ρ l hb
  have h2 : ((l.filter p).map val).length ≤ cap := by
    rw [List.length_map]
    exact Nat.le_trans (List.length_filter_le _ _) hl
  rw [xFz_eq]
  unfold xLc
  rw [hf, Option.bind_some]
  show (Option.bind ((lcL g t e vs (l.map enc) (wipeD ρ vs)).bind _) fzK) = _
  rw [hw, h, Option.bind_some, if_pos h2, Option.bind_some, fzK_own, fz_own, List.map_map]
  rw [show fz ∘ val = val from funext hv]
theorem sset_v {i : Nat} {f : Ex} {ρ ρ' : Env} {d : D} (h : f ρ = some (.v d, ρ')) : sSet i f ρ = some (.nx (ρ'.set i (some d))) := by rw [sSet_eq, h]; rfl
theorem sseq_nx {f g : Es} {ρ ρ' : Env} (h : f ρ = some (.nx ρ')) : sSeq f g ρ = g ρ' := by rw [sSeq_eq, h]; rfl
theorem sseq_rt {f g : Es} {ρ ρ' : Env} {r : R} (h : f ρ = some (.rt r ρ')) : sSeq f g ρ = some (.rt r ρ') := by rw [sSeq_eq, h]; rfl
theorem sret_v {f : Ex} {ρ ρ' : Env} {r : R} (h : f ρ = some (r, ρ')) : sRet f ρ = some (.rt r ρ') := by rw [sRet_eq, h]; rfl
theorem sif_t {t : Et} {f g : Es} {ρ ρ' : Env} (h : t ρ = some (true, ρ')) : sIf t f g ρ = f ρ' := by rw [sIf_eq, h]; rfl
theorem sif_f {t : Et} {f g : Es} {ρ ρ' : Env} (h : t ρ = some (false, ρ')) : sIf t f g ρ = g ρ' := by rw [sIf_eq, h]; rfl
theorem xcall1 {den : Dn} {f : Ex} {ρ ρ' : Env} {d : D} {r : R} {es : List D} (h : f ρ = some (.v d, ρ')) (hd : den [d] = some (r, es)) : xCallV 1 den (xCons f xNil) ρ = some (r, ρ') := by
  simp [h, hd]
theorem xcall2 {den : Dn} {f g : Ex} {ρ ρ1 ρ' : Env} {d e : D} {r : R} {es : List D} (h : f ρ = some (.v d, ρ1)) (h2 : g ρ1 = some (.v e, ρ')) (hd : den [d, e] = some (r, es)) : xCallV 2 den (xCons f (xCons g xNil)) ρ = some (r, ρ') := by
  simp [h, h2, hd]
theorem xcall3 {den : Dn} {f g k : Ex} {ρ ρ1 ρ2 ρ' : Env} {d e c : D} {r : R} {es : List D} (h : f ρ = some (.v d, ρ1)) (h2 : g ρ1 = some (.v e, ρ2)) (h3 : k ρ2 = some (.v c, ρ')) (hd : den [d, e, c] = some (r, es)) : xCallV 3 den (xCons f (xCons g (xCons k xNil))) ρ = some (r, ρ') := by
  simp [h, h2, h3, hd]
theorem xvar_f {i : Nat} {ρ : Env} {d : D} (h : gt ρ i = some d) (hf : d.flat = true := by rfl) : xVar i ρ = some (.v d, ρ) := by
  rw [xVar_eq, h, Option.bind_some, if_pos hf]
theorem xop_v {o : D → D → Option D} {f g : Ex} {ρ ρ1 ρ' : Env} {x y z : D} (h : f ρ = some (.v x, ρ1)) (h2 : g ρ1 = some (.v y, ρ')) (ho : o x y = some z) : xOp o f g ρ = some (.v z, ρ') := by
  rw [xOp_eq, h, Option.bind_some, h2, Option.bind_some]
  show (Option.bind (some x) _) = _
  rw [Option.bind_some]
  show (Option.bind (some y) _) = _
  rw [Option.bind_some, ho]
  rfl
theorem join_v {X : Ex} {ρ : Env} {α : Type} {f : α → Nat} {l : List α} (h : X ρ = some (.v (.lst (l.map fun a => .str [f a])), ρ)) (hl : l.length ≤ cap) : xBM "str" dJoin (xC (.str [])) (xCons X xNil) ρ = some (.v (.str (l.map f)), ρ) := by
  have j := join_map f l hl
  have e : (xCons X xNil) ρ = some ([.v (.lst (l.map fun a => .str [f a]))], ρ) := by
    rw [xCons_eq, h]; rfl
  rw [xBM_eq]
  show (Option.bind ((xCons X xNil) ρ) _) = _
  rw [e, Option.bind_some]
  show (Option.bind (some (.str [])) fun x => Option.bind (some [.lst (l.map fun a => D.str [f a])]) fun ds => (dJoin x ds).map fun z => (R.v z, ρ)) = _
  rw [Option.bind_some, Option.bind_some, j]
  rfl
theorem len_lst (ds : List D) : dLen [.lst ds] = some (.int (ds.length : Nat)) := rfl
theorem fz_str1 (c : List Nat) : fz (.str c) = .str c := fz_str c
theorem fz_U (u : U) : fz u.d = u.d := by unfold U.d; exact fz_tup _
/-! ### marks -/
theorem replT1 (c : Nat) (l : List Nat) : replT (⟨([c] : List Nat).toArray⟩ : Str) (⟨([] : List Nat).toArray⟩ : Str) l = l.filter (· != c) := replace_strikes _ c
theorem xRepl_eq1 (y z : Str) (f : Ex) (ρ : Env) : xRepl y z f ρ = (f ρ).bind fun p => (rStr p.1).bind fun s => if s.length + (s.length + 1) * z.length ≤ 16777216 then some (.v (.str (replT y z s)), p.2) else none := rfl
theorem xrepl1 {c : Nat} {f : Ex} {ρ ρ' : Env} {s : List Nat} (h : f ρ = some (.v (.str s), ρ')) (hl : s.length ≤ 1000000) : xRepl (⟨([c] : List Nat).toArray⟩ : Str) (⟨([] : List Nat).toArray⟩ : Str) f ρ = some (.v (.str (s.filter (· != c))), ρ') := by
  have z0 : Str.length (⟨([] : List Nat).toArray⟩ : Str) = 0 := rfl
  rw [xRepl_eq1, h]
  show (if _ then _ else _) = _
  rw [z0, if_pos (by omega), replT1]
theorem den_marks (l : List Nat) (h : l.length ≤ 1000000) : d_marks [.str l] = some (.v (.str (mk l)), [.str l]) := by
  have h2 := List.length_filter_le (· != 32) l
  have e1 : xRepl (⟨([10] : List Nat).toArray⟩ : Str) (⟨([] : List Nat).toArray⟩ : Str) (xRepl (⟨([32] : List Nat).toArray⟩ : Str) (⟨([] : List Nat).toArray⟩ : Str) (xVar 0)) [some (.str l)] = some (.v (.str ((l.filter (· != 32)).filter (· != 10))), [some (.str l)]) :=
    xrepl1 (xrepl1 (xvar_f rfl) h) (by omega)
  have e2 : (l.filter (· != 32)).filter (· != 10) = mk l := by
    rw [List.filter_filter]
    unfold mk
    exact List.filter_congr fun c _ => Bool.and_comm ..
  rw [e2] at e1
  exact dn_rt [some (.str l)] rfl rfl (sret_v e1) rfl rfl
end Den

namespace Den
open PySem PySem.Spec PyProof.Rows L2
theorem colU_gk {t : List Nat} (h : gsn t) : ∀ u ∈ colU t, gk u.k = true := fun u hu => by
  obtain ⟨c, hc, rfl⟩ := List.mem_map.mp hu
  exact colgk (h c hc)
def whT (l r : Ok) (t : List Nat) : Int := if endO l r then -1 else if 10 ∈ t then (if joinO l r then -1 else (t.idxOf 10 : Nat)) else if 32 ∈ t then (t.idxOf 32 : Nat) else -1
/-- which of the signs of a gap is its white one, by the signs -/
theorem whiteT {t : List Nat} (h : gsn t) (l r : Ok) : whiteI l r ((colU t).map U.k) = whT l r t := by
  obtain ⟨n1, n2⟩ := mem_sign 10 .feed (colU t) fun u hu => (gk_sign (colU_gk h u hu)).2.1
  obtain ⟨m1, m2⟩ := mem_sign 32 .space (colU t) fun u hu => (gk_sign (colU_gk h u hu)).1
  rw [show (colU t).map (·.2) = t from sg_colU t] at n1 n2 m1 m2
  have he : (endO l r = true) = (l = some .fin ∨ r = some .fin) := by
    unfold endO
    simp
  unfold whiteI whT
  by_cases h1 : endO l r = true
  · rw [if_pos h1, if_pos (he ▸ h1)]
  have h1' : ¬ (l = some .fin ∨ r = some .fin) := by rw [← he]; exact h1
  rw [if_neg h1, if_neg h1']
  by_cases h2 : 10 ∈ t
  · rw [if_pos h2, if_pos (n1.mp h2), n2]
  rw [if_neg h2, if_neg (fun z => h2 (n1.mpr z))]
  by_cases h3 : 32 ∈ t
  · rw [if_pos h3, if_pos (m1.mp h3), m2]
  · rw [if_neg h3, if_neg (fun z => h3 (m1.mpr z))]
theorem den_whiteT {t : List Nat} (h : gsn t) (l r : Ok) : d_white [.str t, okd l, okd r] = some (.v (.int (whT l r t)), [.str t, okd l, okd r]) := by
  have := den_white l r (colU t) (colU_gk h)
  rw [sg_colU, whiteT h] at this
  exact this
theorem idx_split {w : Nat} : ∀ {t : List Nat}, w ∈ t → t = t.take (t.idxOf w) ++ w :: t.drop (t.idxOf w + 1) ∧ w ∉ t.take (t.idxOf w) ∧ t.idxOf w < t.length
  | [], h => by cases h
  | c :: t, h => by
    rw [List.idxOf_cons]
    by_cases e : c = w
    · subst e
      simp
    · rw [beq_eq_false_iff_ne.mpr e]
      have := idx_split ((List.mem_cons.mp h).resolve_left fun z => e z.symm)
      obtain ⟨h1, h2, h3⟩ := this
      refine ⟨?_, ?_, ?_⟩
      · show c :: t = c :: (t.take (t.idxOf w)) ++ w :: t.drop (t.idxOf w + 1)
        rw [List.cons_append, ← h1]
      · show w ∉ c :: t.take (t.idxOf w)
        rw [List.mem_cons, not_or]
        exact ⟨fun z => e z.symm, h2⟩
      · show t.idxOf w + 1 < t.length + 1
        omega
theorem sl_to {s : List Nat} {k : Nat} (h : k ≤ s.length) (hc : s.length ≤ cap) : dSl (.str s) none (some (k : Int)) = some (.str (s.take k)) := by
  show (if s.length ≤ cap then some (D.str (cutL s none (some (k : Int)))) else none) = _
  rw [if_pos hc]
  unfold cutL
  rw [HT.sIx_none, HT.sIx_nat, List.drop_zero, Nat.sub_zero, Nat.min_eq_left h]
theorem sl_from {s : List Nat} {k : Nat} (h : k ≤ s.length) (hc : s.length ≤ cap) : dSl (.str s) (some (k : Int)) none = some (.str (s.drop k)) := by
  show (if s.length ≤ cap then some (D.str (cutL s (some (k : Int)) none)) else none) = _
  rw [if_pos hc]
  unfold cutL
  rw [HT.sIx_none, HT.sIx_nat, Nat.min_eq_left h, List.take_of_length_le (by rw [List.length_drop]; omega)]
theorem ix_str {s : List Nat} {k : Nat} {c : Nat} (h : s[k]? = some c) (hc : s.length ≤ cap) : dIx (.str s) (.int (k : Nat)) = some (.str [c]) := by
  obtain ⟨hk, e⟩ := List.getElem?_eq_some_iff.mp h
  show (if s.length ≤ cap then (atI s k).map fun c => D.str [c] else none) = _
  rw [if_pos hc]
  unfold atI ixN
  simp [hk, e]
theorem add_str {x y : List Nat} (h : x.length + y.length ≤ cap) : dAdd (.str x) (.str y) = some (.str (x ++ y)) := by
  show (if x.length + y.length ≤ cap then some (D.str (x ++ y)) else none) = _
  rw [if_pos h]
theorem mk_le (t : List Nat) : (mk t).length ≤ t.length := List.length_filter_le _ _
theorem rd1_split {w : Nat} (hw : w = 32 ∨ w = 10) {a b : List Nat} (h : w ∉ a) : rd1 w (a ++ w :: b) = mk a ++ w :: mk b := by
  rw [rd1_out hw _ h, rd1, if_pos rfl]
theorem mk_split {w : Nat} (hw : w = 32 ∨ w = 10) (a b : List Nat) : mk (a ++ w :: b) = mk a ++ mk b := by
  rw [mk_app, mk_cons, if_pos (by omega)]
theorem map_self {f : Nat → Nat} : ∀ {l : List Nat}, (∀ c ∈ l, f c = c) → l.map f = l
  | [], _ => rfl
  | c :: l, h => by rw [List.map_cons, h c (List.mem_cons_self ..), map_self fun d hd => h d (List.mem_cons_of_mem _ hd)]
theorem f2s_no {t : List Nat} (h : 10 ∉ t) : f2s t = t := map_self fun c hc => if_neg fun z => h (by rw [← z]; exact hc)
theorem f2s_app (x y : List Nat) : f2s (x ++ y) = f2s x ++ f2s y := List.map_append ..
theorem f2s_split {a b : List Nat} (h : 10 ∉ a) : f2s (rd1 10 (a ++ 10 :: b)) = mk a ++ 32 :: mk b := by
  rw [rd1_split (.inr rfl) h, f2s_app, f2s_no (no10 a)]
  show _ ++ (32 :: f2s (mk b)) = _
  rw [f2s_no (no10 b)]
/-- the value of a gap's form, once its white sign w is known at its place -/
theorem den_gap_form {t : List Nat} (h : gsn t) (hl : t.length ≤ 200000) (l r : Ok) : d_gap_form [.str t, okd l, okd r] = some (.v (.str (gform t l r)), [.str t, okd l, okd r]) := by
  have hc : t.length ≤ cap := Nat.le_trans hl (by decide)
  have hm := den_marks t (by omega)
  let E0 : Env := [some (.str t), some (okd l), some (okd r), none, none, none]
  let Ek (k : Int) (a b : Option D) : Env := [some (.str t), some (okd l), some (okd r), some (.int k), a, b]
  have vl : ∀ k a b, xVar 1 (Ek k a b) = some (.v (okd l), Ek k a b) := fun k a b => xvar_f rfl (okd_flat l)
  have vr : ∀ k a b, xVar 2 (Ek k a b) = some (.v (okd r), Ek k a b) := fun k a b => xvar_f rfl (okd_flat r)
  have vt : ∀ k a b, xVar 0 (Ek k a b) = some (.v (.str t), Ek k a b) := fun k a b => xvar_f rfl
  have wh := den_whiteT h l r
  have k1 : sSet 3 (xCallV 3 d_white (xCons (xVar 0) (xCons (xVar 1) (xCons (xVar 2) xNil)))) E0 = some (.nx (Ek (whT l r t) none none)) :=
    sset_v (xcall3 (xvar_f rfl) (xvar_f rfl (okd_flat l)) (xvar_f rfl (okd_flat r)) wh)
  -- nothing kept
  have neg : whT l r t = -1 → gform t l r = mk t → d_gap_form [.str t, okd l, okd r] = some (.v (.str (gform t l r)), [.str t, okd l, okd r]) := by
    intro e eg
    rw [e] at k1
    refine dn_rt E0 rfl rfl (ρ := Ek (-1) none none) (r := .v (.str (mk t))) ?_ (by rw [eg]; rfl) (by simp [argsB, E0, Ek])
    unfold b_gap_form
    rw [sseq_nx k1]
    have t1 : xB (xOp dLt (xVar 3) (xC (.int 0))) (Ek (-1) none none) = some (true, Ek (-1) none none) := by rfl
    refine sseq_rt ?_
    rw [sif_t t1]
    exact sret_v (xcall1 (vt _ _ _) hm)
  -- something kept: w at the place j
  have pos : ∀ (j w : Nat) (a b : List Nat), whT l r t = (j : Int) → t = a ++ w :: b → a.length = j →
      gform t l r = (if both l r then mk a ++ 32 :: mk b else if w = 10 ∧ r = some .zero then mk a ++ mk b ++ [10] else if w = 10 ∧ l = some .zero then 10 :: (mk a ++ mk b) else mk a ++ w :: mk b) → d_gap_form [.str t, okd l, okd r] = some (.v (.str (gform t l r)), [.str t, okd l, okd r]) := by
    intro j w a b e et ej eg
    rw [e] at k1
    have tl : t.length = j + (b.length + 1) := by rw [et]; simp; omega
    have ta : t.take j = a := by rw [et, ← ej]; simp
    have tb : t.drop (j + 1) = b := by rw [et, ← ej]; simp
    have tj : t[j]? = some w := by rw [et, ← ej]; simp
    have ma := den_marks a (by omega)
    have mb := den_marks b (by omega)
    have la := mk_le a
    have lb := mk_le b
    let E1 : Env := Ek j none none
    let E2 : Env := Ek j (some (.str (mk a))) none
    let E3 : Env := Ek j (some (.str (mk a))) (some (.str (mk b)))
    have v3 : ∀ a b, xVar 3 (Ek j a b) = some (.v (.int (j : Nat)), Ek j a b) := fun a b => xvar_f rfl
    have t1 : xB (xOp dLt (xVar 3) (xC (.int 0))) E1 = some (false, E1) := by
      have : xOp dLt (xVar 3) (xC (.int 0)) E1 = some (.v (.bl false), E1) := xop_v (v3 _ _) rfl (by
        show some (D.bl (decide ((j : Int) < 0))) = _
        rw [decide_eq_false (by omega)])
      rw [xB_eq, this]; rfl
    have k2 : sIf (xB (xOp dLt (xVar 3) (xC (.int 0)))) (sRet (xCallV 1 d_marks (xCons (xVar 0) xNil))) sNil E1 = some (.nx E1) := by rw [sif_f t1]; rfl
    have s1 : xSl dSl (xVar 0) xNo (xSome (xVar 3)) E1 = some (.v (.str a), E1) := by
      have := sl_to (s := t) (k := j) (by omega) hc
      rw [ta] at this
      rw [xSl_eq, vt, Option.bind_some, xNo_eq, Option.bind_some, xSome_eq, v3, Option.bind_some, smK_v, Option.bind_some]
      show (Option.bind (some (D.str t)) _) = _
      rw [Option.bind_some, this]
      rfl
    have s2 : xSl dSl (xVar 0) (xSome (xOp dAdd (xVar 3) (xC (.int 1)))) xNo E2 = some (.v (.str b), E2) := by
      have := sl_from (s := t) (k := j + 1) (by omega) hc
      rw [tb] at this
      have ad : xOp dAdd (xVar 3) (xC (.int 1)) E2 = some (.v (.int ((j + 1 : Nat) : Int)), E2) := xop_v (v3 _ _) rfl rfl
      rw [xSl_eq, vt, Option.bind_some, xSome_eq, ad, Option.bind_some, smK_v, Option.bind_some, xNo_eq, Option.bind_some]
      show (Option.bind (some (D.str t)) _) = _
      rw [Option.bind_some, this]
      rfl
    have k3 : sSet 4 (xCallV 1 d_marks (xCons (xSl dSl (xVar 0) xNo (xSome (xVar 3))) xNil)) E1 = some (.nx E2) := sset_v (xcall1 s1 ma)
    have k4 : sSet 5 (xCallV 1 d_marks (xCons (xSl dSl (xVar 0) (xSome (xOp dAdd (xVar 3) (xC (.int 1)))) xNo) xNil)) E2 = some (.nx E3) := sset_v (xcall1 s2 mb)
    have v4 : xVar 4 E3 = some (.v (.str (mk a)), E3) := xvar_f rfl
    have v5 : xVar 5 E3 = some (.v (.str (mk b)), E3) := xvar_f rfl
    have n1 : xB (xOp dIsNot (xVar 1) (xC .non)) E3 = some (decide (l ≠ none), E3) := by
      rw [xB_eq, xop_v (vl _ _ _) rfl (okd_isnot l)]; rfl
    have n2 : xB (xOp dIsNot (xVar 2) (xC .non)) E3 = some (decide (r ≠ none), E3) := by
      rw [xB_eq, xop_v (vr _ _ _) rfl (okd_isnot r)]; rfl
    have bt : qAnd (xB (xOp dIsNot (xVar 1) (xC .non))) (xB (xOp dIsNot (xVar 2) (xC .non))) E3 = some (both l r, E3) := by
      rw [qAnd_eq, n1, Option.bind_some]
      dsimp only
      rw [n2]
      rcases l with _ | l <;> rcases r with _ | r <;> rfl
    have ix := xop_v (o := dIx) (vt (j : Int) (some (.str (mk a))) (some (.str (mk b)))) (v3 _ _) (ix_str tj hc)
    have w10 : xB (xOp dEq (xOp dIx (xVar 0) (xVar 3)) (xC (.str [10]))) E3 = some (decide (w = 10), E3) := by
      rw [xB_eq, xop_v ix rfl (dEq_str _ _)]
      show some (decide (([w] : List Nat) = [10]), E3) = _
      congr 2
      exact decide_eq_decide.mpr (by simp)
    have z1 : xB (xOp dEq (xVar 1) (xC (.str [122, 101, 114, 111]))) E3 = some (decide (l = some .zero), E3) := by
      rw [xB_eq, xop_v (vl _ _ _) rfl (okd_eq l .zero)]; rfl
    have z2 : xB (xOp dEq (xVar 2) (xC (.str [122, 101, 114, 111]))) E3 = some (decide (r = some .zero), E3) := by
      rw [xB_eq, xop_v (vr _ _ _) rfl (okd_eq r .zero)]; rfl
    have cA : (mk a).length + 1 ≤ cap := Nat.le_trans (by omega : _ ≤ 200000) (by decide)
    have cB : (mk a).length + 1 + (mk b).length ≤ cap := Nat.le_trans (by omega : _ ≤ 200000) (by decide)
    have cC : (mk a).length + (mk b).length ≤ cap := Nat.le_trans (by omega : _ ≤ 200000) (by decide)
    have fin : ∀ x, gform t l r = x → b_gap_form E0 = some (.rt (.v (.str x)) E3) → d_gap_form [.str t, okd l, okd r] = some (.v (.str (gform t l r)), [.str t, okd l, okd r]) := by
      intro x ex hb
      refine dn_rt E0 rfl rfl hb (by rw [ex]; rfl) (by simp [argsB, E3, Ek])
    unfold b_gap_form at fin
    rw [sseq_nx k1, sseq_nx k2, sseq_nx k3, sseq_nx k4] at fin
    by_cases q1 : both l r = true
    · rw [q1] at bt
      rw [if_pos q1] at eg
      refine fin _ eg ?_
      refine sseq_rt ?_
      rw [sif_t bt]
      refine sret_v (xop_v (xop_v v4 rfl (add_str cA)) v5 ?_)
      rw [add_str (by simpa using cB)]
      simp
    rw [eq_false_of_ne_true q1] at bt
    rw [if_neg q1] at eg
    have k5 : ∀ f, sIf (qAnd (xB (xOp dIsNot (xVar 1) (xC .non))) (xB (xOp dIsNot (xVar 2) (xC .non)))) f sNil E3 = some (.nx E3) := fun f => by rw [sif_f bt]; rfl
    rw [sseq_nx (k5 _)] at fin
    have b2 : qAnd (xB (xOp dEq (xOp dIx (xVar 0) (xVar 3)) (xC (.str [10])))) (xB (xOp dEq (xVar 2) (xC (.str [122, 101, 114, 111])))) E3 = some (decide (w = 10 ∧ r = some .zero), E3) := by
      rw [qAnd_eq, w10, Option.bind_some]
      dsimp only
      rw [z2]
      by_cases q : w = 10 <;> simp [q]
    have b3 : qAnd (xB (xOp dEq (xOp dIx (xVar 0) (xVar 3)) (xC (.str [10])))) (xB (xOp dEq (xVar 1) (xC (.str [122, 101, 114, 111])))) E3 = some (decide (w = 10 ∧ l = some .zero), E3) := by
      rw [qAnd_eq, w10, Option.bind_some]
      dsimp only
      rw [z1]
      by_cases q : w = 10 <;> simp [q]
    by_cases q2 : w = 10 ∧ r = some .zero
    · rw [decide_eq_true q2] at b2
      rw [if_pos q2] at eg
      refine fin _ eg ?_
      refine sseq_rt ?_
      rw [sif_t b2]
      exact sret_v (xop_v (xop_v v4 v5 (add_str cC)) rfl (add_str (by simp; omega)))
    rw [decide_eq_false q2] at b2
    rw [if_neg q2] at eg
    have k6 : ∀ f, sIf (qAnd (xB (xOp dEq (xOp dIx (xVar 0) (xVar 3)) (xC (.str [10])))) (xB (xOp dEq (xVar 2) (xC (.str [122, 101, 114, 111]))))) f sNil E3 = some (.nx E3) := fun f => by rw [sif_f b2]; rfl
    rw [sseq_nx (k6 _)] at fin
    by_cases q3 : w = 10 ∧ l = some .zero
    · rw [decide_eq_true q3] at b3
      rw [if_pos q3] at eg
      refine fin _ eg ?_
      refine sseq_rt ?_
      rw [sif_t b3]
      refine sret_v (xop_v (xop_v rfl v4 (add_str (by simp; omega))) v5 ?_)
      rw [add_str (by simp; omega)]
      simp
    rw [decide_eq_false q3] at b3
    rw [if_neg q3] at eg
    have k7 : ∀ f, sIf (qAnd (xB (xOp dEq (xOp dIx (xVar 0) (xVar 3)) (xC (.str [10])))) (xB (xOp dEq (xVar 1) (xC (.str [122, 101, 114, 111]))))) f sNil E3 = some (.nx E3) := fun f => by rw [sif_f b3]; rfl
    rw [sseq_nx (k7 _)] at fin
    refine fin _ eg ?_
    refine sret_v (xop_v (xop_v v4 ix (add_str cA)) v5 ?_)
    rw [add_str (by simpa using cB)]
    simp
  by_cases h1 : endO l r = true
  · exact neg (by unfold whT; rw [if_pos h1]) (gform_end t l r h1)
  by_cases h2 : 10 ∈ t
  · by_cases h3 : joinO l r = true
    · refine neg (by unfold whT; rw [if_neg h1, if_pos h2, if_pos h3]) ?_
      unfold gform
      have hb : both l r = true := by rcases l with _ | l <;> rcases r with _ | r <;> first | (cases h3; done) | rfl
      rw [if_neg h1, if_pos h2, if_pos hb, if_pos h3]
    · obtain ⟨e1, e2, e3⟩ := idx_split h2
      refine pos (t.idxOf 10) 10 _ _ (by unfold whT; rw [if_neg h1, if_pos h2, if_neg h3]) e1 (by rw [List.length_take]; omega) ?_
      generalize t.take (t.idxOf 10) = a at *
      generalize t.drop (t.idxOf 10 + 1) = b at *
      unfold gform
      rw [if_neg h1, if_pos h2, if_neg h3]
      clear_value E0 Ek
      clear neg pos k1 hm wh vl vr vt
      subst e1
      rw [f2s_split e2, mk_split (.inr rfl), rd1_split (.inr rfl) e2]
      simp
  · by_cases h3 : 32 ∈ t
    · obtain ⟨e1, e2, e3⟩ := idx_split h3
      refine pos (t.idxOf 32) 32 _ _ (by unfold whT; rw [if_neg h1, if_neg h2, if_pos h3]) e1 (by rw [List.length_take]; omega) ?_
      generalize t.take (t.idxOf 32) = a at *
      generalize t.drop (t.idxOf 32 + 1) = b at *
      unfold gform
      rw [if_neg h1, if_neg h2]
      clear_value E0 Ek
      clear neg pos k1 hm wh vl vr vt
      subst e1
      rw [rd1_split (.inl rfl) e2]
      simp
    · refine neg (by unfold whT; rw [if_neg h1, if_neg h2, if_neg h3]) ?_
      unfold gform
      rw [if_neg h1, if_neg h2, rd1_no (.inl rfl) h3]
end Den

namespace Den
open PySem PySem.Spec PyProof.Rows L2
/-! ### normal forms -/
def txG (x : List U) (g : Gap) : List (List Nat) := gform (sg g.cur) g.l g.r :: (if g.r = none then [] else [[shC (atU x (g.s + g.cur.length))]])
def txL : SG → List (List Nat)
  | [] => []
  | (u, h) :: L => [shC u] :: gform (sg h) (some u.k) (hdK L) :: txL L
theorem tx_gps : ∀ (L : SG) (pre c : List U) (l : Ok), (gps none pre.length c l L).flatMap (txG (pre ++ (c ++ flatL L))) = gform (sg c) l (hdK L) :: txL L
  | [], pre, c, l => by
    rw [gps, List.flatMap_singleton]
    unfold txG
    rw [if_pos rfl]
    rfl
  | (u, h) :: L, pre, c, l => by
    have e : pre ++ (c ++ flatL ((u, h) :: L)) = (pre ++ (c ++ [u])) ++ (h ++ flatL L) := by simp [flatL]
    have ih := tx_gps L (pre ++ (c ++ [u])) h (some u.k)
    rw [show (pre ++ (c ++ [u])).length = pre.length + c.length + 1 by simp; omega] at ih
    have e2 : pre ++ (c ++ flatL ((u, h) :: L)) = (pre ++ c) ++ ([u] ++ (h ++ flatL L)) := by simp [flatL]
    have ea := atU_app (pre ++ c) [u] (h ++ flatL L) 0 u rfl
    rw [Nat.add_zero, List.length_append, ← e2] at ea
    have e1 : txG (pre ++ (c ++ flatL ((u, h) :: L))) ⟨pre.length, c, l, some u.k⟩ = [gform (sg c) l (some u.k), [shC u]] := by
      unfold txG
      rw [if_neg (by simp)]
      show [_, [shC (atU _ (pre.length + c.length))]] = _
      rw [ea]
    rw [gps, List.flatMap_cons, e1, e, ih]
    rfl
theorem tx_eq (x : List U) : (gp none 0 [] none x).flatMap (txG x) = (nf x).1 :: txL (split x).2 := by
  have := tx_gps (split x).2 [] (split x).1 none
  rw [List.nil_append, flat_split] at this
  rw [gp_gps, List.nil_append]
  exact this
theorem txL_end : ∀ {L : SG}, L ≠ [] → ∃ i, txL L = i ++ [(bd L).2] ∧ i.flatten = (bd L).1
  | [], h => absurd rfl h
  | [(s, h)], _ => ⟨[[shC s]], rfl, by simp [bd]⟩
  | (s, h) :: (s', h') :: r, _ => by
    obtain ⟨i, e1, e2⟩ := txL_end (L := (s', h') :: r) (List.cons_ne_nil _ _)
    refine ⟨[shC s] :: gform (sg h) (some s.k) (some s'.k) :: i, ?_, ?_⟩
    · show _ :: _ :: txL ((s', h') :: r) = _
      rw [e1]
      rfl
    · rw [List.flatten_cons, List.flatten_cons, e2]
      rfl
theorem gp_solid (o : Ok) : ∀ (us : List U) (s : Nat) (cur : List U) (l : Ok), ∀ g ∈ gp o s cur l us, (g.s + g.cur.length < s + cur.length + us.length) ∨ g.r = o ∧ g.s + g.cur.length = s + cur.length + us.length
  | [], s, cur, l, g, hg => by
    rw [gp, List.mem_singleton] at hg
    subst hg
    exact .inr ⟨rfl, by simp⟩
  | u :: us, s, cur, l, g, hg => by
    rw [gp] at hg
    split at hg
    · have := gp_solid o us s (cur ++ [u]) l g hg
      rw [List.length_append, List.length_singleton] at this
      rw [List.length_cons]
      rcases this with h | ⟨h1, h2⟩
      · left; omega
      · exact .inr ⟨h1, by omega⟩
    · rcases List.mem_cons.mp hg with rfl | hg
      · left; simp
      · have := gp_solid o us (s + cur.length + 1) [] (some u.k) g hg
        rw [List.length_nil] at this
        rw [List.length_cons]
        rcases this with h | ⟨h1, h2⟩
        · left; omega
        · exact .inr ⟨h1, by omega⟩
def nfB : Es := (sSeq (sExpr (xApp 2 (xCallV 3 d_gap_form (xCons (xVar 4) (xCons (xVar 5) (xCons (xVar 6) xNil))))))
  (sIf (xB (xOp dIsNot (xVar 6) (xC .non)))
  (sSeq (sAsg (xOp dIx (xVar 1) (xOp dAdd (xVar 3) (xCB dLen (xCons (xVar 4) xNil)))) (gA 2 (gsCons (gN 7) (gsCons (gN 8) gsNil))))
  (sExpr (xApp 2 (xCallV 2 d_shown_sign (xCons (xVar 7) (xCons (xVar 8) xNil))))))
  sNil))
def nfE (F : D) (x : List U) (ts : List (List Nat)) (a1 a2 a3 a4 b c : Option D) : Env := [some F, some (.lst (x.map U.d)), some (.own (ts.map D.str)), a1, a2, a3, a4, b, c]
theorem xapp_v {i : Nat} {f : Ex} {ρ ρ' : Env} {d : D} {ds : List D} (h : f ρ = some (.v d, ρ')) (h0 : gt ρ i = some (.own ds)) (h1 : gt ρ' i = some (.own ds)) (hl : ds.length < cap) : sExpr (xApp i f) ρ = some (.nx (ρ'.set i (some (.own (ds ++ [d]))))) := by
  have l : lV i ρ = some (i, []) := by rw [lV_eq, h0]; rfl
  rw [sExpr_eq, xApp_eq, l, Option.bind_some, h, Option.bind_some]
  show ((Option.bind (some d) _).map _) = _
  rw [Option.bind_some, h1, Option.bind_some, apK_own, if_pos hl]
  rfl
theorem len_str {s : List Nat} (h : s.length ≤ cap) : dLen [.str s] = some (.int (s.length : Nat)) := by
  show (if _ then _ else _) = _
  rw [if_pos h]
theorem xcb1 {o : List D → Option D} {f : Ex} {ρ ρ' : Env} {d z : D} (h : f ρ = some (.v d, ρ')) (ho : o [d] = some z) : xCB o (xCons f xNil) ρ = some (.v z, ρ') := by
  simp [h, ho]
theorem gform_len (t : List Nat) (l r : Ok) : (gform t l r).length ≤ t.length := by
  have h1 := mk_le t
  have h2 : ∀ w, w = 32 ∨ w = 10 → (rd1 w t).length ≤ t.length := by
    intro w hw
    induction t with
    | nil => simp [rd1]
    | cons c t ih =>
      have ih := ih (mk_le t)
      have m := mk_le t
      rw [rd1]
      split
      · simp; omega
      · split <;> simp <;> omega
  have h3 : 10 ∈ t → (mk t).length + 1 ≤ t.length := fun h => by
    obtain ⟨e, _, _⟩ := idx_split h
    have a := congrArg (fun z => (mk z).length) e
    have b := congrArg List.length e
    have m1 := mk_le (t.take (t.idxOf 10))
    have m2 := mk_le (t.drop (t.idxOf 10 + 1))
    simp only [mk_split (.inr rfl), List.length_append, List.length_cons] at a b
    omega
  have h4 := h2 10 (.inr rfl)
  have h5 := h2 32 (.inl rfl)
  have h6 : (f2s (rd1 10 t)).length ≤ t.length := by unfold f2s; rw [List.length_map]; exact h4
  unfold gform
  split
  · exact h1
  split
  · rename_i h
    have := h3 h
    (repeat' split) <;> first
      | exact h1
      | exact h4
      | exact h6
      | (simp; omega)
  · exact h5
theorem nfB_st (F : D) (x : List U) (ts : List (List Nat)) (g : Gap) (b c : Option D) (hx : x.length < 90000) (hg : ∀ u ∈ g.cur, gk u.k = true) (hs : g.s + g.cur.length ≤ x.length) (hr : g.r = none ∨ g.s + g.cur.length < x.length) (ht : ts.length + 1 < 300000) :
    ∃ b' c', nfB (nfE F x ts (some (.int (g.s : Nat))) (some (.str (sg g.cur))) (some (okd g.l)) (some (okd g.r)) b c) = some (.nx (nfE F x (ts ++ txG x g) (some (.int (g.s : Nat))) (some (.str (sg g.cur))) (some (okd g.l)) (some (okd g.r)) b' c')) := by
  have gs := gsn_sg hg
  have sl : (sg g.cur).length = g.cur.length := by simp [sg]
  have e := den_gap_form gs (by omega) g.l g.r
  let A (ts : List (List Nat)) (b c : Option D) := nfE F x ts (some (.int (g.s : Nat))) (some (.str (sg g.cur))) (some (okd g.l)) (some (okd g.r)) b c
  have k1 : sExpr (xApp 2 (xCallV 3 d_gap_form (xCons (xVar 4) (xCons (xVar 5) (xCons (xVar 6) xNil))))) (A ts b c) = some (.nx (A (ts ++ [gform (sg g.cur) g.l g.r]) b c)) := by
    have := xapp_v (i := 2) (f := xCallV 3 d_gap_form (xCons (xVar 4) (xCons (xVar 5) (xCons (xVar 6) xNil)))) (ρ := A ts b c) (ρ' := A ts b c) (ds := ts.map D.str) (xcall3 (xvar_f rfl) (xvar_f rfl (okd_flat g.l)) (xvar_f rfl (okd_flat g.r)) e) rfl rfl (by rw [List.length_map]; exact Nat.lt_of_lt_of_le (by omega : ts.length < 300000) (by decide))
    rw [this]
    show some (O.nx [_, _, some (.own (ts.map D.str ++ [D.str (gform (sg g.cur) g.l g.r)])), _, _, _, _, _, _]) = some (O.nx [_, _, some (.own ((ts ++ [gform (sg g.cur) g.l g.r]).map D.str)), _, _, _, _, _, _])
    rw [List.map_append]
    rfl
  have vr : ∀ ts b c, xVar 6 (A ts b c) = some (.v (okd g.r), A ts b c) := fun ts b c => xvar_f (i := 6) (d := okd g.r) rfl (okd_flat g.r)
  have tst : ∀ ts b c, xB (xOp dIsNot (xVar 6) (xC .non)) (A ts b c) = some (decide (g.r ≠ none), A ts b c) := fun ts b c => by
    rw [xB_eq, xop_v (vr ts b c) rfl (okd_isnot g.r)]; rfl
  unfold nfB
  show ∃ b' c', sSeq _ _ (A ts b c) = some (.nx (A (ts ++ txG x g) b' c'))
  rw [sseq_nx k1]
  by_cases q : g.r = none
  · refine ⟨b, c, ?_⟩
    rw [sif_f (by rw [tst, decide_eq_false (by simp [q])])]
    unfold txG
    rw [if_pos q]
    rfl
  · have hk : g.s + g.cur.length < x.length := hr.resolve_left q
    let ts1 := ts ++ [gform (sg g.cur) g.l g.r]
    let u := atU x (g.s + g.cur.length)
    rw [sif_t (by rw [tst, decide_eq_true q])]
    have ix := dIx_U hk
    have ad : xOp dAdd (xVar 3) (xCB dLen (xCons (xVar 4) xNil)) (A ts1 b c) = some (.v (iD (g.s + g.cur.length)), A ts1 b c) := by
      refine xop_v (xvar_f rfl) (xcb1 (xvar_f rfl) (len_str (by rw [sl]; exact Nat.le_trans (by omega : g.cur.length ≤ 90000) (by decide)))) ?_
      rw [sl]
      rfl
    have ux := xop_v (o := dIx) (xvar_f (i := 1) (ρ := A ts1 b c) (d := .lst (x.map U.d)) rfl) ad ix
    have k2 : sAsg (xOp dIx (xVar 1) (xOp dAdd (xVar 3) (xCB dLen (xCons (xVar 4) xNil)))) (gA 2 (gsCons (gN 7) (gsCons (gN 8) gsNil))) (A ts1 b c) = some (.nx (A ts1 (some (.str u.1.s)) (some (.str [u.2])))) := by
      rw [sAsg_eq, ux]
      rfl
    rw [sseq_nx k2]
    have sh := den_shsign u
    have k3 := xapp_v (i := 2) (f := xCallV 2 d_shown_sign (xCons (xVar 7) (xCons (xVar 8) xNil))) (ρ := A ts1 (some (.str u.1.s)) (some (.str [u.2]))) (ds := ts1.map D.str) (xcall2 (xvar_f rfl) (xvar_f rfl) sh) rfl rfl (by rw [List.length_map]; exact Nat.lt_of_lt_of_le (by simp [ts1]; omega : ts1.length < 300000) (by decide))
    refine ⟨some (.str u.1.s), some (.str [u.2]), ?_⟩
    rw [k3]
    show some (O.nx [_, _, some (.own (ts1.map D.str ++ [D.str [shC u]])), _, _, _, _, _, _]) = some (O.nx [_, _, some (.own ((ts ++ txG x g).map D.str)), _, _, _, _, _, _])
    unfold txG
    rw [if_neg q]
    simp [ts1, u]
theorem txG_len (x : List U) (g : Gap) : (txG x g).length ≤ 2 := by unfold txG; split <;> simp
theorem nf_loop (F : D) (x : List U) (hx : x.length < 90000) : ∀ (G : List Gap) (ts : List (List Nat)) (a1 a2 a3 a4 b c : Option D), (∀ g ∈ G, (∀ u ∈ g.cur, gk u.k = true) ∧ g.s + g.cur.length ≤ x.length ∧ (g.r = none ∨ g.s + g.cur.length < x.length)) → ts.length + 2 * G.length < 290000 →
    ∃ y1 y2 y3 y4 b' c', forL (gA 4 (gsCons (gN 3) (gsCons (gN 4) (gsCons (gN 5) (gsCons (gN 6) gsNil))))) nfB (G.map Gap.d) (nfE F x ts a1 a2 a3 a4 b c) = some (.nx (nfE F x (ts ++ G.flatMap (txG x)) y1 y2 y3 y4 b' c'))
  | [], ts, a1, a2, a3, a4, b, c, _, _ => ⟨a1, a2, a3, a4, b, c, by simp [forL]⟩
  | g :: G, ts, a1, a2, a3, a4, b, c, hg, hl => by
    rw [List.length_cons] at hl
    obtain ⟨h1, h2, h3⟩ := hg g (List.mem_cons_self ..)
    obtain ⟨b1, c1, e⟩ := nfB_st F x ts g b c hx h1 h2 h3 (by omega)
    have tl := txG_len x g
    obtain ⟨y1, y2, y3, y4, b', c', e2⟩ := nf_loop F x hx G (ts ++ txG x g) (some (.int (g.s : Nat))) (some (.str (sg g.cur))) (some (okd g.l)) (some (okd g.r)) b1 c1 (fun h hh => hg h (List.mem_cons_of_mem _ hh)) (by rw [List.length_append]; omega)
    refine ⟨y1, y2, y3, y4, b', c', ?_⟩
    have g1 : gA 4 (gsCons (gN 3) (gsCons (gN 4) (gsCons (gN 5) (gsCons (gN 6) gsNil)))) g.d (nfE F x ts a1 a2 a3 a4 b c) = some (nfE F x ts (some (.int (g.s : Nat))) (some (.str (sg g.cur))) (some (okd g.l)) (some (okd g.r)) b c) := rfl
    rw [List.map_cons, forL_cons, g1]
    show (nfB _).bind _ = _
    rw [e, List.flatMap_cons, ← List.append_assoc]
    exact e2
def nfD (f : NF) : D := .tup [.str f.1, .str f.2.1, .str f.2.2]
theorem nf_eq : b_normal_form = (sSeq (sSet 1 (xCallV 1 d_units (xCons (xVar 0) xNil)))
  (sSeq (sSet 2 (xLst xNil))
  (sSeq (sFor (iA (xCallV 2 d_gaps (xCons (xVar 1) (xCons (xC .non) xNil)))) (gA 4 (gsCons (gN 3) (gsCons (gN 4) (gsCons (gN 5) (gsCons (gN 6) gsNil))))) nfB)
  (sSeq (sIf (xB (xOp dEq (xCB dLen (xCons (xVar 2) xNil)) (xC (.int 1))))
  (sRet (xTup (xCons (xOp dIx (xVar 2) (xC (.int 0))) (xCons (xC (.str [])) (xCons (xC (.str [])) xNil)))))
  sNil)
  (sRet (xTup (xCons (xOp dIx (xVar 2) (xC (.int 0))) (xCons (xBM "str" dJoin (xC (.str [])) (xCons (xSl dSl (xFz (xVar 2)) (xSome (xC (.int 1))) (xSome (xUn dNeg (xC (.int 1))))) xNil)) (xCons (xOp dIx (xVar 2) (xUn dNeg (xC (.int 1)))) xNil))))))))) := rfl
theorem strsOf_map : ∀ ts : List (List Nat), strsOf (ts.map D.str) = some ts
  | [] => rfl
  | t :: ts => by
    have ih := strsOf_map ts
    show (strOf (D.str t)).bind (fun s => (strsOf (ts.map D.str)).map fun ss => s :: ss) = _
    rw [ih]
    rfl
theorem bd_len : ∀ L : SG, (bd L).1.length + (bd L).2.length ≤ (flatL L).length
  | [] => by simp [bd]
  | [(s, h)] => by
    have := gform_len (sg h) (some s.k) none
    have sl : (sg h).length = h.length := by simp [sg]
    simp [bd, flatL]
    omega
  | (s, h) :: (s', h') :: r => by
    have ih := bd_len ((s', h') :: r)
    have := gform_len (sg h) (some s.k) (some s'.k)
    have sl : (sg h).length = h.length := by simp [sg]
    have e : (flatL ((s, h) :: (s', h') :: r)).length = h.length + 1 + (flatL ((s', h') :: r)).length := by simp [flatL]; omega
    rw [e]
    show (shC s :: gform (sg h) (some s.k) (some s'.k) ++ (bd ((s', h') :: r)).1).length + (bd ((s', h') :: r)).2.length ≤ _
    rw [List.length_append, List.length_cons]
    omega
def nfTot (f : NF) : Nat := f.1.length + f.2.1.length + f.2.2.length
theorem nf_tot (x : List U) : nfTot (nf x) ≤ x.length := by
  have b := bd_len (split x).2
  have fl := congrArg List.length (flat_split x)
  rw [List.length_append] at fl
  have g := gform_len (sg (split x).1) none (hdK (split x).2)
  have sl : (sg (split x).1).length = (split x).1.length := by simp [sg]
  unfold nfTot nf
  dsimp only
  omega
theorem den_normal_form (fr : List (Md × List Nat)) (h : (us fr).length < 90000) : d_normal_form [.lst (fr.map encR)] = some (.v (nfD (nf (us fr))), [.lst (fr.map encR)]) := by
  let F : D := .lst (fr.map encR)
  have h' : (us fr).length ≤ cap := Nat.le_trans (by omega : (us fr).length ≤ 90000) (by decide)
  have e1 := den_units fr h'
  generalize us fr = x at *
  have e2 := den_gaps none x h
  have gl := gp_len none x
  obtain ⟨y1, y2, y3, y4, b', c', e3⟩ := nf_loop F x h (gp none 0 [] none x) [] none none none none none none (fun g hg => ⟨gp_gk none x 0 [] none (fun u hu => by cases hu) g hg, by
      have := gp_solid none x 0 [] none g hg
      rw [List.length_nil] at this
      omega, by
      have := gp_solid none x 0 [] none g hg
      rw [List.length_nil] at this
      rcases this with h | ⟨h1, _⟩
      · exact .inr (by omega)
      · exact .inl h1⟩) (by rw [List.length_nil]; omega)
  rw [List.nil_append, tx_eq] at e3
  let TS := (nf x).1 :: txL (split x).2
  let E0 : Env := [some F, none, none, none, none, none, none, none, none]
  let E1 : Env := [some F, some (.lst (x.map U.d)), none, none, none, none, none, none, none]
  let E2 := nfE F x [] none none none none none none
  let E3 := nfE F x TS y1 y2 y3 y4 b' c'
  have k1 : sSet 1 (xCallV 1 d_units (xCons (xVar 0) xNil)) E0 = some (.nx E1) := sset_v (xcall1 (xvar_f rfl) e1)
  have k2 : sSet 2 (xLst xNil) E1 = some (.nx E2) := rfl
  have k3 : sFor (iA (xCallV 2 d_gaps (xCons (xVar 1) (xCons (xC .non) xNil)))) (gA 4 (gsCons (gN 3) (gsCons (gN 4) (gsCons (gN 5) (gsCons (gN 6) gsNil))))) nfB E2 = some (.nx E3) := by
    have := xcall2 (ρ := E2) (f := xVar 1) (g := xC .non) (xvar_f rfl) rfl e2
    rw [sFor_eq, iA_eq, this]
    exact e3
  have ln : xCB dLen (xCons (xVar 2) xNil) E3 = some (.v (.int (TS.length : Nat)), E3) := by
    have : xVar 2 E3 = some (.at 2, E3) := rfl
    rw [xCB_eq, xCons_eq, this]
    show some (R.v (.int ((TS.map D.str).length : Nat)), E3) = _
    rw [List.length_map]
  have ix0 : xOp dIx (xVar 2) (xC (.int 0)) E3 = some (.v (.str (nf x).1), E3) := by
    have : xVar 2 E3 = some (.at 2, E3) := rfl
    rw [xOp_eq, this]
    show ((dIx (.own (TS.map D.str)) (.int 0)).map fun z => (R.v z, E3)) = _
    show ((Option.bind (atI (D.str (nf x).1 :: (txL (split x).2).map D.str) 0) fun d => if d.flat then some d else none).map fun z => (R.v z, E3)) = _
    unfold atI ixN
    simp
  have tt : xB (xOp dEq (xCB dLen (xCons (xVar 2) xNil)) (xC (.int 1))) E3 = some (decide (TS.length = 1), E3) := by
    rw [xB_eq, xop_v ln rfl (dEq_int _ _)]
    show some (decide _, E3) = _
    congr 2
    exact decide_eq_decide.mpr (by omega)
  have main : ∃ ρ, b_normal_form E0 = some (.rt (.v (nfD (nf x))) ρ) ∧ gt ρ 0 = some F := by
    rw [nf_eq, sseq_nx k1, sseq_nx k2, sseq_nx k3]
    by_cases q : (split x).2 = []
    · refine ⟨E3, ?_, rfl⟩
      have t1 : TS.length = 1 := by show (_ :: txL (split x).2).length = 1; rw [q]; rfl
      rw [decide_eq_true t1] at tt
      refine sseq_rt ?_
      rw [sif_t tt]
      refine sret_v ?_
      rw [xTup_eq, xCons_eq, ix0]
      show some (R.v (.tup [.str (nf x).1, .str [], .str []]), E3) = _
      unfold nfD nf
      rw [q]
      rfl
    · obtain ⟨i, t1, t2⟩ := txL_end q
      have tl : TS = (nf x).1 :: (i ++ [(bd (split x).2).2]) := by show _ :: _ = _; rw [t1]
      have t3 : ¬ TS.length = 1 := by rw [tl]; simp
      rw [decide_eq_false t3] at tt
      have k4 : ∀ f, sIf (xB (xOp dEq (xCB dLen (xCons (xVar 2) xNil)) (xC (.int 1)))) f sNil E3 = some (.nx E3) := fun f => by rw [sif_f tt]; rfl
      rw [sseq_nx (k4 _)]
      let E4 : Env := [some F, some (.lst (x.map U.d)), some (.lst (TS.map D.str)), y1, y2, y3, y4, b', c']
      refine ⟨E4, ?_, rfl⟩
      refine sret_v ?_
      have fzt : (TS.map D.str).map fz = TS.map D.str := by
        rw [List.map_map]
        exact List.map_congr_left fun t _ => fz_str t
      have f2 : xFz (xVar 2) E3 = some (.v (.lst (TS.map D.str)), E4) := by
        have : xVar 2 E3 = some (.at 2, E3) := rfl
        rw [xFz_eq, this, Option.bind_some, fzK_at]
        show some (R.v (fz (.own (TS.map D.str))), E3.set 2 (some (fz (.own (TS.map D.str))))) = _
        rw [fz_own, fzt]
        rfl
      have ne : xUn dNeg (xC (.int 1)) E4 = some (.v (.int (-1)), E4) := rfl
      have sl : dSl (.lst (TS.map D.str)) (some 1) (some (-1)) = some (.lst (i.map D.str)) := by
        show some (D.lst (cutL (TS.map D.str) (some 1) (some (-1)))) = _
        congr 2
        unfold cutL
        have l1 : (TS.map D.str).length = i.length + 2 := by rw [tl]; simp
        have a1 : HT.sIx (TS.map D.str).length 0 (some 1) = 1 := by
          rw [l1]
          exact (HT.sIx_nat _ _ 1).trans (by omega)
        have a2 : HT.sIx (TS.map D.str).length (TS.map D.str).length (some (-1)) = i.length + 1 := by
          rw [l1]
          show ((-1 : Int) + ((i.length + 2 : Nat) : Int)).toNat = _
          omega
        rw [a1, a2, tl]
        simp
      have slx : xSl dSl (xFz (xVar 2)) (xSome (xC (.int 1))) (xSome (xUn dNeg (xC (.int 1)))) E3 = some (.v (.lst (i.map D.str)), E4) := by
        rw [xSl_eq, f2, Option.bind_some]
        show (Option.bind ((xSome (xUn dNeg (xC (.int 1)))) E4) fun b => Option.bind (dr b.2 (.v (.lst (TS.map D.str)))) fun x => (dSl x (some 1) b.1).map fun z => (R.v z, b.2)) = _
        rw [xSome_eq, ne]
        show (dSl (.lst (TS.map D.str)) (some 1) (some (-1))).map (fun z => (R.v z, E4)) = _
        rw [sl]
        rfl
      have tot : i.flatten.length ≤ cap := by
        have c1 : coreOk (nf x).2.1 := (nf_isNF x).2.2.1
        have : (bd (split x).2).1.length ≤ 200000 := by
          have := bd_len (split x).2
          have fl := congrArg List.length (flat_split x)
          rw [List.length_append] at fl
          omega
        rw [t2]
        exact Nat.le_trans this (by decide)
      have jn : xBM "str" dJoin (xC (.str [])) (xCons (xSl dSl (xFz (xVar 2)) (xSome (xC (.int 1))) (xSome (xUn dNeg (xC (.int 1))))) xNil) E3 = some (.v (.str (bd (split x).2).1), E4) := by
        rw [xBM_eq]
        show (Option.bind ((xCons (xSl dSl (xFz (xVar 2)) (xSome (xC (.int 1))) (xSome (xUn dNeg (xC (.int 1))))) xNil) E3) fun q => Option.bind (dr q.2 (.v (.str []))) fun x => Option.bind (dAll q.2 q.1) fun ds => (dJoin x ds).map fun z => (R.v z, q.2)) = _
        rw [xCons_eq, slx]
        show (dJoin (.str []) [.lst (i.map D.str)]).map (fun z => (R.v z, E4)) = _
        have : dJoin (.str []) [.lst (i.map D.str)] = some (.str i.flatten) := by
          show (strsOf (i.map D.str)).bind (fun ss => if ss.flatten.length ≤ cap then some (D.str ss.flatten) else none) = _
          rw [strsOf_map, Option.bind_some, if_pos tot]
        rw [this, t2]
        rfl
      have ixl : xOp dIx (xVar 2) (xUn dNeg (xC (.int 1))) E4 = some (.v (.str (bd (split x).2).2), E4) := by
        refine xop_v (xvar_f rfl) ne ?_
        show atI (TS.map D.str) (-1) = _
        unfold atI
        rw [tl, show (((nf x).1 :: (i ++ [(bd (split x).2).2])).map D.str).length = (i.length + 1) + 1 by simp, ix_last]
        simp
      rw [xTup_eq, xCons_eq, ix0, Option.bind_some]
      dsimp only
      rw [xCons_eq, jn, Option.bind_some]
      dsimp only
      rw [xCons_eq, ixl]
      rfl
  obtain ⟨ρ, m1, m2⟩ := main
  refine dn_rt E0 rfl rfl m1 rfl ?_
  show ((if F.flat then some F else if W_normal_form.contains 0 then none else gt ρ 0).bind fun x => (argsB W_normal_form ρ 1 []).map fun xs => x :: xs) = _
  rfl
end Den

namespace Den
open PySem PySem.Spec PyProof.Rows L2
/-! ### the law's normal form, plainly: from the needed units -/
def ndM : SG → List U
  | [] => []
  | [(s, h)] => [s]
  | (s, h) :: (s', h') :: r => s :: (keptU h (some s.k) (some s'.k) ++ ndM ((s', h') :: r))
def ndE : SG → List U
  | [] => []
  | [(s, h)] => keptU h (some s.k) none
  | _ :: q :: r => ndE (q :: r)
def lsK : SG → Ok
  | [] => none
  | [(s, _)] => some s.k
  | _ :: q :: r => lsK (q :: r)
theorem ndL_split : ∀ L : SG, ndL none L = ndM L ++ ndE L
  | [] => rfl
  | [(s, h)] => by simp [ndL, ndM, ndE, hdO]
  | (s, h) :: (s', h') :: r => by
    rw [ndL, ndL_split ((s', h') :: r)]
    show s :: (keptU h (some s.k) (some s'.k) ++ (_ ++ _)) = s :: (keptU h (some s.k) (some s'.k) ++ ndM ((s', h') :: r)) ++ ndE ((s', h') :: r)
    rw [List.cons_append, List.append_assoc]
theorem filter_rd1 : ∀ (t : List Nat), (rd1 10 t).filter (· != 10) = mk t
  | [] => rfl
  | c :: t => by
    rw [rd1, mk_cons]
    by_cases e : c = 10
    · rw [if_pos e, if_pos (.inr e), List.filter_cons_of_neg (by simp [e])]
      exact List.filter_eq_self.mpr fun d hd => by
        have := (mk_mem.mp hd).2.2
        simpa using this
    · rw [if_neg e]
      by_cases e2 : c = 32
      · rw [if_pos (.inl e2), if_pos (.inl e2), filter_rd1 t]
      · have : ¬ (c = 32 ∨ c = 10) := fun z => z.elim e2 e
        rw [if_neg this, if_neg this, List.filter_cons_of_pos (by simpa using e), filter_rd1 t]
theorem gform_keep_l (t : List Nat) (l : Ok) : gform t l none = if l = some .zero ∧ 10 ∈ keepG t l none then 10 :: (keepG t l none).filter (· != 10) else keepG t l none := by
  unfold gform keepG
  by_cases h1 : endO l none = true
  · rw [if_pos h1, if_pos h1, if_neg (fun z => no10 t z.2)]
  rw [if_neg h1, if_neg h1]
  by_cases h2 : 10 ∈ t
  · have j : joinO l none = false := by cases l <;> rfl
    have b : both l none = false := by cases l <;> rfl
    rw [if_pos h2, if_pos h2, j, b, if_neg Bool.false_ne_true, if_neg (show ¬ ((none : Ok) = some .zero) by decide), if_neg Bool.false_ne_true]
    by_cases h3 : l = some .zero
    · rw [if_pos h3, if_pos ⟨h3, (rd1_mem (.inr rfl) t).mpr h2⟩, filter_rd1]
    · rw [if_neg h3, if_neg (fun z => h3 z.1)]
  · rw [if_neg h2, if_neg h2, if_neg (fun z => rd1_oth (.inr rfl) (by decide) t z.2)]
theorem gform_keep_r (t : List Nat) (r : Ok) : gform t none r = if r = some .zero ∧ 10 ∈ keepG t none r then (keepG t none r).filter (· != 10) ++ [10] else keepG t none r := by
  unfold gform keepG
  by_cases h1 : endO none r = true
  · rw [if_pos h1, if_pos h1, if_neg (fun z => no10 t z.2)]
  rw [if_neg h1, if_neg h1]
  by_cases h2 : 10 ∈ t
  · rw [if_pos h2, if_pos h2, show joinO none r = false from rfl, show both none r = false from rfl, if_neg Bool.false_ne_true, if_neg Bool.false_ne_true]
    by_cases h3 : r = some .zero
    · rw [if_pos h3, if_pos ⟨h3, (rd1_mem (.inr rfl) t).mpr h2⟩, filter_rd1]
    · rw [if_neg h3, if_neg (show ¬ ((none : Ok) = some .zero) by decide), if_neg (fun z => h3 z.1)]
  · rw [if_neg h2, if_neg h2, if_neg (fun z => rd1_oth (.inr rfl) (by decide) t z.2)]
theorem gform_keep_b (t : List Nat) (l r : Kd) : gform t (some l) (some r) = f2s (keepG t (some l) (some r)) := by
  unfold gform keepG
  split
  · rw [f2s_no (no10 t)]
  split
  · rw [show both (some l) (some r) = true from rfl, if_pos rfl]
    split
    · rw [f2s_no (no10 t)]
    · rfl
  · rw [f2s_no (rd1_oth (.inr rfl) (by decide) t)]
theorem shC_gap {u : U} (h : gk u.k = true) : shC u = if u.2 = 10 then 32 else u.2 := by
  have g := gk_sign h
  unfold shC
  rcases gk_or h with e | e | e
  · rw [e, if_neg (by decide), if_neg (by decide), (g.1).mpr e]; rfl
  · rw [e, if_neg (by decide), if_pos rfl, if_pos (g.2.1.mpr e)]
  · rw [e, if_neg (by decide), if_neg (by decide), if_neg (fun z => by have := g.2.1.mp z; rw [e] at this; cases this)]
theorem shC_gaps {c : List U} (h : ∀ u ∈ c, gk u.k = true) : c.map shC = f2s (sg c) := by
  unfold f2s sg
  rw [List.map_map]
  exact List.map_congr_left fun u hu => shC_gap (h u hu)
theorem ndM_map : ∀ {L : SG}, (∀ p ∈ L, gk p.1.k = false ∧ ∀ u ∈ p.2, gk u.k = true) → (ndM L).map shC = (bd L).1
  | [], _ => rfl
  | [(s, h)], _ => rfl
  | (s, h) :: (s', h') :: r, g => by
    have ih := ndM_map (L := (s', h') :: r) fun p hp => g p (List.mem_cons_of_mem _ hp)
    have gh := (g _ (List.mem_cons_self ..)).2
    show (s :: (keptU h (some s.k) (some s'.k) ++ ndM ((s', h') :: r))).map shC = shC s :: gform (sg h) (some s.k) (some s'.k) ++ (bd ((s', h') :: r)).1
    rw [List.map_cons, List.map_append, ih, shC_gaps (fun u hu => gh u (keptU_mem hu)), sg_keptU _ _ _ gh, gform_keep_b]
    rfl
theorem bd2_lsK : ∀ {L : SG}, L ≠ [] → (∀ p ∈ L, gk p.1.k = false ∧ ∀ u ∈ p.2, gk u.k = true) → (bd L).2 = if lsK L = some .zero ∧ 10 ∈ sg (ndE L) then 10 :: (sg (ndE L)).filter (· != 10) else sg (ndE L)
  | [], h, _ => absurd rfl h
  | [(s, h)], _, g => by
    have gh := (g _ (List.mem_cons_self ..)).2
    show gform (sg h) (some s.k) none = _
    rw [gform_keep_l]
    show _ = if some s.k = some .zero ∧ 10 ∈ sg (keptU h (some s.k) none) then 10 :: (sg (keptU h (some s.k) none)).filter (· != 10) else sg (keptU h (some s.k) none)
    rw [sg_keptU _ _ _ gh]
  | (s, h) :: (s', h') :: r, _, g => bd2_lsK (L := (s', h') :: r) (List.cons_ne_nil _ _) fun p hp => g p (List.mem_cons_of_mem _ hp)
/-- the middle begins and ends with a solid unit -/
theorem ndM_ends : ∀ {L : SG}, L ≠ [] → (∀ p ∈ L, gk p.1.k = false) → (∃ u t, ndM L = u :: t ∧ gk u.k = false ∧ hdK L = some u.k) ∧ ∃ t u, ndM L = t ++ [u] ∧ gk u.k = false ∧ lsK L = some u.k
  | [], h, _ => absurd rfl h
  | [(s, h)], _, g => ⟨⟨s, [], rfl, g _ (List.mem_cons_self ..), rfl⟩, [], s, rfl, g _ (List.mem_cons_self ..), rfl⟩
  | (s, h) :: (s', h') :: r, _, g => by
    obtain ⟨_, t, u, e, gu, lu⟩ := ndM_ends (L := (s', h') :: r) (List.cons_ne_nil _ _) fun p hp => g p (List.mem_cons_of_mem _ hp)
    refine ⟨⟨s, _, rfl, g _ (List.mem_cons_self ..), rfl⟩, s :: (keptU h (some s.k) (some s'.k) ++ t), u, ?_, gu, lu⟩
    show s :: (keptU h (some s.k) (some s'.k) ++ ndM ((s', h') :: r)) = _
    rw [e]
    simp
theorem ndE_gk : ∀ {L : SG}, (∀ p ∈ L, gk p.1.k = false ∧ ∀ u ∈ p.2, gk u.k = true) → ∀ u ∈ ndE L, gk u.k = true
  | [], _, u, hu => by cases hu
  | [(s, h)], g, u, hu => (g _ (List.mem_cons_self ..)).2 u (keptU_mem hu)
  | (s, h) :: (s', h') :: r, g, u, hu => ndE_gk (L := (s', h') :: r) (fun p hp => g p (List.mem_cons_of_mem _ hp)) u hu
/-- the places of the solid ones among the needed units -/
def solI (N : List U) : List Nat := (N.zipIdx.filter fun p => !gk p.1.k).map (·.2)
theorem sol_gaps : ∀ (c : List U) (s : Nat), (∀ u ∈ c, gk u.k = true) → (c.zipIdx s).filter (fun p => !gk p.1.k) = []
  | [], _, _ => rfl
  | u :: c, s, h => by
    rw [List.zipIdx_cons, List.filter_cons_of_neg (by simp [h u (List.mem_cons_self ..)]), sol_gaps c _ fun v hv => h v (List.mem_cons_of_mem _ hv)]
theorem solI_mid {A B C : List U} (hA : ∀ u ∈ A, gk u.k = true) (hC : ∀ u ∈ C, gk u.k = true) {u v : U} {t t' : List U} (h1 : B = u :: t) (hu : gk u.k = false) (h2 : B = t' ++ [v]) (hv : gk v.k = false) :
    (∃ r, solI (A ++ B ++ C) = A.length :: r) ∧ ∃ r, solI (A ++ B ++ C) = r ++ [A.length + B.length - 1] := by
  have e : ((A ++ B ++ C).zipIdx).filter (fun p => !gk p.1.k) = (B.zipIdx A.length).filter fun p => !gk p.1.k := by
    rw [List.zipIdx_append, List.zipIdx_append, List.filter_append, List.filter_append, sol_gaps A _ hA, sol_gaps C _ hC]
    simp
  unfold solI
  rw [e]
  constructor
  · rw [h1, List.zipIdx_cons, List.filter_cons_of_pos (by simp [hu])]
    exact ⟨_, rfl⟩
  · rw [h2, List.zipIdx_append, List.filter_append, List.map_append]
    refine ⟨((t'.zipIdx A.length).filter fun p => !gk p.1.k).map (·.2), ?_⟩
    congr 1
    rw [List.zipIdx_cons, List.zipIdx_nil, List.filter_cons_of_pos (by simp [hv])]
    simp
theorem solI_none {A : List U} (hA : ∀ u ∈ A, gk u.k = true) : solI A = [] := by
  unfold solI
  rw [sol_gaps A _ hA]
  rfl
/-- what the law makes of the needed units -/
theorem lform_none (x : List U) (h : (split x).2 = []) : (∀ u ∈ needed none x, gk u.k = true) ∧ nf x = (sg (needed none x), [], []) := by
  have g := split_gk x
  rw [needed_eq, h]
  rw [show ndL none ([] : SG) = [] from rfl, List.append_nil]
  refine ⟨fun u hu => g.1 u (keptU_mem hu), ?_⟩
  rw [sg_keptU _ _ _ g.1]
  unfold nf
  rw [h]
  show (gform (sg (split x).1) none none, [], []) = _
  rw [gform_keep_l, if_neg (fun z => by cases z.1)]
  rfl
theorem lform_some (x : List U) (h : (split x).2 ≠ []) : ∃ A B C : List U, needed none x = A ++ B ++ C ∧ (∀ u ∈ A, gk u.k = true) ∧ (∀ u ∈ C, gk u.k = true) ∧ ∃ (u v : U) (t t' : List U), B = u :: t ∧ gk u.k = false ∧ B = t' ++ [v] ∧ gk v.k = false ∧
    nf x = ((if u.k = .zero ∧ 10 ∈ sg A then (sg A).filter (· != 10) ++ [10] else sg A), B.map shC, (if v.k = .zero ∧ 10 ∈ sg C then 10 :: (sg C).filter (· != 10) else sg C)) := by
  have g := split_gk x
  obtain ⟨⟨u, t, e1, hu, ku⟩, t', v, e2, hv, kv⟩ := ndM_ends h (sp2 x)
  refine ⟨keptU (split x).1 none (hdO none (split x).2), ndM (split x).2, ndE (split x).2, ?_, fun w hw => g.1 w (keptU_mem hw), ndE_gk g.2, u, v, t, t', e1, hu, e2, hv, ?_⟩
  · rw [needed_eq, ndL_split, List.append_assoc]
  · rw [ndM_map g.2, hdO_none, sg_keptU _ _ _ g.1]
    unfold nf
    rw [bd2_lsK h g.2, gform_keep_r, ku, kv]
    simp
end Den

namespace Den
open PySem PySem.Spec PyProof.Rows L2
/-! ### the law's normal form -/
theorem nats_cap {l : List Nat} (h : l.length ≤ 300000) : l.length ≤ cap := Nat.le_trans h (by decide)
theorem nats_cap' {α : Type} {l : List α} (h : l.length < 90000) : l.length ≤ cap := Nat.le_trans (by omega : l.length ≤ 90000) (by decide)
theorem nats_le2 {n : Nat} (h : n ≤ 300000) : n ≤ cap := Nat.le_trans h (by decide)
theorem add_int (a b : Int) : dAdd (.int a) (.int b) = some (.int (a + b)) := rfl
theorem sl_toL {s : List D} {k : Nat} (h : k ≤ s.length) : dSl (.lst s) none (some (k : Int)) = some (.lst (s.take k)) := by
  show some (D.lst (cutL s none (some (k : Int)))) = _
  unfold cutL
  rw [HT.sIx_none, HT.sIx_nat, List.drop_zero, Nat.sub_zero, Nat.min_eq_left h]
theorem sl_fromL {s : List D} {k : Nat} (h : k ≤ s.length) : dSl (.lst s) (some (k : Int)) none = some (.lst (s.drop k)) := by
  show some (D.lst (cutL s (some (k : Int)) none)) = _
  unfold cutL
  rw [HT.sIx_none, HT.sIx_nat, Nat.min_eq_left h, List.take_of_length_le (by rw [List.length_drop]; omega)]
theorem sl_midL {s : List D} {j k : Nat} (h : j ≤ s.length) (h2 : k ≤ s.length) : dSl (.lst s) (some (j : Int)) (some (k : Int)) = some (.lst ((s.drop j).take (k - j))) := by
  show some (D.lst (cutL s (some (j : Int)) (some (k : Int)))) = _
  unfold cutL
  rw [HT.sIx_nat, HT.sIx_nat, Nat.min_eq_left h, Nat.min_eq_left h2]
theorem xsl_v {o : D → Option Int → Option Int → Option D} {f : Ex} {lo hi : Eo} {ρ ρ1 ρ2 ρ3 : Env} {d z : D} {a b : Option Int} (hf : f ρ = some (.v d, ρ1)) (hl : lo ρ1 = some (a, ρ2)) (hh : hi ρ2 = some (b, ρ3)) (ho : o d a b = some z) : xSl o f lo hi ρ = some (.v z, ρ3) := by
  rw [xSl_eq, hf, Option.bind_some, hl, Option.bind_some, hh, Option.bind_some]
  show (Option.bind (some d) _) = _
  rw [Option.bind_some, ho]
  rfl
theorem xsome_v {f : Ex} {ρ ρ1 : Env} {i : Int} (h : f ρ = some (.v (.int i), ρ1)) : xSome f ρ = some (some i, ρ1) := by rw [xSome_eq, h]; rfl
theorem in3 (k : Kd) : dNotIn (.str k.s) (.tup [(.str [115, 112, 97, 99, 101]), (.str [102, 101, 101, 100]), (.str [109, 97, 114, 107])]) = some (.bl (!gk k)) := by cases k <;> rfl
theorem in10 (s : List Nat) : dIn (.str [10]) (.str s) = some (.bl (decide (10 ∈ s))) := rfl
theorem ix_hd (k : Nat) (ks : List Nat) : dIx (.lst (natsD (k :: ks))) (.int 0) = some (.int (k : Nat)) := by
  show atI (D.int (k : Nat) :: natsD ks) 0 = _
  unfold atI ixN
  simp
theorem ix_lst (k : Nat) (ks : List Nat) : dIx (.lst (natsD (ks ++ [k]))) (.int (-1)) = some (.int (k : Nat)) := by
  show atI (natsD (ks ++ [k])) (-1) = _
  unfold atI
  rw [show (natsD (ks ++ [k])).length = ks.length + 1 by simp [natsD], ix_last]
  simp [natsD, iD]
def lfE (x : List U) (a b c d e : Option D) : Env := [some (.lst (x.map U.d)), a, b, c, d, e, none, none]
def lfD (f : NF) : D := nfD f
theorem kdz (k : Kd) : dEq (.str k.s) (.str [122, 101, 114, 111]) = some (.bl (decide (k = .zero))) := by
  rw [dEq_str]
  congr 2
  exact decide_eq_decide.mpr (kd_s_inj (b := .zero))
theorem den_law_form (x : List U) (h : x.length < 90000) : d_law_form [.lst (x.map U.d)] = some (.v (nfD (nf x)), [.lst (x.map U.d)]) := by
  have en := den_law_needed x h
  have nl : (needed none x).length ≤ x.length := by
    unfold needed
    rw [List.length_map]
    exact srcs_len none x
  have nmem : ∀ k ∈ srcs none x, k < x.length := fun k hk => srcs_lt hk
  obtain ⟨N, hNd⟩ : ∃ N, N = needed none x := ⟨_, rfl⟩
  let ND : D := .lst (N.map U.d)
  have k1 : sSet 1 (xFz (xLc (iA (xCallV 1 d_law_needed (xCons (xVar 0) xNil))) (gN 6) qYes (xOp dIx (xVar 0) (xVar 6)) [6])) (lfE x none none none none none) = some (.nx (lfE x (some ND) none none none none)) := by
    have l := lcA1 (f := xCallV 1 d_law_needed (xCons (xVar 0) xNil)) (g := gN 6) (e := xOp dIx (xVar 0) (xVar 6)) (vs := [6]) (ρ := lfE x none none none none none) iD (fun k => (atU x k).d) (srcs none x) (xcall1 (xvar_f rfl) en) rfl rfl (fun k hk => ⟨_, rfl, xop_v (xvar_f rfl) (xvar_f rfl) (dIx_U (nmem k hk)), rfl⟩) (fun k => fz_U _) (nats_cap (by have := srcs_len none x; omega))
    have e : (srcs none x).map (fun k => (atU x k).d) = N.map U.d := by
      rw [hNd]
      show _ = ((srcs none x).map (atU x)).map U.d
      rw [List.map_map]
      rfl
    rw [e] at l
    exact sset_v l
  have hN : N.length < 90000 := Nat.lt_of_le_of_lt (hNd ▸ nl) h
  have sI : (solI N).length ≤ N.length := by
    unfold solI
    rw [List.length_map]
    exact Nat.le_trans (List.length_filter_le _ _) (by simp)
  have k2 : sSet 2 (xFz (xLc (iR1 (xCons (xCB dLen (xCons (xVar 1) xNil)) xNil)) (gN 6) (xB (xOp dNotIn (xCallV 1 d_law_kind (xCons (xOp dIx (xVar 1) (xVar 6)) xNil)) (xTup (xCons (xC (.str [115, 112, 97, 99, 101])) (xCons (xC (.str [102, 101, 101, 100])) (xCons (xC (.str [109, 97, 114, 107])) xNil)))))) (xVar 6) [6])) (lfE x (some ND) none none none none) = some (.nx (lfE x (some ND) (some (.lst (natsD (solI N)))) none none none)) := by
    have hzl : N.zipIdx.length ≤ cap := nats_cap (l := N.zipIdx.map (·.2)) (by rw [List.length_map, List.length_zipIdx]; omega) |> fun z => by rwa [List.length_map] at z
    let E1 := lfE x (some ND) none none none none
    have hr : iR1 (xCons (xCB dLen (xCons (xVar 1) xNil)) xNil) E1 = some (N.zipIdx.map fun p => iD p.2, E1) := by
      have : (xCons (xCB dLen (xCons (xVar 1) xNil)) xNil) E1 = some ([.v (.int ((N.map U.d).length : Nat))], E1) := rfl
      rw [List.length_map] at this
      rw [iR1_of this (small_nat _ hN)]
      show some (rng 0 N.length, E1) = _
      rw [rngz]
    have l := lcR (ds := []) (g := gN 6) (t := xB (xOp dNotIn (xCallV 1 d_law_kind (xCons (xOp dIx (xVar 1) (xVar 6)) xNil)) (xTup (xCons (xC (.str [115, 112, 97, 99, 101])) (xCons (xC (.str [102, 101, 101, 100])) (xCons (xC (.str [109, 97, 114, 107])) xNil)))))) (e := xVar 6) (vs := [6]) (ρ := E1) (fun p : U × Nat => iD p.2) (fun p => !gk p.1.k) (fun p => iD p.2) N.zipIdx hr rfl (fun p hp => ⟨_, rfl, by
      have hz := zip_mem hp
      have h1 : N[p.2]? = some p.1 := by
        have := List.mem_zipIdx hp
        simp at this
        obtain ⟨h1, h2⟩ := this
        rw [List.getElem?_eq_getElem h1, h2]
      have hk : p.2 < N.length := (List.getElem?_eq_some_iff.mp h1).1
      have ix := dIx_U hk
      have ea : atU N p.2 = p.1 := by unfold atU; simp [h1]
      rw [ea] at ix
      have d := den_law_kind p.1
      let E2 := E1.set 6 (some (iD p.2))
      have c := xcall1 (ρ := E2) (xop_v (o := dIx) (xvar_f (i := 1) (d := ND) rfl) (xvar_f (i := 6) (d := iD p.2) rfl) ix) d
      rw [xB_eq, xop_v c (show xTup _ E2 = some (.v (.tup [(.str [115, 112, 97, 99, 101]), (.str [102, 101, 101, 100]), (.str [109, 97, 114, 107])]), E2) from rfl) (in3 _)]
      rfl, fun _ => rfl, rfl⟩) (fun p => fz_int _) hzl
    have e : ((N.zipIdx.filter fun p => !gk p.1.k).map fun p => iD p.2) = natsD (solI N) := by
      unfold solI natsD
      rw [List.map_map]
      rfl
    rw [e] at l
    exact sset_v l
  let E2 := lfE x (some ND) (some (.lst (natsD (solI N)))) none none none
  have ln : xCB dLen (xCons (xVar 2) xNil) E2 = some (.v (.int ((solI N).length : Nat)), E2) := by
    have := xcb1 (o := dLen) (xvar_f (i := 2) (ρ := E2) (d := .lst (natsD (solI N))) rfl) (len_lst _)
    rwa [natsD_len] at this
  have tt : xB (xOp dEq (xCB dLen (xCons (xVar 2) xNil)) (xC (.int 0))) E2 = some (decide (solI N = []), E2) := by
    rw [xB_eq, xop_v ln rfl (dEq_int _ _)]
    exact congrArg (fun b => some (b, E2)) (decide_eq_decide.mpr (by rw [← List.length_eq_zero_iff]; omega))
  have sgl : ∀ (M : List U) (f : Ex) (ρ : Env), f ρ = some (.v (.lst (M.map U.d)), ρ) → M.length < 90000 → (∀ u : U, gt (ρ.set 7 (some u.d)) 7 = some u.d) → wipeD ρ [7] = ρ → (∀ u : U, wipeD (ρ.set 7 (some u.d)) [7] = ρ) → xBM "str" dJoin (xC (.str [])) (xCons (xFz (xLc (iA f) (gN 7) qYes (xOp dIx (xVar 7) (xC (.int 1))) [7])) xNil) ρ = some (.v (.str (sg M)), ρ) := by
    intro M f ρ hf hM h7 hw hw7
    have l := lcA1 (f := f) (g := gN 7) (e := xOp dIx (xVar 7) (xC (.int 1))) (vs := [7]) (ρ := ρ) U.d (fun u => D.str [u.2]) M hf rfl hw (fun u _ => ⟨_, rfl, xop_v (xvar_f (h7 u)) rfl rfl, hw7 u⟩) (fun u => fz_str _) (nats_cap' hM)
    exact join_v l (nats_cap' hM)
  have shl : ∀ (M : List U) (f : Ex) (ρ : Env), f ρ = some (.v (.lst (M.map U.d)), ρ) → M.length < 90000 → (∀ u : U, gt (ρ.set 7 (some u.d)) 7 = some u.d) → wipeD ρ [7] = ρ → (∀ u : U, wipeD (ρ.set 7 (some u.d)) [7] = ρ) → xBM "str" dJoin (xC (.str [])) (xCons (xFz (xLc (iA f) (gN 7) qYes (xCallV 1 d_law_sign (xCons (xVar 7) xNil)) [7])) xNil) ρ = some (.v (.str (M.map shC)), ρ) := by
    intro M f ρ hf hM h7 hw hw7
    have l := lcA1 (f := f) (g := gN 7) (e := xCallV 1 d_law_sign (xCons (xVar 7) xNil)) (vs := [7]) (ρ := ρ) U.d (fun u => D.str [shC u]) M hf rfl hw (fun u _ => ⟨_, rfl, xcall1 (xvar_f (h7 u)) (den_law_sign u), hw7 u⟩) (fun u => fz_str _) (nats_cap' hM)
    exact join_v l (nats_cap' hM)
  have main : ∃ ρ, b_law_form (lfE x none none none none none) = some (.rt (.v (nfD (nf x))) ρ) := by
    unfold b_law_form
    rw [sseq_nx k1, sseq_nx k2]
    by_cases q : (split x).2 = []
    · obtain ⟨g, e⟩ := lform_none x q
      rw [← hNd] at g e
      have s0 : solI N = [] := solI_none g
      rw [decide_eq_true s0] at tt
      refine ⟨E2, sseq_rt ?_⟩
      rw [sif_t tt]
      refine sret_v ?_
      have j := sgl N (xVar 1) E2 (xvar_f rfl) hN (fun _ => rfl) rfl (fun _ => rfl)
      rw [xTup_eq, xCons_eq, j, e]
      rfl
    · obtain ⟨A, B, C, eN, gA, gC, u, v, t, t', e1, gu, e2, gv, enf⟩ := lform_some x q
      obtain ⟨⟨r1, s1⟩, r2, s2⟩ := solI_mid gA gC e1 gu e2 gv
      rw [← hNd] at eN
      have lN : N.length = A.length + B.length + C.length := by rw [eN, List.length_append, List.length_append]
      have lB : 1 ≤ B.length := by rw [e1]; simp
      rw [← eN] at s1 s2
      have s0 : solI N ≠ [] := by rw [s1]; simp
      rw [decide_eq_false s0] at tt
      have k3 : ∀ f, sIf (xB (xOp dEq (xCB dLen (xCons (xVar 2) xNil)) (xC (.int 0)))) f sNil E2 = some (.nx E2) := fun f => by rw [sif_f tt]; rfl
      rw [sseq_nx (k3 _)]
      -- the places
      have i0 : ∀ c d e, xOp dIx (xVar 2) (xC (.int 0)) (lfE x (some ND) (some (.lst (natsD (solI N)))) c d e) = some (.v (.int (A.length : Nat)), lfE x (some ND) (some (.lst (natsD (solI N)))) c d e) := fun c d e => by
        refine xop_v (xvar_f rfl) rfl ?_
        rw [s1]
        exact ix_hd _ _
      have i1 : ∀ c d e, xOp dIx (xVar 2) (xUn dNeg (xC (.int 1))) (lfE x (some ND) (some (.lst (natsD (solI N)))) c d e) = some (.v (.int ((A.length + B.length - 1 : Nat) : Int)), lfE x (some ND) (some (.lst (natsD (solI N)))) c d e) := fun c d e => by
        refine xop_v (xvar_f rfl) (y := .int (-1)) rfl ?_
        rw [s2]
        exact ix_lst _ _
      have i2 : ∀ c d e, xOp dAdd (xOp dIx (xVar 2) (xUn dNeg (xC (.int 1)))) (xC (.int 1)) (lfE x (some ND) (some (.lst (natsD (solI N)))) c d e) = some (.v (.int ((A.length + B.length : Nat) : Int)), lfE x (some ND) (some (.lst (natsD (solI N)))) c d e) := fun c d e => by
        refine xop_v (i1 c d e) rfl ?_
        rw [add_int]
        exact congrArg (fun z => some (D.int z)) (by omega)
      have tA : (N.map U.d).take A.length = A.map U.d := by rw [eN]; simp
      have tB : ((N.map U.d).drop A.length).take (A.length + B.length - A.length) = B.map U.d := by
        rw [eN]
        simp
      have tC : (N.map U.d).drop (A.length + B.length) = C.map U.d := by
        rw [eN, List.map_append, List.map_append, show A.length + B.length = (A.map U.d ++ B.map U.d).length by rw [List.length_append, List.length_map, List.length_map], List.drop_left]
      have ll : (N.map U.d).length = N.length := List.length_map ..
      have jA := sgl A (xSl dSl (xVar 1) xNo (xSome (xOp dIx (xVar 2) (xC (.int 0))))) E2 (xsl_v (xvar_f rfl) rfl (xsome_v (i0 _ _ _)) (by rw [sl_toL (by omega), tA])) (by omega) (fun _ => rfl) rfl (fun _ => rfl)
      let E3 := lfE x (some ND) (some (.lst (natsD (solI N)))) (some (.str (sg A))) none none
      have jB := shl B (xSl dSl (xVar 1) (xSome (xOp dIx (xVar 2) (xC (.int 0)))) (xSome (xOp dAdd (xOp dIx (xVar 2) (xUn dNeg (xC (.int 1)))) (xC (.int 1))))) E3 (xsl_v (xvar_f rfl) (xsome_v (i0 _ _ _)) (xsome_v (i2 _ _ _)) (by rw [sl_midL (by omega) (by omega), tB])) (by omega) (fun _ => rfl) rfl (fun _ => rfl)
      let E4 := lfE x (some ND) (some (.lst (natsD (solI N)))) (some (.str (sg A))) (some (.str (B.map shC))) none
      have jC := sgl C (xSl dSl (xVar 1) (xSome (xOp dAdd (xOp dIx (xVar 2) (xUn dNeg (xC (.int 1)))) (xC (.int 1)))) xNo) E4 (xsl_v (xvar_f rfl) (xsome_v (i2 _ _ _)) rfl (by rw [sl_fromL (by omega), tC])) (by omega) (fun _ => rfl) rfl (fun _ => rfl)
      let E5 := lfE x (some ND) (some (.lst (natsD (solI N)))) (some (.str (sg A))) (some (.str (B.map shC))) (some (.str (sg C)))
      have k4 := sset_v (i := 3) jA
      have k5 := sset_v (i := 4) jB
      have k6 := sset_v (i := 5) jC
      rw [sseq_nx (ρ' := E3) k4, sseq_nx (ρ' := E4) k5, sseq_nx (ρ' := E5) k6]
      have uA : dIx ND (.int (A.length : Nat)) = some u.d := by
        have := dIx_U (us := N) (k := A.length) (by omega)
        have ea : atU N A.length = u := by rw [eN, e1]; unfold atU; simp
        rw [ea] at this
        exact this
      have vB : dIx ND (.int ((A.length + B.length - 1 : Nat) : Int)) = some v.d := by
        have := dIx_U (us := N) (k := A.length + B.length - 1) (by omega)
        have ea : atU N (A.length + B.length - 1) = v := by
          have : N = (A ++ t') ++ ([v] ++ C) := by rw [eN, e2]; simp
          rw [this, show A.length + B.length - 1 = (A ++ t').length + 0 by rw [e2]; simp]
          exact atU_app _ _ _ 0 v rfl
        rw [ea] at this
        exact this
      -- the start
      have c1 : xB (xOp dEq (xCallV 1 d_law_kind (xCons (xOp dIx (xVar 1) (xOp dIx (xVar 2) (xC (.int 0)))) xNil)) (xC (.str [122, 101, 114, 111]))) E5 = some (decide (u.k = .zero), E5) := by
        have := xcall1 (ρ := E5) (xop_v (o := dIx) (xvar_f (i := 1) (d := ND) rfl) (i0 _ _ _) uA) (den_law_kind u)
        rw [xB_eq, xop_v this rfl (kdz _)]
        rfl
      have c2 : xB (xOp dIn (xC (.str [10])) (xVar 3)) E5 = some (decide (10 ∈ sg A), E5) := by
        rw [xB_eq, xop_v rfl (xvar_f (i := 3) (ρ := E5) (d := .str (sg A)) rfl) (in10 _)]
        rfl
      have c3 : qAnd (xB (xOp dEq (xCallV 1 d_law_kind (xCons (xOp dIx (xVar 1) (xOp dIx (xVar 2) (xC (.int 0)))) xNil)) (xC (.str [122, 101, 114, 111])))) (xB (xOp dIn (xC (.str [10])) (xVar 3))) E5 = some (decide (u.k = .zero ∧ 10 ∈ sg A), E5) := by
        rw [qAnd_eq, c1, Option.bind_some]
        dsimp only
        rw [c2]
        by_cases q : u.k = .zero <;> simp [q]
      have lA : (sg A).length < 90000 := by simp [sg]; omega
      have lC : (sg C).length < 90000 := by simp [sg]; omega
      have fA := List.length_filter_le (· != 10) (sg A)
      have fC := List.length_filter_le (· != 10) (sg C)
      have capA : ((sg A).filter (· != 10)).length + ([10] : List Nat).length ≤ cap := nats_le2 (by rw [List.length_singleton]; omega)
      have capC : ([10] : List Nat).length + ((sg C).filter (· != 10)).length ≤ cap := nats_le2 (by rw [List.length_singleton]; omega)
      let S := if u.k = .zero ∧ 10 ∈ sg A then (sg A).filter (· != 10) ++ [10] else sg A
      let T := if v.k = .zero ∧ 10 ∈ sg C then 10 :: (sg C).filter (· != 10) else sg C
      let E6 := lfE x (some ND) (some (.lst (natsD (solI N)))) (some (.str S)) (some (.str (B.map shC))) (some (.str (sg C)))
      let E7 := lfE x (some ND) (some (.lst (natsD (solI N)))) (some (.str S)) (some (.str (B.map shC))) (some (.str T))
      have k7 : sIf (qAnd (xB (xOp dEq (xCallV 1 d_law_kind (xCons (xOp dIx (xVar 1) (xOp dIx (xVar 2) (xC (.int 0)))) xNil)) (xC (.str [122, 101, 114, 111])))) (xB (xOp dIn (xC (.str [10])) (xVar 3)))) (sSet 3 (xOp dAdd (xRepl (⟨([10] : List Nat).toArray⟩ : Str) (⟨([] : List Nat).toArray⟩ : Str) (xVar 3)) (xC (.str [10])))) sNil E5 = some (.nx E6) := by
        by_cases z : u.k = .zero ∧ 10 ∈ sg A
        · rw [decide_eq_true z] at c3
          rw [sif_t c3]
          have := sset_v (i := 3) (xop_v (o := dAdd) (g := xC (.str [10])) (xrepl1 (c := 10) (xvar_f (i := 3) (ρ := E5) (d := .str (sg A)) rfl) (by omega)) rfl (add_str capA))
          rw [this]
          show some (O.nx (lfE x _ _ (some (.str ((sg A).filter (· != 10) ++ [10]))) _ _)) = _
          rw [show (sg A).filter (· != 10) ++ [10] = S from (if_pos z).symm]
        · rw [decide_eq_false z] at c3
          rw [sif_f c3]
          show some (O.nx E5) = some (O.nx E6)
          rw [show E5 = E6 by show lfE x _ _ (some (.str (sg A))) _ _ = lfE x _ _ (some (.str S)) _ _; rw [show S = sg A from if_neg z]]
      have d1 : xB (xOp dEq (xCallV 1 d_law_kind (xCons (xOp dIx (xVar 1) (xOp dIx (xVar 2) (xUn dNeg (xC (.int 1))))) xNil)) (xC (.str [122, 101, 114, 111]))) E6 = some (decide (v.k = .zero), E6) := by
        have := xcall1 (ρ := E6) (xop_v (o := dIx) (xvar_f (i := 1) (d := ND) rfl) (i1 _ _ _) vB) (den_law_kind v)
        rw [xB_eq, xop_v this rfl (kdz _)]
        rfl
      have d2 : xB (xOp dIn (xC (.str [10])) (xVar 5)) E6 = some (decide (10 ∈ sg C), E6) := by
        rw [xB_eq, xop_v rfl (xvar_f (i := 5) (ρ := E6) (d := .str (sg C)) rfl) (in10 _)]
        rfl
      have d3 : qAnd (xB (xOp dEq (xCallV 1 d_law_kind (xCons (xOp dIx (xVar 1) (xOp dIx (xVar 2) (xUn dNeg (xC (.int 1))))) xNil)) (xC (.str [122, 101, 114, 111])))) (xB (xOp dIn (xC (.str [10])) (xVar 5))) E6 = some (decide (v.k = .zero ∧ 10 ∈ sg C), E6) := by
        rw [qAnd_eq, d1, Option.bind_some]
        dsimp only
        rw [d2]
        by_cases q : v.k = .zero <;> simp [q]
      have k8 : sIf (qAnd (xB (xOp dEq (xCallV 1 d_law_kind (xCons (xOp dIx (xVar 1) (xOp dIx (xVar 2) (xUn dNeg (xC (.int 1))))) xNil)) (xC (.str [122, 101, 114, 111])))) (xB (xOp dIn (xC (.str [10])) (xVar 5)))) (sSet 5 (xOp dAdd (xC (.str [10])) (xRepl (⟨([10] : List Nat).toArray⟩ : Str) (⟨([] : List Nat).toArray⟩ : Str) (xVar 5)))) sNil E6 = some (.nx E7) := by
        by_cases z : v.k = .zero ∧ 10 ∈ sg C
        · rw [decide_eq_true z] at d3
          rw [sif_t d3]
          have := sset_v (i := 5) (xop_v (o := dAdd) (f := xC (.str [10])) (ρ := E6) rfl (xrepl1 (c := 10) (xvar_f (i := 5) (ρ := E6) (d := .str (sg C)) rfl) (by omega)) (add_str capC))
          rw [this]
          show some (O.nx (lfE x _ _ _ _ (some (.str ([10] ++ (sg C).filter (· != 10)))))) = _
          rw [show [10] ++ (sg C).filter (· != 10) = T from (if_pos z).symm]
        · rw [decide_eq_false z] at d3
          rw [sif_f d3]
          show some (O.nx E6) = some (O.nx E7)
          rw [show E6 = E7 by show lfE x _ _ _ _ (some (.str (sg C))) = lfE x _ _ _ _ (some (.str T)); rw [show T = sg C from if_neg z]]
      rw [sseq_nx k7, sseq_nx k8]
      refine ⟨E7, sret_v ?_⟩
      rw [enf]
      rfl
  obtain ⟨ρ, m⟩ := main
  exact dn_rt (lfE x none none none none none) rfl rfl m rfl rfl
end Den

namespace Den
open PySem PySem.Spec PyProof.Rows L2
/-! ### tidy fragments -/
abbrev Frg := List (Md × List Nat)
def addR : Frg → U → Frg
  | [], u => [(u.1, [u.2])]
  | [(m, t)], u => if m = u.1 then [(m, t ++ [u.2])] else [(m, t), (u.1, [u.2])]
  | p :: q :: r, u => p :: addR (q :: r) u
def tidyR (x : List U) : Frg := x.foldl addR []
theorem addR_snoc : ∀ (i : Frg) (m : Md) (t : List Nat) (u : U), addR (i ++ [(m, t)]) u = if m = u.1 then i ++ [(m, t ++ [u.2])] else i ++ [(m, t)] ++ [(u.1, [u.2])]
  | [], m, t, u => by
    show addR [(m, t)] u = _
    rw [addR]
    split <;> rfl
  | [p], m, t, u => by
    show p :: addR [(m, t)] u = _
    rw [addR]
    split <;> rfl
  | p :: q :: i, m, t, u => by
    have ih := addR_snoc (q :: i) m t u
    show p :: addR (q :: i ++ [(m, t)]) u = _
    rw [ih]
    split <;> rfl
theorem snoc_cases {α : Type} (l : List α) : l = [] ∨ ∃ i a, l = i ++ [a] := by
  rcases List.eq_nil_or_concat l with h | ⟨i, a, h⟩
  · exact .inl h
  · exact .inr ⟨i, a, by rw [h]; simp⟩
theorem us_app (x y : Frg) : us (x ++ y) = us x ++ us y := List.flatMap_append ..
theorem us_one (m : Md) (t : List Nat) : us [(m, t)] = t.map fun c => (m, c) := by simp [us, uR]
theorem us_addR (a : Frg) (u : U) : us (addR a u) = us a ++ [u] := by
  rcases snoc_cases a with rfl | ⟨i, ⟨m, t⟩, rfl⟩
  · show us [(u.1, [u.2])] = _
    rw [us_one]
    rfl
  · rw [addR_snoc]
    split
    · rename_i h
      rw [us_app, us_app, us_one, us_one, List.map_append, ← List.append_assoc, h]
      rfl
    · rw [us_app, us_one]
      rfl
theorem us_fold : ∀ (x : List U) (a : Frg), us (x.foldl addR a) = us a ++ x
  | [], a => by simp
  | u :: x, a => by rw [List.foldl_cons, us_fold x, us_addR, List.append_assoc]; rfl
theorem us_tidyR (x : List U) : us (tidyR x) = x := by
  unfold tidyR
  rw [us_fold]
  rfl
theorem addR_len (a : Frg) (u : U) : (addR a u).length ≤ a.length + 1 := by
  rcases snoc_cases a with rfl | ⟨i, ⟨m, t⟩, rfl⟩
  · simp [addR]
  · rw [addR_snoc]
    split <;> simp
theorem run_len {p : Md × List Nat} {a : Frg} (h : p ∈ a) : p.2.length ≤ (us a).length := by
  obtain ⟨i, j, rfl⟩ := List.append_of_mem h
  rw [us_app, List.length_append, show us (p :: j) = uR p ++ us j from rfl, List.length_append]
  simp [uR]
  omega
/-! the law's -/
def ltB : Es := (sIf (qAnd (xB (xOp dGt (xCB dLen (xCons (xVar 1) xNil)) (xC (.int 0)))) (xB (xOp dEq (xOp dIx (xOp dIx (xVar 1) (xUn dNeg (xC (.int 1)))) (xC (.int 0))) (xVar 2))))
  (sSto (xTup (xCons (xVar 2) (xCons (xOp dAdd (xOp dIx (xOp dIx (xVar 1) (xUn dNeg (xC (.int 1)))) (xC (.int 1))) (xVar 3)) xNil))) (lV 1) (kC (-1)))
  (sExpr (xApp 1 (xTup (xCons (xVar 2) (xCons (xVar 3) xNil))))))
theorem lt_eq : b_law_tidy = (sSeq (sSet 1 (xLst xNil))
  (sSeq (sFor (iA (xVar 0)) (gA 2 (gsCons (gN 2) (gsCons (gN 3) gsNil))) ltB)
  (sRet (xFz (xVar 1))))) := rfl
def ltE (x : List U) (a : Frg) (b c : Option D) : Env := [some (.lst (x.map U.d)), some (.own (a.map encR)), b, c]
theorem ownLast (i : List D) (d : D) : ixN (i ++ [d]).length (-1) = some i.length := by
  rw [List.length_append, List.length_singleton, ix_last]
theorem dIx_own (i : List D) (d : D) (h : d.flat = true) : dIx (.own (i ++ [d])) (.int (-1)) = some d := by
  show (Option.bind (atI (i ++ [d]) (-1)) fun d => if d.flat then some d else none) = _
  unfold atI
  rw [ownLast]
  simp [h]
theorem md_dec (a b : Md) : dEq (.str a.s) (.str b.s) = some (.bl (decide (a = b))) := by
  rw [dEq_str]
  congr 2
  exact decide_eq_decide.mpr md_s_inj
theorem dGt0 (n : Nat) : dGt (.int (n : Nat)) (.int 0) = some (.bl (decide (0 < n))) := by
  show some (D.bl (decide ((0 : Int) < (n : Int)))) = _
  congr 2
  exact decide_eq_decide.mpr (by omega)
theorem sto_last {i : Nat} {f : Ex} {ρ ρ' : Env} {d d0 : D} {ds : List D} (h : f ρ = some (.v d, ρ')) (h1 : gt ρ' i = some (.own (ds ++ [d0]))) : sSto f (lV i) (kC (-1)) ρ = some (.nx (ρ'.set i (some (.own (ds ++ [d]))))) := by
  have l : lV i ρ' = some (i, []) := by rw [lV_eq, h1]; rfl
  unfold sSto
  rw [h]
  simp [-gt_eq, l, kC, h1, getP, ix_last, setP]
theorem ltB_st (x : List U) (a : Frg) (u : U) (h1 : (us a).length < 300000) (h2 : a.length < 300000) : ltB (ltE x a (some (.str u.1.s)) (some (.str [u.2]))) = some (.nx (ltE x (addR a u) (some (.str u.1.s)) (some (.str [u.2])))) := by
  let E := ltE x a (some (.str u.1.s)) (some (.str [u.2]))
  have ha : a.length < cap := Nat.lt_of_lt_of_le h2 (by decide)
  have ln : xCB dLen (xCons (xVar 1) xNil) E = some (.v (.int (a.length : Nat)), E) := by
    show some (R.v (.int ((a.map encR).length : Nat)), E) = _
    rw [List.length_map]
  have t1 : xB (xOp dGt (xCB dLen (xCons (xVar 1) xNil)) (xC (.int 0))) E = some (decide (0 < a.length), E) := by
    rw [xB_eq, xop_v ln rfl (dGt0 _)]
    rfl
  have ap : sExpr (xApp 1 (xTup (xCons (xVar 2) (xCons (xVar 3) xNil)))) E = some (.nx (ltE x (a ++ [(u.1, [u.2])]) (some (.str u.1.s)) (some (.str [u.2])))) := by
    have := xapp_v (i := 1) (f := xTup (xCons (xVar 2) (xCons (xVar 3) xNil))) (ρ := E) (ρ' := E) (d := .tup [.str u.1.s, .str [u.2]]) (ds := a.map encR) rfl rfl rfl (by rw [List.length_map]; exact ha)
    rw [this]
    unfold ltE
    rw [List.map_append]
    rfl
  unfold ltB
  rcases snoc_cases a with h0 | ⟨i, ⟨m, t⟩, h0⟩
  · have : qAnd (xB (xOp dGt (xCB dLen (xCons (xVar 1) xNil)) (xC (.int 0)))) (xB (xOp dEq (xOp dIx (xOp dIx (xVar 1) (xUn dNeg (xC (.int 1)))) (xC (.int 0))) (xVar 2))) E = some (false, E) := by
      rw [qAnd_eq, t1, h0]
      rfl
    rw [sif_f this, ap, h0]
    rfl
  · have ix : xOp dIx (xVar 1) (xUn dNeg (xC (.int 1))) E = some (.v (encR (m, t)), E) := by
      have v : xVar 1 E = some (.at 1, E) := rfl
      rw [xOp_eq, v]
      show ((dIx (.own (a.map encR)) (.int (-1))).map fun z => (R.v z, E)) = _
      rw [h0, List.map_append]
      show ((dIx (.own (i.map encR ++ [encR (m, t)])) (.int (-1))).map fun z => (R.v z, E)) = _
      rw [dIx_own _ _ rfl]
      rfl
    have t2 : xB (xOp dEq (xOp dIx (xOp dIx (xVar 1) (xUn dNeg (xC (.int 1)))) (xC (.int 0))) (xVar 2)) E = some (decide (m = u.1), E) := by
      have i0 : xOp dIx (xOp dIx (xVar 1) (xUn dNeg (xC (.int 1)))) (xC (.int 0)) E = some (.v (.str m.s), E) := xop_v ix rfl rfl
      rw [xB_eq, xop_v i0 (xvar_f (i := 2) (d := .str u.1.s) rfl) (md_dec _ _)]
      rfl
    have t3 : qAnd (xB (xOp dGt (xCB dLen (xCons (xVar 1) xNil)) (xC (.int 0)))) (xB (xOp dEq (xOp dIx (xOp dIx (xVar 1) (xUn dNeg (xC (.int 1)))) (xC (.int 0))) (xVar 2))) E = some (decide (m = u.1), E) := by
      rw [qAnd_eq, t1, decide_eq_true (by rw [h0]; simp)]
      exact t2
    by_cases q : m = u.1
    · rw [decide_eq_true q] at t3
      have lt : t.length < 300000 := by
        have : (m, t) ∈ a := by rw [h0]; simp
        have : t.length ≤ (us a).length := run_len this
        omega
      have i1 : xOp dIx (xOp dIx (xVar 1) (xUn dNeg (xC (.int 1)))) (xC (.int 1)) E = some (.v (.str t), E) := xop_v ix rfl rfl
      have i2 := xop_v (o := dAdd) i1 (xvar_f (i := 3) (d := .str [u.2]) rfl) (add_str (nats_le2 (by rw [List.length_singleton]; omega)))
      have tp : xTup (xCons (xVar 2) (xCons (xOp dAdd (xOp dIx (xOp dIx (xVar 1) (xUn dNeg (xC (.int 1)))) (xC (.int 1))) (xVar 3)) xNil)) E = some (.v (.tup [.str u.1.s, .str (t ++ [u.2])]), E) := by
        have v2 : xVar 2 E = some (.v (.str u.1.s), E) := rfl
        rw [xTup_eq, xCons_eq, v2, Option.bind_some]
        dsimp only
        rw [xCons_eq, i2]
        rfl
      rw [sif_t t3]
      rw [sto_last (ds := i.map encR) (d0 := encR (m, t)) tp (by show some (D.own (a.map encR)) = _; rw [h0, List.map_append]; rfl)]
      rw [h0, addR_snoc, if_pos q]
      show some (O.nx (E.set 1 _)) = _
      unfold ltE
      rw [List.map_append]
      subst q
      rfl
    · rw [decide_eq_false q] at t3
      rw [sif_f t3, ap, h0, addR_snoc, if_neg q]
theorem lt_loop (x : List U) : ∀ (l : List U) (a : Frg) (b c : Option D), (us a).length + l.length < 290000 → a.length + l.length < 290000 → ∃ b' c', forL (gA 2 (gsCons (gN 2) (gsCons (gN 3) gsNil))) ltB (l.map U.d) (ltE x a b c) = some (.nx (ltE x (l.foldl addR a) b' c'))
  | [], a, b, c, _, _ => ⟨b, c, rfl⟩
  | u :: l, a, b, c, h1, h2 => by
    rw [List.length_cons] at h1 h2
    have st := ltB_st x a u (by omega) (by omega)
    have al := addR_len a u
    obtain ⟨b', c', e⟩ := lt_loop x l (addR a u) (some (.str u.1.s)) (some (.str [u.2])) (by rw [us_addR, List.length_append, List.length_singleton]; omega) (by omega)
    refine ⟨b', c', ?_⟩
    have g1 : gA 2 (gsCons (gN 2) (gsCons (gN 3) gsNil)) u.d (ltE x a b c) = some (ltE x a (some (.str u.1.s)) (some (.str [u.2]))) := rfl
    rw [List.map_cons, forL_cons, g1]
    show (ltB _).bind _ = _
    rw [st]
    exact e
theorem fz_encR (a : Frg) : (a.map encR).map fz = a.map encR := by
  rw [List.map_map]
  exact List.map_congr_left fun p _ => fz_tup _
theorem den_law_tidy (x : List U) (h : x.length < 200000) : d_law_tidy [.lst (x.map U.d)] = some (.v (.lst ((tidyR x).map encR)), [.lst (x.map U.d)]) := by
  obtain ⟨b, c, e⟩ := lt_loop x x [] none none (by simp [us]; omega) (by simp; omega)
  have k1 : sSet 1 (xLst xNil) [some (.lst (x.map U.d)), none, none, none] = some (.nx (ltE x [] none none)) := rfl
  have k2 : sFor (iA (xVar 0)) (gA 2 (gsCons (gN 2) (gsCons (gN 3) gsNil))) ltB (ltE x [] none none) = some (.nx (ltE x (tidyR x) b c)) := by
    rw [sFor_eq, iA_eq, xvar_f (i := 0) (ρ := ltE x [] none none) (d := .lst (x.map U.d)) rfl]
    exact e
  have k3 : xFz (xVar 1) (ltE x (tidyR x) b c) = some (.v (.lst ((tidyR x).map encR)), (ltE x (tidyR x) b c).set 1 (some (.lst ((tidyR x).map encR)))) := by
    have v : xVar 1 (ltE x (tidyR x) b c) = some (.at 1, ltE x (tidyR x) b c) := rfl
    rw [xFz_eq, v, Option.bind_some, fzK_at]
    show some (R.v (fz (.own ((tidyR x).map encR))), (ltE x (tidyR x) b c).set 1 (some (fz (.own ((tidyR x).map encR))))) = _
    rw [fz_own, fz_encR]
  refine dn_rt [some (.lst (x.map U.d)), none, none, none] rfl rfl (r := .v (.lst ((tidyR x).map encR))) (ρ := (ltE x (tidyR x) b c).set 1 (some (.lst ((tidyR x).map encR)))) ?_ rfl rfl
  rw [lt_eq, sseq_nx k1, sseq_nx k2]
  exact sret_v k3
end Den

namespace Den
open PySem PySem.Spec PyProof.Rows L2
/-! ### the program's tidy -/
def tdA : Es := (sIf (qOr (qNot (qTru (xVar 1))) (xB (xOp dNe (xOp dIx (xVar 1) (xUn dNeg (xC (.int 1)))) (xVar 3))))
  (sSeq (sExpr (xApp 1 (xVar 3)))
  (sExpr (xApp 2 (xLst xNil))))
  sNil)
def tdB : Es := (sSeq tdA (sExpr (xAppP (lIx (lV 2) (kC (-1))) (pV 4))))
theorem td_eq : b_tidy = (sSeq (sSet 1 (xLst xNil))
  (sSeq (sSet 2 (xLst xNil))
  (sSeq (sFor (iA (xVar 0)) (gA 2 (gsCons (gN 3) (gsCons (gN 4) gsNil))) tdB)
  (sRet (xFz (xLc (iZ (xCons (xFz (xVar 1)) (xCons (xFz (xVar 2)) xNil))) (gA 2 (gsCons (gN 5) (gsCons (gN 6) gsNil))) qYes (xTup (xCons (xVar 5) (xCons (xBM "str" dJoin (xC (.str [])) (xCons (xVar 6) xNil)) xNil))) [5, 6])))))) := rfl
def tmD (a : Frg) : List D := a.map fun p => .str p.1.s
def chD (t : List Nat) : List D := t.map fun c => .str [c]
def ttD (a : Frg) : List D := a.map fun p => .own (chD p.2)
def tdE (x : List U) (a : Frg) (b c : Option D) : Env := [some (.lst (x.map U.d)), some (.own (tmD a)), some (.own (ttD a)), b, c, none, none]
theorem chD_app (t : List Nat) (c : Nat) : chD t ++ [.str [c]] = chD (t ++ [c]) := by simp [chD]
open Classical in
theorem tdA_st (x : List U) (a : Frg) (u : U) (h2 : a.length < 300000) : tdA (tdE x a (some (.str u.1.s)) (some (.str [u.2]))) = some (.nx (tdE x (if (∃ i t, a = i ++ [(u.1, t)]) then a else a ++ [(u.1, [])]) (some (.str u.1.s)) (some (.str [u.2])))) := by
  let E := tdE x a (some (.str u.1.s)) (some (.str [u.2]))
  have ha : a.length < cap := Nat.lt_of_lt_of_le h2 (by decide)
  have v1 : xVar 1 E = some (.at 1, E) := rfl
  have ap : sSeq (sExpr (xApp 1 (xVar 3))) (sExpr (xApp 2 (xLst xNil))) E = some (.nx (tdE x (a ++ [(u.1, [])]) (some (.str u.1.s)) (some (.str [u.2])))) := by
    have k1 := xapp_v (i := 1) (f := xVar 3) (ρ := E) (ρ' := E) (d := .str u.1.s) (ds := tmD a) rfl rfl rfl (by simpa [tmD] using ha)
    rw [sseq_nx k1]
    let E' := E.set 1 (some (.own (tmD a ++ [.str u.1.s])))
    have l2 : lV 2 E' = some (2, []) := rfl
    have lt : (ttD a).length < cap := by simpa [ttD] using ha
    have xl : xLst xNil E' = some (.own (.own []), E') := rfl
    have g2 : gt E' 2 = some (.own (ttD a)) := rfl
    rw [sExpr_eq, xApp_eq, l2, Option.bind_some, xl, Option.bind_some]
    show ((Option.bind (some (.own [])) fun d => (gt E' 2).bind (apK 2 E' d)).map _) = _
    rw [Option.bind_some, g2, Option.bind_some, apK_own, if_pos lt]
    unfold tdE tmD ttD
    rw [List.map_append, List.map_append]
    rfl
  have t1 : qNot (qTru (xVar 1)) E = some (decide (a = []), E) := by
    have : qTru (xVar 1) E = some (!(tmD a).isEmpty, E) := by
      rw [qTru_eq, v1]
      rfl
    rw [qNot_eq, this]
    cases a <;> rfl
  rcases snoc_cases a with h0 | ⟨i, ⟨m, t⟩, h0⟩
  · have n : ¬ ∃ i t, a = i ++ [(u.1, t)] := by
      rintro ⟨i, t, e⟩
      rw [h0] at e
      cases i <;> cases e
    rw [if_neg n]
    unfold tdA
    rw [sif_t (by rw [qOr_eq, t1, decide_eq_true h0]; rfl)]
    exact ap
  · have hn : a ≠ [] := by rw [h0]; simp
    rw [decide_eq_false hn] at t1
    have ix : xOp dIx (xVar 1) (xUn dNeg (xC (.int 1))) E = some (.v (.str m.s), E) := by
      rw [xOp_eq, v1]
      show ((dIx (.own (tmD a)) (.int (-1))).map fun z => (R.v z, E)) = _
      rw [h0]
      unfold tmD
      rw [List.map_append]
      show ((dIx (.own (_ ++ [.str m.s])) (.int (-1))).map fun z => (R.v z, E)) = _
      rw [dIx_own _ _ rfl]
      rfl
    have t2 : xB (xOp dNe (xOp dIx (xVar 1) (xUn dNeg (xC (.int 1)))) (xVar 3)) E = some (!decide (m = u.1), E) := by
      have : dNe (.str m.s) (.str u.1.s) = some (.bl (!decide (m = u.1))) := by
        rw [dNe_str]
        congr 3
        exact decide_eq_decide.mpr md_s_inj
      rw [xB_eq, xop_v ix (xvar_f (i := 3) (d := .str u.1.s) rfl) this]
      rfl
    have t3 : qOr (qNot (qTru (xVar 1))) (xB (xOp dNe (xOp dIx (xVar 1) (xUn dNeg (xC (.int 1)))) (xVar 3))) E = some (!decide (m = u.1), E) := by
      rw [qOr_eq, t1]
      exact t2
    unfold tdA
    by_cases q : m = u.1
    · rw [decide_eq_true q] at t3
      rw [sif_f t3, if_pos ⟨i, t, by rw [h0, q]⟩]
      rfl
    · rw [decide_eq_false q] at t3
      have n : ¬ ∃ i t, a = i ++ [(u.1, t)] := by
        rintro ⟨i', t', e⟩
        rw [h0] at e
        have := (List.append_inj' e rfl).2
        simp at this
        exact q this.1
      rw [sif_t t3, if_neg n]
      exact ap
theorem tdC_st (x : List U) (i : Frg) (m : Md) (t : List Nat) (c : Nat) (b : Option D) (h : t.length < 300000) : sExpr (xAppP (lIx (lV 2) (kC (-1))) (pV 4)) (tdE x (i ++ [(m, t)]) b (some (.str [c]))) = some (.nx (tdE x (i ++ [(m, t ++ [c])]) b (some (.str [c])))) := by
  have e1 : ttD (i ++ [(m, t)]) = ttD i ++ [.own (chD t)] := by unfold ttD; rw [List.map_append]; rfl
  have e2 : ttD (i ++ [(m, t ++ [c])]) = ttD i ++ [.own (chD (t ++ [c]))] := by unfold ttD; rw [List.map_append]; rfl
  have e3 : tmD (i ++ [(m, t)]) = tmD (i ++ [(m, t ++ [c])]) := by unfold tmD; rw [List.map_append, List.map_append]; rfl
  have l := l_last (ρ := tdE x (i ++ [(m, t)]) b (some (.str [c]))) (done := ttD i) (xs := chD t) (by unfold tdE; rw [e1]; rfl)
  have hc : (chD t).length < cap := by
    have : t.length < cap := Nat.lt_of_lt_of_le h (by decide)
    simpa [chD] using this
  have ap := chD_app t c
  unfold tdE at *
  rw [e1, e3] at l ⊢
  rw [e2]
  unfold xAppP
  rw [sExpr_eq]
  simp [l, pV, getP, hc, setP, ap]
open Classical in
theorem tdB_st (x : List U) (a : Frg) (u : U) (h1 : (us a).length < 300000) (h2 : a.length < 300000) : tdB (tdE x a (some (.str u.1.s)) (some (.str [u.2]))) = some (.nx (tdE x (addR a u) (some (.str u.1.s)) (some (.str [u.2])))) := by
  have e := tdA_st x a u h2
  unfold tdB
  rw [sseq_nx e]
  by_cases q : ∃ i t, a = i ++ [(u.1, t)]
  · rw [if_pos q]
    obtain ⟨i, t, rfl⟩ := q
    have lt : t.length < 300000 := by
      have : t.length ≤ (us (i ++ [(u.1, t)])).length := run_len (p := (u.1, t)) (by simp)
      omega
    rw [tdC_st x i u.1 t u.2 _ lt, addR_snoc, if_pos rfl]
  · rw [if_neg q, tdC_st x a u.1 [] u.2 _ (by simp)]
    rcases snoc_cases a with rfl | ⟨i, ⟨m, t⟩, rfl⟩
    · rfl
    · rw [addR_snoc, if_neg (fun z => q ⟨i, t, by rw [z]⟩)]
      rfl
theorem td_loop (x : List U) : ∀ (l : List U) (a : Frg) (b c : Option D), (us a).length + l.length < 290000 → a.length + l.length < 290000 → ∃ b' c', forL (gA 2 (gsCons (gN 3) (gsCons (gN 4) gsNil))) tdB (l.map U.d) (tdE x a b c) = some (.nx (tdE x (l.foldl addR a) b' c'))
  | [], a, b, c, _, _ => ⟨b, c, rfl⟩
  | u :: l, a, b, c, h1, h2 => by
    rw [List.length_cons] at h1 h2
    have st := tdB_st x a u (by omega) (by omega)
    have al := addR_len a u
    obtain ⟨b', c', e⟩ := td_loop x l (addR a u) (some (.str u.1.s)) (some (.str [u.2])) (by rw [us_addR, List.length_append, List.length_singleton]; omega) (by omega)
    refine ⟨b', c', ?_⟩
    have g1 : gA 2 (gsCons (gN 3) (gsCons (gN 4) gsNil)) u.d (tdE x a b c) = some (tdE x a (some (.str u.1.s)) (some (.str [u.2]))) := rfl
    rw [List.map_cons, forL_cons, g1]
    show (tdB _).bind _ = _
    rw [st]
    exact e
theorem zip_td : ∀ a : Frg, zipL (tmD a) (a.map fun p => .lst (chD p.2)) = a.map fun p => .tup [.str p.1.s, .lst (chD p.2)]
  | [] => rfl
  | p :: a => by
    show zipL (_ :: tmD a) (_ :: _) = _
    rw [zipL, zip_td a]
    rfl
theorem fold_len : ∀ (l : List U) (a : Frg), (l.foldl addR a).length ≤ a.length + l.length
  | [], a => by simp
  | u :: l, a => by
    have := fold_len l (addR a u)
    have := addR_len a u
    rw [List.foldl_cons, List.length_cons]
    omega
theorem tidyR_len (x : List U) : (tidyR x).length ≤ x.length := by
  have := fold_len x []
  simpa [tidyR] using this
theorem fz_ch (t : List Nat) : (chD t).map fz = chD t := by
  unfold chD
  rw [List.map_map]
  exact List.map_congr_left fun c _ => fz_str _
theorem den_tidy (x : List U) (h : x.length < 200000) : d_tidy [.lst (x.map U.d)] = some (.v (.lst ((tidyR x).map encR)), [.lst (x.map U.d)]) := by
  obtain ⟨b, c, e⟩ := td_loop x x [] none none (by simp [us]; omega) (by simp; omega)
  have tl := tidyR_len x
  have ut := congrArg List.length (us_tidyR x)
  rw [show List.foldl addR [] x = tidyR x from rfl] at e
  generalize tidyR x = a at *
  have acap : a.length ≤ cap := nats_le2 (by omega)
  let E0 : Env := [some (.lst (x.map U.d)), none, none, none, none, none, none]
  let E1 : Env := [some (.lst (x.map U.d)), some (.own []), none, none, none, none, none]
  let E3 := tdE x a b c
  let E4 : Env := [some (.lst (x.map U.d)), some (.lst (tmD a)), some (.own (ttD a)), b, c, none, none]
  let E5 : Env := [some (.lst (x.map U.d)), some (.lst (tmD a)), some (.lst (a.map fun p => .lst (chD p.2))), b, c, none, none]
  have k1 : sSet 1 (xLst xNil) E0 = some (.nx E1) := rfl
  have k1' : sSet 2 (xLst xNil) E1 = some (.nx (tdE x [] none none)) := rfl
  have k2 : sFor (iA (xVar 0)) (gA 2 (gsCons (gN 3) (gsCons (gN 4) gsNil))) tdB (tdE x [] none none) = some (.nx E3) := by
    rw [sFor_eq, iA_eq, xvar_f (i := 0) (ρ := tdE x [] none none) (d := .lst (x.map U.d)) rfl]
    exact e
  have f1 : xFz (xVar 1) E3 = some (.v (.lst (tmD a)), E4) := by
    have v : xVar 1 E3 = some (.at 1, E3) := rfl
    have ft : (tmD a).map fz = tmD a := by
      unfold tmD
      rw [List.map_map]
      exact List.map_congr_left fun p _ => fz_str _
    rw [xFz_eq, v, Option.bind_some, fzK_at]
    show some (R.v (fz (.own (tmD a))), E3.set 1 (some (fz (.own (tmD a))))) = _
    rw [fz_own, ft]
    rfl
  have f2 : xFz (xVar 2) E4 = some (.v (.lst (a.map fun p => .lst (chD p.2))), E5) := by
    have v : xVar 2 E4 = some (.at 2, E4) := rfl
    have ft : (ttD a).map fz = a.map fun p => .lst (chD p.2) := by
      unfold ttD
      rw [List.map_map]
      refine List.map_congr_left fun p _ => ?_
      show fz (.own (chD p.2)) = _
      rw [fz_own, fz_ch]
    rw [xFz_eq, v, Option.bind_some, fzK_at]
    show some (R.v (fz (.own (ttD a))), E4.set 2 (some (fz (.own (ttD a))))) = _
    rw [fz_own, ft]
    rfl
  have iz : iZ (xCons (xFz (xVar 1)) (xCons (xFz (xVar 2)) xNil)) E3 = some (a.map fun p => .tup [.str p.1.s, .lst (chD p.2)], E5) := by
    unfold iZ
    rw [xCons_eq, f1, Option.bind_some]
    dsimp only
    rw [xCons_eq, f2]
    show some (zipL (tmD a) (a.map fun p => .lst (chD p.2)), E5) = _
    rw [zip_td]
  have lc := lcL_ok (g := gA 2 (gsCons (gN 5) (gsCons (gN 6) gsNil))) (t := qYes) (f := xTup (xCons (xVar 5) (xCons (xBM "str" dJoin (xC (.str [])) (xCons (xVar 6) xNil)) xNil))) (vs := [5, 6]) (fun p : Md × List Nat => D.tup [.str p.1.s, .lst (chD p.2)]) (fun _ => true) encR E5 a (fun p hp => ⟨[some (.lst (x.map U.d)), some (.lst (tmD a)), some (.lst (a.map fun p => .lst (chD p.2))), b, c, some (.str p.1.s), some (.lst (chD p.2))], rfl, rfl, fun _ => by
    let E6 : Env := [some (.lst (x.map U.d)), some (.lst (tmD a)), some (.lst (a.map fun p => .lst (chD p.2))), b, c, some (.str p.1.s), some (.lst (chD p.2))]
    have pl := run_len hp
    have j := join_v (X := xVar 6) (ρ := E6) (f := fun c => c) (l := p.2) (xvar_f (i := 6) (d := .lst (chD p.2)) rfl) (nats_cap (by omega))
    rw [List.map_id'] at j
    have v5 : xVar 5 E6 = some (.v (.str p.1.s), E6) := rfl
    show xTup _ E6 = some (.v (encR p), E6)
    rw [xTup_eq, xCons_eq, v5, Option.bind_some]
    dsimp only
    rw [xCons_eq, j]
    rfl, rfl⟩)
  rw [filter_true] at lc
  refine dn_rt E0 rfl rfl (r := .v (.lst (a.map encR))) (ρ := E5) ?_ rfl rfl
  rw [td_eq, sseq_nx k1, sseq_nx k1', sseq_nx k2]
  refine sret_v ?_
  rw [xFz_eq]
  unfold xLc
  rw [iz, Option.bind_some]
  show (Option.bind ((lcL _ _ _ _ (a.map fun p => D.tup [.str p.1.s, .lst (chD p.2)]) E5).bind _) fzK) = _
  rw [lc, Option.bind_some, if_pos (by rw [List.length_map]; exact acap), Option.bind_some, fzK_own, fz_own, fz_encR]
end Den

namespace Den
open PySem PySem.Spec PyProof.Rows L2
/-! ### data that is compared whole -/
structure Gd {α : Type} (P : α → Prop) (enc : α → D) (k : Nat) : Prop where
  ok : ∀ a, P a → noTy (enc a) = true ∧ (py (enc a)).canLay0 = true ∧ (py (enc a)).depth ≤ k
  eq : ∀ a b, PyData.eqv (py (enc a)) (py (enc b)) = true ↔ a = b
def sok (t : List Nat) : Prop := ∀ c ∈ t, c < 1114112
theorem strOk_of {s : List Nat} (h : sok s) : PyData.strOk ⟨s.toArray⟩ = true := by
  unfold PyData.strOk
  rw [show (⟨s.toArray⟩ : Str).cps = s.toArray from rfl]
  simp
  exact h
theorem gd_str : Gd sok D.str 0 where
  ok s h := ⟨rfl, by show PyData.canLay0 (.str ⟨s.toArray⟩) = true; simp [PyData.canLay0, strOk_of h], by show PyData.depth (.str ⟨s.toArray⟩) ≤ 0; simp [PyData.depth]⟩
  eq a b := by
    show PyData.eqv (.str ⟨a.toArray⟩) (.str ⟨b.toArray⟩) = true ↔ _
    simp [PyData.eqv]
theorem gd_int : Gd (fun _ : Int => True) D.int 0 where
  ok s h := ⟨rfl, by show PyData.canLay0 (.int s) = true; simp [PyData.canLay0], by show PyData.depth (.int s) ≤ 0; simp [PyData.depth]⟩
  eq a b := by
    show PyData.eqv (.int a) (.int b) = true ↔ _
    simp [PyData.eqv]
theorem gd_nat : Gd (fun _ : Nat => True) iD 0 where
  ok s h := gd_int.ok _ trivial
  eq a b := by rw [show iD a = D.int a from rfl, show iD b = D.int b from rfl, gd_int.eq]; omega
section
variable {α β γ : Type} {P : α → Prop} {Q : β → Prop} {R' : γ → Prop} {ea : α → D} {eb : β → D} {ec : γ → D} {k k2 k3 : Nat}
theorem Gd.all (h : Gd P ea k) : ∀ l : List α, (∀ a ∈ l, P a) → noTys (l.map ea) = true ∧ PyData.canLayAll0 (pys (l.map ea)) = true ∧ PyData.depthAll (pys (l.map ea)) ≤ k
  | [], _ => ⟨rfl, by simp [pys, PyData.canLayAll0], by simp [pys, PyData.depthAll]⟩
  | a :: l, p => by
    obtain ⟨h1, h2, h3⟩ := h.ok a (p a (List.mem_cons_self ..))
    obtain ⟨i1, i2, i3⟩ := h.all l fun b hb => p b (List.mem_cons_of_mem _ hb)
    refine ⟨?_, ?_, ?_⟩
    · show (noTy (ea a) && noTys (l.map ea)) = true
      rw [h1, i1]; rfl
    · show PyData.canLayAll0 (py (ea a) :: pys (l.map ea)) = true
      simp [PyData.canLayAll0, h2, i2]
    · show PyData.depthAll (py (ea a) :: pys (l.map ea)) ≤ k
      simp [PyData.depthAll]
      omega
theorem Gd.eqs (h : Gd P ea k) : ∀ l m : List α, PyData.eqvAll (pys (l.map ea)) (pys (m.map ea)) = true ↔ l = m
  | [], [] => by simp [pys, PyData.eqvAll]
  | [], b :: m => by
    show PyData.eqvAll [] (py (ea b) :: pys (m.map ea)) = true ↔ _
    simp [PyData.eqvAll]
  | a :: l, [] => by
    show PyData.eqvAll (py (ea a) :: pys (l.map ea)) [] = true ↔ _
    simp [PyData.eqvAll]
  | a :: l, b :: m => by
    show PyData.eqvAll (py (ea a) :: pys (l.map ea)) (py (ea b) :: pys (m.map ea)) = true ↔ _
    simp only [PyData.eqvAll, Bool.and_eq_true, h.eq, h.eqs l m]
    simp
theorem Gd.lst (h : Gd P ea k) : Gd (fun l : List α => ∀ a ∈ l, P a) (fun l => .lst (l.map ea)) (k + 1) where
  ok l p := by
    obtain ⟨i1, i2, i3⟩ := h.all l p
    refine ⟨i1, ?_, ?_⟩
    · show PyData.canLay0 (.list (pys (l.map ea))) = true
      simp [PyData.canLay0, i2]
    · show PyData.depth (.list (pys (l.map ea))) ≤ k + 1
      simp [PyData.depth]
      omega
  eq l m := by
    show PyData.eqv (.list (pys (l.map ea))) (.list (pys (m.map ea))) = true ↔ _
    rw [PyData.eqv, h.eqs]
theorem Gd.tup2 (h : Gd P ea k) (h2 : Gd Q eb k) : Gd (fun p : α × β => P p.1 ∧ Q p.2) (fun p => .tup [ea p.1, eb p.2]) (k + 1) where
  ok p hp := by
    obtain ⟨a1, a2, a3⟩ := h.ok p.1 hp.1
    obtain ⟨b1, b2, b3⟩ := h2.ok p.2 hp.2
    refine ⟨?_, ?_, ?_⟩
    · show (noTy (ea p.1) && (noTy (eb p.2) && true)) = true
      rw [a1, b1]; rfl
    · show PyData.canLay0 (.tuple [py (ea p.1), py (eb p.2)]) = true
      simp [PyData.canLay0, PyData.canLayAll0, a2, b2]
    · show PyData.depth (.tuple [py (ea p.1), py (eb p.2)]) ≤ k + 1
      simp [PyData.depth, PyData.depthAll]
      omega
  eq p q := by
    show PyData.eqv (.tuple [py (ea p.1), py (eb p.2)]) (.tuple [py (ea q.1), py (eb q.2)]) = true ↔ _
    simp only [PyData.eqv, PyData.eqvAll, Bool.and_eq_true, h.eq, h2.eq]
    obtain ⟨p1, p2⟩ := p
    obtain ⟨q1, q2⟩ := q
    simp
theorem Gd.tup3 (h : Gd P ea k) (h2 : Gd Q eb k) (h3 : Gd R' ec k) : Gd (fun p : α × β × γ => P p.1 ∧ Q p.2.1 ∧ R' p.2.2) (fun p => .tup [ea p.1, eb p.2.1, ec p.2.2]) (k + 1) where
  ok p hp := by
    obtain ⟨a1, a2, a3⟩ := h.ok p.1 hp.1
    obtain ⟨b1, b2, b3⟩ := h2.ok p.2.1 hp.2.1
    obtain ⟨c1, c2, c3⟩ := h3.ok p.2.2 hp.2.2
    refine ⟨?_, ?_, ?_⟩
    · show (noTy (ea p.1) && (noTy (eb p.2.1) && (noTy (ec p.2.2) && true))) = true
      rw [a1, b1, c1]; rfl
    · show PyData.canLay0 (.tuple [py (ea p.1), py (eb p.2.1), py (ec p.2.2)]) = true
      simp [PyData.canLay0, PyData.canLayAll0, a2, b2, c2]
    · show PyData.depth (.tuple [py (ea p.1), py (eb p.2.1), py (ec p.2.2)]) ≤ k + 1
      simp [PyData.depth, PyData.depthAll]
      omega
  eq p q := by
    show PyData.eqv (.tuple [py (ea p.1), py (eb p.2.1), py (ec p.2.2)]) (.tuple [py (ea q.1), py (eb q.2.1), py (ec q.2.2)]) = true ↔ _
    simp only [PyData.eqv, PyData.eqvAll, Bool.and_eq_true, h.eq, h2.eq, h3.eq]
    obtain ⟨p1, p2, p3⟩ := p
    obtain ⟨q1, q2, q3⟩ := q
    simp
theorem Gd.bEq (h : Gd P ea k) (hk : k ≤ 64) {a b : α} (pa : P a) (pb : P b) (sn : sEq (ea a) (ea b) = none) (v : Bool) (hv : v = true ↔ a = b) : bEq (ea a) (ea b) = some v := by
  obtain ⟨a1, a2, a3⟩ := h.ok a pa
  obtain ⟨b1, b2, b3⟩ := h.ok b pb
  have oa : okD (ea a) = true := by
    unfold okD SeqAt.shaped
    rw [a1, a2, decide_eq_true (show (py (ea a)).depth ≤ 64 by omega)]
    rfl
  have ob : okD (ea b) = true := by
    unfold okD SeqAt.shaped
    rw [b1, b2, decide_eq_true (show (py (ea b)).depth ≤ 64 by omega)]
    rfl
  have e : PyData.eqv (py (ea a)) (py (ea b)) = v := by
    rw [Bool.eq_iff_iff, h.eq, hv]
  unfold Den.bEq
  rw [sn, oa, ob, e]
  rfl
theorem Gd.dEq [DecidableEq α] (h : Gd P ea k) (hk : k ≤ 64) {a b : α} (pa : P a) (pb : P b) (sn : sEq (ea a) (ea b) = none) : dEq (ea a) (ea b) = some (.bl (decide (a = b))) := by
  unfold Den.dEq
  rw [h.bEq hk pa pb sn (decide (a = b)) (by simp)]
  rfl
theorem Gd.dNe [DecidableEq α] (h : Gd P ea k) (hk : k ≤ 64) {a b : α} (pa : P a) (pb : P b) (sn : sEq (ea a) (ea b) = none) : dNe (ea a) (ea b) = some (.bl (decide (a ≠ b))) := by
  unfold Den.dNe
  rw [h.bEq hk pa pb sn (decide (a = b)) (by simp)]
  simp
end
theorem gd_nf : Gd (fun f : NF => sok f.1 ∧ sok f.2.1 ∧ sok f.2.2) nfD 1 := gd_str.tup3 gd_str gd_str
theorem gd_md : Gd (fun _ : Md => True) (fun m => D.str m.s) 0 where
  ok m _ := gd_str.ok m.s (fun c hc => by cases m <;> (simp [Md.s] at hc; omega))
  eq a b := by rw [gd_str.eq, md_s_inj]
theorem gd_run : Gd (fun p : Md × List Nat => True ∧ sok p.2) encR 1 := gd_md.tup2 gd_str
def fok (a : Frg) : Prop := ∀ p ∈ a, True ∧ sok p.2
theorem gd_frg : Gd fok (fun a : Frg => .lst (a.map encR)) 2 := gd_run.lst
theorem gd_nats : Gd (fun l : List Nat => ∀ a ∈ l, True) (fun l => .lst (l.map iD)) 1 := gd_nat.lst
theorem frg_ne {a b : Frg} (ha : fok a) (hb : fok b) : dNe (.lst (a.map encR)) (.lst (b.map encR)) = some (.bl (decide (a ≠ b))) := gd_frg.dNe (by omega) ha hb rfl
theorem frg_eq {a b : Frg} (ha : fok a) (hb : fok b) : dEq (.lst (a.map encR)) (.lst (b.map encR)) = some (.bl (decide (a = b))) := gd_frg.dEq (by omega) ha hb rfl
def nok (f : NF) : Prop := sok f.1 ∧ sok f.2.1 ∧ sok f.2.2
theorem nf_ne {a b : NF} (ha : nok a) (hb : nok b) : dNe (nfD a) (nfD b) = some (.bl (decide (a ≠ b))) := gd_nf.dNe (by omega) ha hb rfl
theorem nf_eqD {a b : NF} (ha : nok a) (hb : nok b) : dEq (nfD a) (nfD b) = some (.bl (decide (a = b))) := gd_nf.dEq (by omega) ha hb rfl
theorem nats_neq {a b : List Nat} : dNe (.lst (natsD a)) (.lst (natsD b)) = some (.bl (decide (a ≠ b))) := gd_nats.dNe (by omega) (fun _ _ => trivial) (fun _ _ => trivial) rfl
/-! the signs are characters -/
def uok (x : List U) : Prop := ∀ u ∈ x, u.2 < 1114112
theorem gsn_sok {t : List Nat} (h : gsn t) : sok t := fun c hc => by have := h c hc; omega
theorem shC_ok {u : U} (h : u.2 < 1114112) : shC u < 1114112 := by
  unfold shC
  split
  · omega
  · split
    · omega
    · exact h
theorem bd_sok : ∀ {L : SG}, (∀ p ∈ L, p.1.2 < 1114112 ∧ ∀ u ∈ p.2, gk u.k = true) → sok (bd L).1
  | [], _ => by simp [bd, sok]
  | [(s, h)], g => fun c hc => by
    have : c = shC s := List.mem_singleton.mp hc
    rw [this]
    exact shC_ok (g _ (List.mem_cons_self ..)).1
  | (s, h) :: (s', h') :: r, g => fun c hc => by
    have ih := bd_sok (L := (s', h') :: r) fun p hp => g p (List.mem_cons_of_mem _ hp)
    have g0 := g _ (List.mem_cons_self ..)
    rcases List.mem_append.mp hc with hc | hc
    · rcases List.mem_cons.mp hc with rfl | hc
      · exact shC_ok g0.1
      · have := gsn_gform (gsn_sg g0.2) (some s.k) (some s'.k) c hc
        omega
    · exact ih c hc
theorem nf_nok {x : List U} (h : uok x) : nok (nf x) := by
  obtain ⟨g1, g2⟩ := split_gk x
  refine ⟨gsn_sok (nf_isNF x).1, ?_, gsn_sok (nf_isNF x).2.1⟩
  refine bd_sok fun p hp => ⟨?_, (g2 p hp).2⟩
  apply h
  rw [← flat_split x]
  refine List.mem_append.mpr (.inr ?_)
  exact List.mem_flatMap.mpr ⟨p, hp, List.mem_cons_self ..⟩
theorem uok_us {a : Frg} (h : fok a) : uok (us a) := fun u hu => by
  obtain ⟨p, hp, hu⟩ := List.mem_flatMap.mp hu
  obtain ⟨c, hc, rfl⟩ := List.mem_map.mp hu
  exact (h p hp).2 c hc
theorem fok_of {a : Frg} (h : uok (us a)) : fok a := fun p hp => ⟨trivial, fun c hc => h (p.1, c) (List.mem_flatMap.mpr ⟨p, hp, List.mem_map.mpr ⟨c, hc, rfl⟩⟩)⟩
theorem fok_tidy {x : List U} (h : uok x) : fok (tidyR x) := fok_of (by rw [us_tidyR]; exact h)
end Den

namespace Den
open PySem PySem.Spec PyProof.Rows L2
/-! ### stands_for, together, are_alike, shortened, free_places -/
theorem us_st (f : NF) : us [(Md.col, f.1), (Md.pre, f.2.1), (Md.col, f.2.2)] = stU f := by
  simp [us, uR, stU, colU, preU]
theorem stU_len (f : NF) : (stU f).length = nfTot f := by
  simp [stU, colU, preU, nfTot, Nat.add_assoc]
theorem den_stands_for (f : NF) (h : nfTot f < 90000) : d_stands_for [nfD f] = some (.v (.lst ((tidyR (stU f)).map encR)), [nfD f]) := by
  have eu := den_units [(Md.col, f.1), (Md.pre, f.2.1), (Md.col, f.2.2)] (by rw [us_st, stU_len]; exact nats_le2 (by omega))
  rw [us_st] at eu
  have et := den_tidy (stU f) (by rw [stU_len]; omega)
  let E0 : Env := [some (nfD f), none, none, none]
  let E1 : Env := [some (nfD f), some (.str f.1), some (.str f.2.1), some (.str f.2.2)]
  have k1 : sAsg (xVar 0) (gA 3 (gsCons (gN 1) (gsCons (gN 2) (gsCons (gN 3) gsNil)))) E0 = some (.nx E1) := rfl
  have l : xFz (xLst (xCons (xTup (xCons (xC (.str [99, 111, 108, 108, 97, 112, 115, 101])) (xCons (xVar 1) xNil))) (xCons (xTup (xCons (xC (.str [112, 114, 101, 115, 101, 114, 118, 101])) (xCons (xVar 2) xNil))) (xCons (xTup (xCons (xC (.str [99, 111, 108, 108, 97, 112, 115, 101])) (xCons (xVar 3) xNil))) xNil)))) E1 = some (.v (.lst ([(Md.col, f.1), (Md.pre, f.2.1), (Md.col, f.2.2)].map encR)), E1) := by
    have : xLst (xCons (xTup (xCons (xC (.str [99, 111, 108, 108, 97, 112, 115, 101])) (xCons (xVar 1) xNil))) (xCons (xTup (xCons (xC (.str [112, 114, 101, 115, 101, 114, 118, 101])) (xCons (xVar 2) xNil))) (xCons (xTup (xCons (xC (.str [99, 111, 108, 108, 97, 112, 115, 101])) (xCons (xVar 3) xNil))) xNil))) E1 = some (.own (.own ([(Md.col, f.1), (Md.pre, f.2.1), (Md.col, f.2.2)].map encR)), E1) := rfl
    rw [xFz_eq, this, Option.bind_some, fzK_own, fz_own, fz_encR]
  refine dn_rt E0 rfl rfl (r := .v (.lst ((tidyR (stU f)).map encR))) (ρ := E1) ?_ rfl rfl
  unfold b_stands_for
  rw [sseq_nx k1]
  exact sret_v (xcall1 (xcall1 l eu) et)
theorem add_lst {x y : List D} (h : x.length + y.length ≤ cap) : dAdd (.lst x) (.lst y) = some (.lst (x ++ y)) := by
  show (if x.length + y.length ≤ cap then some (D.lst (x ++ y)) else none) = _
  rw [if_pos h]
theorem den_together (f g : NF) (h : nfTot f + nfTot g < 90000) : d_together [nfD f, nfD g] = some (.v (nfD (nf (stU f ++ stU g))), [nfD f, nfD g]) := by
  have e1 := den_stands_for f (by omega)
  have e2 := den_stands_for g (by omega)
  have l1 := tidyR_len (stU f)
  have l2 := tidyR_len (stU g)
  rw [stU_len] at l1 l2
  have u : us (tidyR (stU f) ++ tidyR (stU g)) = stU f ++ stU g := by rw [us_app, us_tidyR, us_tidyR]
  have e3 := den_normal_form (tidyR (stU f) ++ tidyR (stU g)) (by rw [u, List.length_append, stU_len, stU_len]; exact h)
  rw [u, List.map_append] at e3
  refine dn_rt [some (nfD f), some (nfD g)] rfl rfl (r := .v (nfD (nf (stU f ++ stU g)))) (ρ := [some (nfD f), some (nfD g)]) ?_ rfl rfl
  refine sret_v (xcall1 (xop_v (xcall1 (xvar_f rfl) e1) (xcall1 (xvar_f rfl) e2) (add_lst ?_)) e3)
  rw [List.length_map, List.length_map]
  exact nats_le2 (by omega)
theorem den_together_nf {x y : List U} (h : x.length + y.length < 90000) : d_together [nfD (nf x), nfD (nf y)] = some (.v (nfD (nf (x ++ y))), [nfD (nf x), nfD (nf y)]) := by
  have := den_together (nf x) (nf y) (by have := nf_tot x; have := nf_tot y; omega)
  rwa [nf_stU2 _ _ (nf_isNF x) (nf_isNF y), ← nf_app] at this
theorem den_are_alike (a b : Frg) (ha : fok a) (hb : fok b) (la : (us a).length < 90000) (lb : (us b).length < 90000) : d_are_alike [.lst (a.map encR), .lst (b.map encR)] = some (.v (.bl (decide (nf (us a) = nf (us b)))), [.lst (a.map encR), .lst (b.map encR)]) := by
  have e1 := den_normal_form a la
  have e2 := den_normal_form b lb
  refine dn_rt [some (.lst (a.map encR)), some (.lst (b.map encR))] rfl rfl (r := .v (.bl (decide (nf (us a) = nf (us b))))) (ρ := [some (.lst (a.map encR)), some (.lst (b.map encR))]) ?_ rfl rfl
  exact sret_v (xop_v (xcall1 (xvar_f rfl) e1) (xcall1 (xvar_f rfl) e2) (nf_eqD (nf_nok (uok_us ha)) (nf_nok (uok_us hb))))
theorem needed_len (o : Ok) (x : List U) : (needed o x).length ≤ x.length := by
  unfold needed
  rw [List.length_map]
  exact srcs_len o x
theorem den_shortened (a : Frg) (h : (us a).length < 90000) : d_shortened [.lst (a.map encR)] = some (.v (.lst ((tidyR (needed none (us a))).map encR)), [.lst (a.map encR)]) := by
  have h' : (us a).length ≤ cap := nats_le2 (by omega)
  have e1 := den_units a h'
  have e2 := den_counting none (us a) h
  have e3 := den_tidy (needed none (us a)) (by have := needed_len none (us a); omega)
  let F : D := .lst (a.map encR)
  generalize us a = x at *
  let E1 : Env := [some F, some (.lst (x.map U.d)), none]
  have k1 : sSet 1 (xCallV 1 d_units (xCons (xVar 0) xNil)) [some F, none, none] = some (.nx E1) := sset_v (xcall1 (xvar_f rfl) e1)
  have l := lcA1 (f := xCallV 2 d_counting (xCons (xVar 1) (xCons (xC .non) xNil))) (g := gN 2) (e := xOp dIx (xVar 1) (xVar 2)) (vs := [2]) (ρ := E1) iD (fun k => (atU x k).d) (srcs none x) (xcall2 (xvar_f rfl) rfl e2) rfl rfl (fun k hk => ⟨_, rfl, xop_v (xvar_f rfl) (xvar_f rfl) (dIx_U (srcs_lt hk)), rfl⟩) (fun k => fz_U _) (nats_cap (by have := srcs_len none x; omega))
  have e : (srcs none x).map (fun k => (atU x k).d) = (needed none x).map U.d := by
    show _ = ((srcs none x).map (atU x)).map U.d
    rw [List.map_map]
    rfl
  rw [e] at l
  refine dn_rt [some F, none, none] rfl rfl (r := .v (.lst ((tidyR (needed none x)).map encR))) (ρ := E1) ?_ rfl rfl
  unfold b_shortened
  rw [sseq_nx k1]
  exact sret_v (xcall1 l e3)
end Den

namespace Den
open PySem PySem.Spec PyProof.Rows L2
/-! ### the frame of a law -/
theorem lV_bx {i : Nat} {ρ : Env} {is : List Int} {z : Int} (h : gt ρ i = some (bx is z)) : lV i ρ = some (i, []) := by rw [lV_eq, h]; rfl
theorem xcallL1 {den : Dn} {i : Nat} {f : Ex} {ρ : Env} {is : List Int} {z : Int} {d b' : D} {r : R} {es : List D} (h : gt ρ i = some (bx is z)) (hf : f ρ = some (.v d, ρ)) (hd : den [bx is z, d] = some (r, b' :: es)) : xCallL 2 den i (xCons f xNil) ρ = some (r, ρ.set i (some b')) := by
  rw [xCallL_eq, lV_bx h, Option.bind_some, xCons_eq, hf]
  simp [-gt_eq, h, hd]
theorem lend_frag (M : Int) (hM : 0 < M) (hM2 : M ≤ 20) (is : List Int) (z : Int) (hz : 0 ≤ z) : ∃ z' fr, 0 ≤ z' ∧ fr.length ≤ 4 ∧ (∀ p ∈ fr, p.2.length < M ∧ ∀ c ∈ p.2, c < 128) ∧ ∀ (i : Nat) (f : Ex) (ρ : Env), gt ρ i = some (bx is z) → f ρ = some (.v (.int M), ρ) →
    xCallL 2 d_law_fragment i (xCons f xNil) ρ = some (.v (.lst (List.map encR fr)), ρ.set i (some (bx is z'))) := by
  obtain ⟨z', fr, e, h1, h2, h3⟩ := den_frag M hM hM2 is z hz
  exact ⟨z', fr, h1, h2, h3, fun i f ρ h hf => xcallL1 h hf e⟩
theorem lend_dr (m : Int) (hm : 0 < m) (is : List Int) (z : Int) (hz : 0 ≤ z) : ∃ r : Int, 0 ≤ r ∧ r < m ∧ ∀ (i : Nat) (f : Ex) (ρ : Env), gt ρ i = some (bx is z) → f ρ = some (.v (.int m), ρ) →
    xCallL 2 d_law_draw i (xCons f xNil) ρ = some (.v (.int r), ρ.set i (some (bx is (z + 1)))) := by
  obtain ⟨r, h0, h1, e⟩ := den_drawZ is z hz m hm
  exact ⟨r, h0, h1, fun i f ρ h hf => xcallL1 h hf e⟩
/-- what a drawn fragment is -/
theorem frag_facts {fr : Frg} {M : Int} (hM : M ≤ 20) (h1 : fr.length ≤ 4) (h2 : ∀ p ∈ fr, p.2.length < M ∧ ∀ c ∈ p.2, c < 128) : (us fr).length ≤ 80 ∧ fok fr := by
  constructor
  · have : ∀ a : Frg, (∀ p ∈ a, p.2.length < M ∧ ∀ c ∈ p.2, c < 128) → (us a).length ≤ 20 * a.length := by
      intro a
      induction a with
      | nil => simp [us]
      | cons p a ih =>
        intro h
        have := ih fun q hq => h q (List.mem_cons_of_mem _ hq)
        have h0 := (h p (List.mem_cons_self ..)).1
        have e : (us (p :: a)).length = p.2.length + (us a).length := by simp [us, uR]
        rw [e, List.length_cons]
        omega
    have := this fr h2
    omega
  · exact fun p hp => ⟨trivial, fun c hc => by have := (h2 p hp).2 c hc; omega⟩
theorem iR1_k {K : Nat} (hK : K < 90000) (ρ : Env) : iR1 (xCons (xC (.int (K : Nat))) xNil) ρ = some ((List.range K).map iD, ρ) := by
  have := iR1_of (g := xCons (xC (.int (K : Nat))) xNil) (ρ := ρ) (z := (K : Nat)) rfl (small_nat _ hK)
  rw [this]
  show some (rng 0 K, ρ) = _
  rw [rng0]
/-- a law that runs K turns over a box of N draws, and tells True behind them -/
theorem law_runZ {B Z : Es} {W : List Nat} {m : Nat} (N K : Nat) (hN : N ≤ 63) (hK : K < 90000) (ns : List Int) (hW : W.contains 0 = false) (P : Env → Prop) (hP : P (List.replicate m none)) (hB : ∀ (is : List Int) (z : Int) (k : Nat) (rest : Env), 0 ≤ z → P rest → ∃ (z' : Int) (x : Option D) (rest' : Env), B (some (.rd (ns.map D.int)) :: some (bx is z) :: some (iD k) :: rest) = some (.nx (some (.rd (ns.map D.int)) :: some (bx is z') :: x :: rest')) ∧ 0 ≤ z' ∧ P rest') (hZ : ∀ (is : List Int) (z : Int) (x : Option D) (rest : Env), 0 ≤ z → P rest → ∃ ρ', Z (some (.rd (ns.map D.int)) :: some (bx is z) :: x :: rest) = some (.rt (.v (.bl true)) ρ')) :
    ∃ es, dnOf W 1 (m + 3) (sSeq (sSet 1 (xLst (xCons (xCallV 3 d_law_row (xCons (xVar 0) (xCons (xC (.int 0)) (xCons (xC (.int (N : Nat))) xNil)))) (xCons (xC (.int 0)) xNil))))
      (sSeq (sFor (iR1 (xCons (xC (.int (K : Nat))) xNil)) (gN 2) B)
      Z)) [.rd (ns.map D.int)] = some (.v (.bl true), es) := by
  obtain ⟨is, er, hl⟩ := den_row ns N hN
  let S : Option D := some (.rd (ns.map D.int))
  obtain ⟨ρ', e, z, x, rest, rfl, hz, hr⟩ := forL_cnt iD (fun n ρ => ∃ z x rest, ρ = S :: some (bx is z) :: x :: rest ∧ 0 ≤ z ∧ P rest) (g := gN 2) (b := B) (List.range K) (S :: some (bx is 0) :: none :: List.replicate m none) ⟨0, none, _, rfl, by omega, hP⟩ (by
    rintro n k ρ hn hk ⟨z, x, rest, rfl, hz, hr⟩
    obtain ⟨z', x', rest', e, h1, h2⟩ := hB is z k rest hz hr
    exact ⟨_, _, gN_eq _ _ _, e, z', x', rest', rfl, h1, h2⟩)
  have k1 : sSet 1 (xLst (xCons (xCallV 3 d_law_row (xCons (xVar 0) (xCons (xC (.int 0)) (xCons (xC (.int (N : Nat))) xNil)))) (xCons (xC (.int 0)) xNil))) (S :: none :: none :: List.replicate m none) = some (.nx (S :: some (bx is 0) :: none :: List.replicate m none)) := by
    have c := xcall3 (den := d_law_row) (f := xVar 0) (g := xC (.int 0)) (k := xC (.int (N : Nat))) (ρ := S :: none :: none :: List.replicate m none) (xvar_f (d := .rd (ns.map D.int)) rfl) rfl rfl er
    have l : xLst (xCons (xCallV 3 d_law_row (xCons (xVar 0) (xCons (xC (.int 0)) (xCons (xC (.int (N : Nat))) xNil)))) (xCons (xC (.int 0)) xNil)) (S :: none :: none :: List.replicate m none) = some (.own (bx is 0), S :: none :: none :: List.replicate m none) := by
      rw [xLst_eq, xCons_eq, c]
      rfl
    rw [sSet_eq, l]
    rfl
  have k2 : sFor (iR1 (xCons (xC (.int (K : Nat))) xNil)) (gN 2) B (S :: some (bx is 0) :: none :: List.replicate m none) = some (.nx (S :: some (bx is z) :: x :: rest)) := by
    rw [sFor_eq, iR1_k hK]
    exact e
  obtain ⟨ρZ, eZ⟩ := hZ is z x rest hz hr
  refine ⟨[.rd (ns.map D.int)], dn_rt (S :: none :: none :: List.replicate m none) rfl ?_ (r := .v (.bl true)) (ρ := ρZ) ?_ rfl ?_⟩
  · show S :: List.replicate (m + 3 - 1) none = _
    rw [show m + 3 - 1 = m + 1 + 1 by omega, List.replicate_succ, List.replicate_succ]
  · rw [sseq_nx k1, sseq_nx k2]
    exact eZ
  · rfl
theorem law_runP {B : Es} {W : List Nat} {m : Nat} (N K : Nat) (hN : N ≤ 63) (hK : K < 90000) (ns : List Int) (hW : W.contains 0 = false) (P : Env → Prop) (hP : P (List.replicate m none)) (hB : ∀ (is : List Int) (z : Int) (k : Nat) (rest : Env), 0 ≤ z → P rest → ∃ (z' : Int) (x : Option D) (rest' : Env), B (some (.rd (ns.map D.int)) :: some (bx is z) :: some (iD k) :: rest) = some (.nx (some (.rd (ns.map D.int)) :: some (bx is z') :: x :: rest')) ∧ 0 ≤ z' ∧ P rest') :
    ∃ es, dnOf W 1 (m + 3) (sSeq (sSet 1 (xLst (xCons (xCallV 3 d_law_row (xCons (xVar 0) (xCons (xC (.int 0)) (xCons (xC (.int (N : Nat))) xNil)))) (xCons (xC (.int 0)) xNil))))
      (sSeq (sFor (iR1 (xCons (xC (.int (K : Nat))) xNil)) (gN 2) B)
      (sRet (xC (.bl true))))) [.rd (ns.map D.int)] = some (.v (.bl true), es) :=
  law_runZ N K hN hK ns hW P hP hB fun _ _ _ _ _ _ => ⟨_, rfl⟩
theorem law_run {B : Es} {W : List Nat} {m : Nat} (N K : Nat) (hN : N ≤ 63) (hK : K < 90000) (ns : List Int) (hW : W.contains 0 = false) (hB : ∀ (is : List Int) (z : Int) (k : Nat) (rest : Env), 0 ≤ z → rest.length = m → ∃ (z' : Int) (x : Option D) (rest' : Env), B (some (.rd (ns.map D.int)) :: some (bx is z) :: some (iD k) :: rest) = some (.nx (some (.rd (ns.map D.int)) :: some (bx is z') :: x :: rest')) ∧ 0 ≤ z' ∧ rest'.length = m) :
    ∃ es, dnOf W 1 (m + 3) (sSeq (sSet 1 (xLst (xCons (xCallV 3 d_law_row (xCons (xVar 0) (xCons (xC (.int 0)) (xCons (xC (.int (N : Nat))) xNil)))) (xCons (xC (.int 0)) xNil))))
      (sSeq (sFor (iR1 (xCons (xC (.int (K : Nat))) xNil)) (gN 2) B)
      (sRet (xC (.bl true))))) [.rd (ns.map D.int)] = some (.v (.bl true), es) :=
  law_runP N K hN hK ns hW (fun rest => rest.length = m) (by simp) hB
theorem own_ne (x : D) (ds : List D) : dNe (.lst ds) (.own ds) = dNe (.lst ds) (.lst ds) := rfl
theorem add_u {x y : List U} (h : x.length + y.length < 90000) : dAdd (.lst (x.map U.d)) (.lst (y.map U.d)) = some (.lst ((x ++ y).map U.d)) := by
  rw [add_lst (by rw [List.length_map, List.length_map]; exact nats_le2 (by omega)), List.map_append]
theorem uok_app {x y : List U} (h : uok x) (h' : uok y) : uok (x ++ y) := fun u hu => (List.mem_append.mp hu).elim (h u) (h' u)
theorem nf_ne_self {x : List U} (h : uok x) : dNe (nfD (nf x)) (nfD (nf x)) = some (.bl false) := by
  rw [nf_ne (nf_nok h) (nf_nok h)]
  simp
end Den

namespace Den
open PySem PySem.Spec PyProof.Rows L2
/-! ### the needed units: as many as the normal form has signs; needed again they stay -/
theorem rd1_10_len {t : List Nat} (h : 10 ∈ t) : (rd1 10 t).length = (mk t).length + 1 := by
  obtain ⟨e, n, _⟩ := idx_split h
  have e1 : rd1 10 t = mk (t.take (t.idxOf 10)) ++ 10 :: mk (t.drop (t.idxOf 10 + 1)) := by
    have := rd1_split (w := 10) (.inr rfl) (b := t.drop (t.idxOf 10 + 1)) n
    rwa [← e] at this
  have e2 : mk t = mk (t.take (t.idxOf 10)) ++ mk (t.drop (t.idxOf 10 + 1)) := by
    have := mk_split (w := 10) (.inr rfl) (t.take (t.idxOf 10)) (t.drop (t.idxOf 10 + 1))
    rwa [← e] at this
  rw [e1, e2]
  simp
  omega
theorem gform_keep_len (t : List Nat) (l r : Ok) : (gform t l r).length = (keepG t l r).length := by
  unfold gform keepG
  by_cases h1 : endO l r = true
  · rw [if_pos h1, if_pos h1]
  rw [if_neg h1, if_neg h1]
  by_cases h2 : 10 ∈ t
  · rw [if_pos h2, if_pos h2]
    have len := rd1_10_len h2
    by_cases b : both l r = true
    · rw [if_pos b]
      split
      · rfl
      · simp [f2s]
    · rw [if_neg b]
      have j : joinO l r = false := by rcases l with _ | l <;> rcases r with _ | r <;> first | rfl | exact absurd rfl b
      rw [j, if_neg Bool.false_ne_true]
      (repeat' split) <;> simp [len]
  · rw [if_neg h2, if_neg h2]
theorem keptU_len (c : List U) (l r : Ok) (hg : ∀ u ∈ c, gk u.k = true) : (keptU c l r).length = (gform (sg c) l r).length := by
  rw [gform_keep_len, ← sg_keptU c l r hg]
  simp [sg]
theorem ndL_len : ∀ {L : SG}, (∀ p ∈ L, gk p.1.k = false ∧ ∀ u ∈ p.2, gk u.k = true) → (ndL none L).length = (bd L).1.length + (bd L).2.length
  | [], _ => rfl
  | [(s, h)], g => by
    have := keptU_len h (some s.k) none (g _ (List.mem_cons_self ..)).2
    simp [ndL, bd, hdO, this]
    omega
  | (s, h) :: (s', h') :: r, g => by
    have ih := ndL_len (L := (s', h') :: r) fun p hp => g p (List.mem_cons_of_mem _ hp)
    have := keptU_len h (some s.k) (some s'.k) (g _ (List.mem_cons_self ..)).2
    show (s :: (keptU h (some s.k) (some s'.k) ++ ndL none ((s', h') :: r))).length = (shC s :: gform (sg h) (some s.k) (some s'.k) ++ (bd ((s', h') :: r)).1).length + (bd ((s', h') :: r)).2.length
    rw [List.length_cons, List.length_append, ih, this, List.length_append, List.length_cons]
    omega
theorem needed_tot (x : List U) : (needed none x).length = nfTot (nf x) := by
  obtain ⟨g1, g2⟩ := split_gk x
  rw [needed_eq, List.length_append, ndL_len g2, keptU_len _ _ _ g1, hdO_none]
  unfold nfTot nf
  dsimp only
  omega
def ndS : SG → SG
  | [] => []
  | (s, h) :: L => (s, keptU h (some s.k) (hdO none L)) :: ndS L
theorem flat_ndS : ∀ L : SG, flatL (ndS L) = ndL none L
  | [] => rfl
  | (s, h) :: L => by
    show (s :: keptU h (some s.k) (hdO none L)) ++ flatL (ndS L) = _
    rw [flat_ndS L]
    rfl
theorem split_of : ∀ (L : SG) (c : List U), (∀ u ∈ c, gk u.k = true) → (∀ p ∈ L, gk p.1.k = false ∧ ∀ u ∈ p.2, gk u.k = true) → split (c ++ flatL L) = (c, L)
  | L, u :: c, hc, hL => by
    rw [List.cons_append, split, if_pos (hc u (List.mem_cons_self ..)), split_of L c (fun v hv => hc v (List.mem_cons_of_mem _ hv)) hL]
  | [], [], _, _ => rfl
  | (s, h) :: L, [], _, hL => by
    have g := hL _ (List.mem_cons_self ..)
    show split (s :: (h ++ flatL L)) = _
    rw [split, if_neg (by rw [g.1]; decide), split_of L h g.2 fun p hp => hL p (List.mem_cons_of_mem _ hp)]
termination_by L c => (L.length, c.length)
theorem split_needed (x : List U) : split (needed none x) = (keptU (split x).1 none (hdO none (split x).2), ndS (split x).2) := by
  obtain ⟨g1, g2⟩ := split_gk x
  rw [needed_eq, ← flat_ndS]
  refine split_of _ _ (fun u hu => g1 u (keptU_mem hu)) ?_
  generalize (split x).2 = L at g2
  induction L with
  | nil => intro p hp; cases hp
  | cons q L ih =>
    obtain ⟨s, h⟩ := q
    intro p hp
    have g := g2 _ (List.mem_cons_self ..)
    rcases List.mem_cons.mp hp with rfl | hp
    · exact ⟨g.1, fun u hu => g.2 u (keptU_mem hu)⟩
    · exact ih (fun q hq => g2 q (List.mem_cons_of_mem _ hq)) p hp
theorem gform_keepG (t : List Nat) (l r : Ok) : gform (keepG t l r) l r = gform t l r := by
  by_cases h1 : endO l r = true
  · rw [gform_end _ l r h1, gform_end _ l r h1]
    unfold keepG
    rw [if_pos h1, mk_mk]
  have e : keepG t l r = if 10 ∈ t then (if joinO l r then mk t else rd1 10 t) else rd1 32 t := by
    unfold keepG
    rw [if_neg h1]
  by_cases h2 : 10 ∈ t
  · rw [if_pos h2] at e
    by_cases h3 : joinO l r = true
    · rw [if_pos h3] at e
      rw [e, gform_marks (no32 t) (no10 t)]
      have b : both l r = true := by rcases l with _ | l <;> rcases r with _ | r <;> first | (cases h3; done) | rfl
      unfold gform
      rw [if_neg h1, if_pos h2, if_pos b, if_pos h3]
    · rw [if_neg h3] at e
      have : keepG t l r = red t := by rw [e]; unfold red; rw [if_pos h2]
      rw [this, gform_of_red]
  · rw [if_neg h2] at e
    have : keepG t l r = red t := by rw [e]; unfold red; rw [if_neg h2]
    rw [this, gform_of_red]
theorem ndS_hd (L : SG) : hdK (ndS L) = hdK L := by
  cases L with
  | nil => rfl
  | cons p L => obtain ⟨s, h⟩ := p; rfl
theorem bd_ndS : ∀ {L : SG}, (∀ p ∈ L, gk p.1.k = false ∧ ∀ u ∈ p.2, gk u.k = true) → bd (ndS L) = bd L
  | [], _ => rfl
  | [(s, h)], g => by
    show ([shC s], gform (sg (keptU h (some s.k) none)) (some s.k) none) = ([shC s], gform (sg h) (some s.k) none)
    rw [sg_keptU _ _ _ (g _ (List.mem_cons_self ..)).2, gform_keepG]
  | (s, h) :: (s', h') :: r, g => by
    have ih := bd_ndS (L := (s', h') :: r) fun p hp => g p (List.mem_cons_of_mem _ hp)
    show (shC s :: gform (sg (keptU h (some s.k) (some s'.k))) (some s.k) (some s'.k) ++ (bd (ndS ((s', h') :: r))).1, (bd (ndS ((s', h') :: r))).2) = (shC s :: gform (sg h) (some s.k) (some s'.k) ++ (bd ((s', h') :: r)).1, (bd ((s', h') :: r)).2)
    rw [ih, sg_keptU _ _ _ (g _ (List.mem_cons_self ..)).2, gform_keepG]
/-- the shortened fragment is alike -/
theorem nf_needed (x : List U) : nf (needed none x) = nf x := by
  obtain ⟨g1, g2⟩ := split_gk x
  unfold nf
  rw [split_needed]
  dsimp only
  rw [ndS_hd, bd_ndS g2, hdO_none, sg_keptU _ _ _ g1, gform_keepG]
theorem needed_sub (o : Ok) (x : List U) : (needed o x).Sublist x := by
  have e : needed o x = ((x.zipIdx).filter (sv (keptL o x))).map (·.1) := by
    unfold needed
    rw [srcs_eq, List.map_map]
    refine List.map_congr_left fun p hp => ?_
    have hz := List.mem_zipIdx (List.mem_filter.mp hp).1
    simp at hz
    obtain ⟨h1, h2⟩ := hz
    show atU x p.2 = p.1
    unfold atU
    simp [h1, h2]
  rw [e]
  have : (((x.zipIdx).filter (sv (keptL o x))).map (·.1)).Sublist (x.zipIdx.map (·.1)) := (List.filter_sublist ..).map _
  rwa [List.zipIdx_map_fst] at this
/-- shortened again it stays -/
theorem needed_needed (x : List U) : needed none (needed none x) = needed none x := by
  refine (needed_sub none (needed none x)).eq_of_length ?_
  rw [needed_tot, nf_needed, ← needed_tot]
theorem uok_needed {x : List U} (h : uok x) : uok (needed none x) := fun u hu => h u ((needed_sub none x).subset hu)
theorem uok_take {x : List U} (h : uok x) (n : Nat) : uok (x.take n) := fun u hu => h u (List.mem_of_mem_take hu)
theorem uok_drop {x : List U} (h : uok x) (n : Nat) : uok (x.drop n) := fun u hu => h u (List.mem_of_mem_drop hu)
end Den

namespace Den
open PySem PySem.Spec PyProof.Rows L2
/-! ### a gap within a fragment -/
theorem nf_nil : nf [] = ([], [], []) := rfl
theorem nf_solid {s : U} (h : gk s.k = false) : nf [s] = ([], [shC s], []) := by
  unfold nf
  rw [split, if_neg (by rw [h]; decide)]
  show (gform [] none _, [shC s], gform [] _ none) = _
  rw [gform_marks (by simp) (by simp), gform_marks (by simp) (by simp)]
theorem gform_nil (l r : Ok) : gform [] l r = [] := gform_marks (by simp) (by simp) l r
theorem gform_half_l (t : List Nat) (l r : Ok) : gform (gform t l none) l r = gform t l r := by
  have := gform_app t [] l r
  rwa [gform_nil, List.append_nil, List.append_nil] at this
theorem gform_half_r (t : List Nat) (l r : Ok) : gform (gform t none r) l r = gform t l r := by
  have := gform_app [] t l r
  rwa [gform_nil, List.nil_append, List.nil_append] at this
theorem cat_nil_r (p : NF) (h : isNF p) : cat p ([], [], []) = p := by
  obtain ⟨a, c, e⟩ := p
  obtain ⟨h1, h2, h3, h4, h5⟩ := h
  dsimp only at *
  unfold cat
  dsimp only
  by_cases hc : c = []
  · subst hc
    rw [if_pos rfl] at h5
    subst h5
    rw [if_pos rfl, List.append_nil]
    have h4 : gform a none (fk []) = a := h4
    rw [h4]
  · rw [if_neg hc] at h5
    rw [if_neg hc, if_pos rfl, List.append_nil, h5]
def lSide (pre : List U) (l : Ok) : Prop := (pre = [] ∧ l = none) ∨ ∃ p s, pre = p ++ [s] ∧ gk s.k = false ∧ l = some s.k
def rSide (rest : List U) (r : Ok) : Prop := (rest = [] ∧ r = none) ∨ ∃ s t, rest = s :: t ∧ gk s.k = false ∧ r = some s.k
theorem nf_lSide {pre : List U} {l : Ok} (h : lSide pre l) : ∃ a c, nf pre = (a, c, []) ∧ lk c = l ∧ (c = [] → a = []) := by
  rcases h with ⟨rfl, rfl⟩ | ⟨p, s, rfl, hs, rfl⟩
  · exact ⟨[], [], nf_nil, rfl, fun _ => rfl⟩
  · rw [nf_app, nf_solid hs]
    have kc := k_shC hs
    unfold cat
    dsimp only
    by_cases hc : (nf p).2.1 = []
    · rw [if_pos hc]
      exact ⟨_, [shC s], rfl, by show some (kd .pre (shC s)) = _; rw [kc], fun z => by cases z⟩
    · rw [if_neg hc, if_neg (List.cons_ne_nil _ _)]
      refine ⟨_, _, rfl, ?_, fun z => ?_⟩
      · rw [lk_app _ _ (List.cons_ne_nil _ _)]
        show some (kd .pre (shC s)) = _
        rw [kc]
      · exact absurd (List.append_eq_nil_iff.mp z).2 (List.cons_ne_nil _ _)
theorem nf_rSide {rest : List U} {r : Ok} (h : rSide rest r) : ∃ c e, nf rest = ([], c, e) ∧ fk c = r ∧ (c = [] → e = []) := by
  rcases h with ⟨rfl, rfl⟩ | ⟨s, t, rfl, hs, rfl⟩
  · exact ⟨[], [], nf_nil, rfl, fun _ => rfl⟩
  · have e : s :: t = [s] ++ t := rfl
    rw [e, nf_app, nf_solid hs]
    have kc := k_shC hs
    unfold cat
    dsimp only
    rw [if_neg (List.cons_ne_nil _ _)]
    by_cases hc : (nf t).2.1 = []
    · rw [if_pos hc]
      exact ⟨[shC s], _, rfl, by show some (kd .pre (shC s)) = _; rw [kc], fun z => by cases z⟩
    · rw [if_neg hc]
      exact ⟨_, _, rfl, by show some (kd .pre (shC s)) = _; rw [kc], fun z => by cases z⟩
/-- what a gap within a fragment makes of the normal form -/
theorem nf_gap_at {pre rest : List U} {l r : Ok} (hl : lSide pre l) (hr : rSide rest r) : ∃ F : List Nat → NF, (∀ a b, F a = F b → a = b) ∧ ∀ c : List U, (∀ u ∈ c, gk u.k = true) → nf (pre ++ (c ++ rest)) = F (gform (sg c) l r) := by
  obtain ⟨a, c1, e1, k1, n1⟩ := nf_lSide hl
  obtain ⟨c2, e2, e3, k2, n2⟩ := nf_rSide hr
  have main : ∀ c : List U, (∀ u ∈ c, gk u.k = true) → nf (pre ++ (c ++ rest)) = if c1 = [] then (if c2 = [] then (gform (sg c) l r, [], []) else (gform (sg c) l r, c2, e2)) else (if c2 = [] then (a, c1, gform (sg c) l r) else (a, c1 ++ gform (sg c) l r ++ c2, e2)) := by
    intro c hc
    rw [← List.append_assoc, nf_app, nf_app, nf_gap hc, e1, e3]
    unfold cat
    dsimp only
    by_cases q1 : c1 = []
    · subst q1
      have ha := n1 rfl
      subst ha
      have hl' : l = none := k1.symm
      subst hl'
      rw [if_pos rfl, if_pos rfl]
      dsimp only
      rw [if_pos rfl, List.nil_append, List.append_nil]
      have g : ∀ r, gform (gform (red (sg c)) none (fk [])) none r = gform (sg c) none r := fun r => by
        show gform (gform (red (sg c)) none none) none r = _
        rw [gform_of_red, gform_half_l]
      by_cases q2 : c2 = []
      · subst q2
        have he := n2 rfl
        subst he
        have hr' : r = none := k2.symm
        subst hr'
        rw [if_pos rfl]
        show (gform (gform (red (sg c)) none (fk [])) none none, [], []) = _
        rw [g]
      · rw [if_neg q2, g, k2]
    · rw [if_neg q1, if_neg q1, if_pos rfl]
      dsimp only
      rw [if_neg q1, List.nil_append, List.append_nil, k1]
      have g : ∀ r, gform (gform (red (sg c)) l none) l r = gform (sg c) l r := fun r => by
        rw [gform_of_red, gform_half_l]
      by_cases q2 : c2 = []
      · have hr' : r = none := by rw [← k2, q2]; rfl
        rw [if_pos q2, if_pos q2, g, hr']
      · rw [if_neg q2, if_neg q2, g, k2]
  refine ⟨fun G => if c1 = [] then (if c2 = [] then (G, [], []) else (G, c2, e2)) else (if c2 = [] then (a, c1, G) else (a, c1 ++ G ++ c2, e2)), fun x y h => ?_, main⟩
  dsimp only at h
  split at h
  · split at h
    · exact (Prod.mk.inj h).1
    · exact (Prod.mk.inj h).1
  · split at h
    · exact (Prod.mk.inj (Prod.mk.inj h).2).2
    · have := (Prod.mk.inj (Prod.mk.inj h).2).1
      rw [List.append_assoc, List.append_assoc] at this
      have := List.append_cancel_left this
      exact List.append_cancel_right this
/-! ### free places -/
abbrev feedU : U := (.col, 10)
def insP (x : List U) (p : Nat) : List U := x.take p ++ [feedU] ++ x.drop p
def freeP (x : List U) (p : Nat) : Bool := decide (nf (insP x p) = nf x)
def dueP (x : List U) : List Nat := (List.range (x.length + 1)).filter (freeP x)
def fpT (t : List Nat) (l r : Ok) (k : Nat) : Bool := decide (gform (t.take k ++ [10] ++ t.drop k) l r = gform t l r)
def fpG (g : Gap) : List Nat := ((List.range (g.cur.length + 1)).filter (fpT (sg g.cur) g.l g.r)).map (g.s + ·)
theorem free_at {pre c rest : List U} {l r : Ok} (hl : lSide pre l) (hr : rSide rest r) (hc : ∀ u ∈ c, gk u.k = true) {k : Nat} (hk : k ≤ c.length) : freeP (pre ++ (c ++ rest)) (pre.length + k) = fpT (sg c) l r k := by
  obtain ⟨F, inj, e⟩ := nf_gap_at hl hr
  have i : insP (pre ++ (c ++ rest)) (pre.length + k) = pre ++ ((c.take k ++ [feedU] ++ c.drop k) ++ rest) := by
    unfold insP
    rw [List.take_length_add_append, List.drop_length_add_append, List.take_append_of_le_length hk, List.drop_append_of_le_length hk]
    simp only [List.append_assoc]
  have gc : ∀ u ∈ c.take k ++ [feedU] ++ c.drop k, gk u.k = true := fun u hu => by
    rcases List.mem_append.mp hu with hu | hu
    · rcases List.mem_append.mp hu with hu | hu
      · exact hc u (List.mem_of_mem_take hu)
      · rw [List.mem_singleton.mp hu]; rfl
    · exact hc u (List.mem_of_mem_drop hu)
  have s : sg (c.take k ++ [feedU] ++ c.drop k) = (sg c).take k ++ [10] ++ (sg c).drop k := by
    rw [sg_app, sg_app]
    unfold sg
    rw [List.map_take, List.map_drop]
    rfl
  unfold freeP fpT
  rw [i, e _ gc, e _ hc, s]
  exact decide_eq_decide.mpr ⟨fun h => inj _ _ h, fun h => by rw [h]⟩
theorem rSide_flat : ∀ {L : SG}, (∀ p ∈ L, gk p.1.k = false) → rSide (flatL L) (hdK L)
  | [], _ => .inl ⟨rfl, rfl⟩
  | (s, h) :: L, g => .inr ⟨s, h ++ flatL L, rfl, g _ (List.mem_cons_self ..), rfl⟩
theorem free_gps : ∀ (L : SG) (pre c : List U) (l : Ok), lSide pre l → (∀ u ∈ c, gk u.k = true) → (∀ p ∈ L, gk p.1.k = false ∧ ∀ u ∈ p.2, gk u.k = true) →
    (List.range' pre.length (c.length + (flatL L).length + 1)).filter (freeP (pre ++ (c ++ flatL L))) = (gps none pre.length c l L).flatMap fpG
  | L, pre, c, l, hl, hc, hL => by
    have hr := rSide_flat fun p hp => (hL p hp).1
    have one : (List.range' pre.length (c.length + 1)).filter (freeP (pre ++ (c ++ flatL L))) = fpG ⟨pre.length, c, l, hdK L⟩ := by
      unfold fpG
      have e : List.range' pre.length (c.length + 1) = (List.range (c.length + 1)).map (pre.length + ·) := by
        rw [List.range_eq_range', List.map_add_range']
        simp
      rw [e, List.filter_map]
      congr 1
      refine List.filter_congr fun k hk => ?_
      exact free_at hl hr hc (by have := List.mem_range.mp hk; omega)
    match L with
    | [] =>
      rw [gps, List.flatMap_singleton]
      exact one
    | (u, h) :: L' =>
      have gu := hL _ (List.mem_cons_self ..)
      have e : pre ++ (c ++ flatL ((u, h) :: L')) = (pre ++ (c ++ [u])) ++ (h ++ flatL L') := by simp [flatL]
      have ih := free_gps L' (pre ++ (c ++ [u])) h (some u.k) (.inr ⟨pre ++ c, u, by simp, gu.1, rfl⟩) gu.2 fun p hp => hL p (List.mem_cons_of_mem _ hp)
      rw [show (pre ++ (c ++ [u])).length = pre.length + c.length + 1 by simp; omega, ← e] at ih
      have len : c.length + (flatL ((u, h) :: L')).length + 1 = (c.length + 1) + (h.length + (flatL L').length + 1) := by simp [flatL]; omega
      rw [len, ← List.range'_append, List.filter_append, one, gps, List.flatMap_cons]
      rw [show pre.length + 1 * (c.length + 1) = pre.length + c.length + 1 by omega, ih]
      rfl
theorem due_eq (x : List U) : dueP x = (gp none 0 [] none x).flatMap fpG := by
  obtain ⟨g1, g2⟩ := split_gk x
  have := free_gps (split x).2 [] (split x).1 none (.inl ⟨rfl, rfl⟩) g1 g2
  rw [List.nil_append, flat_split] at this
  rw [gp_gps, List.nil_append]
  unfold dueP
  rw [List.range_eq_range']
  have len := congrArg List.length (flat_split x)
  rw [List.length_append] at len
  rw [← len]
  exact this
/-- white units that begin with a feed do what the feed does -/
theorem nf_white (A B w : List U) (hw : ∀ u ∈ w, u = (.col, 32) ∨ u = feedU) : nf (A ++ (feedU :: w) ++ B) = nf (A ++ [feedU] ++ B) := by
  have g : ∀ u ∈ feedU :: w, gk u.k = true := fun u hu => by
    rcases List.mem_cons.mp hu with rfl | hu
    · rfl
    · rcases hw u hu with rfl | rfl <;> rfl
  have m : mk (sg w) = [] := by
    unfold mk sg
    rw [List.filter_eq_nil_iff]
    intro c hc
    obtain ⟨u, hu, rfl⟩ := List.mem_map.mp hc
    rcases hw u hu with rfl | rfl <;> decide
  have e : nf (feedU :: w) = nf [feedU] := by
    rw [nf_gap g, nf_gap (fun u hu => by rw [List.mem_singleton.mp hu]; rfl)]
    have : red (sg (feedU :: w)) = red (sg [feedU]) := by
      show red (10 :: sg w) = red [10]
      unfold red
      rw [if_pos (List.mem_cons_self ..), if_pos (List.mem_cons_self ..), rd1, if_pos rfl, m]
      rfl
    rw [this]
  rw [nf_app, nf_app, e, ← nf_app, ← nf_app]
end Den

namespace Den
open PySem PySem.Spec PyProof.Rows L2
def fp1 : Es := (sIf (xB (xOp dEq (xCallV 3 d_gap_form (xCons (xOp dAdd (xOp dAdd (xSl dSl (xVar 3) xNo (xSome (xVar 7))) (xC (.str [10]))) (xSl dSl (xVar 3) (xSome (xVar 7)) xNo)) (xCons (xVar 4) (xCons (xVar 5) xNil)))) (xVar 6)))
  (sExpr (xApp 1 (xOp dAdd (xVar 2) (xVar 7))))
  sNil)
def fpB : Es := (sSeq (sSet 6 (xCallV 3 d_gap_form (xCons (xVar 3) (xCons (xVar 4) (xCons (xVar 5) xNil)))))
  (sFor (iR1 (xCons (xOp dAdd (xCB dLen (xCons (xVar 3) xNil)) (xC (.int 1))) xNil)) (gN 7) fp1))
theorem fp_eq : b_free_places = (sSeq (sSet 1 (xLst xNil))
  (sSeq (sFor (iA (xCallV 2 d_gaps (xCons (xCallV 1 d_units (xCons (xVar 0) xNil)) (xCons (xC .non) xNil)))) (gA 4 (gsCons (gN 2) (gsCons (gN 3) (gsCons (gN 4) (gsCons (gN 5) gsNil))))) fpB)
  (sRet (xFz (xVar 1))))) := rfl
def fpE (F : D) (ks : List Nat) (g : Gap) (a b : Option D) : Env := [some F, some (.own (natsD ks)), some (.int (g.s : Nat)), some (.str (sg g.cur)), some (okd g.l), some (okd g.r), a, b]
theorem add_nat (a b : Nat) : dAdd (.int (a : Nat)) (.int (b : Nat)) = some (iD (a + b)) := rfl
theorem fp1_st (F : D) (ks : List Nat) (g : Gap) (k : Nat) (hg : ∀ u ∈ g.cur, gk u.k = true) (hk : k ≤ g.cur.length) (hc : g.cur.length < 90000) (hs : ks.length < 300000) : fp1 (fpE F ks g (some (.str (gform (sg g.cur) g.l g.r))) (some (iD k))) = some (.nx (fpE F (ks ++ if fpT (sg g.cur) g.l g.r k then [g.s + k] else []) g (some (.str (gform (sg g.cur) g.l g.r))) (some (iD k)))) := by
  let E := fpE F ks g (some (.str (gform (sg g.cur) g.l g.r))) (some (iD k))
  have gs := gsn_sg hg
  have sl : (sg g.cur).length = g.cur.length := by simp [sg]
  have cS : (sg g.cur).length ≤ cap := nats_le2 (by omega)
  have s1 : xSl dSl (xVar 3) xNo (xSome (xVar 7)) E = some (.v (.str ((sg g.cur).take k)), E) := xsl_v (xvar_f (i := 3) (d := .str (sg g.cur)) rfl) rfl (xsome_v (xvar_f (i := 7) (d := iD k) rfl)) (sl_to (by omega) cS)
  have s2 : xSl dSl (xVar 3) (xSome (xVar 7)) xNo E = some (.v (.str ((sg g.cur).drop k)), E) := xsl_v (xvar_f (i := 3) (d := .str (sg g.cur)) rfl) (xsome_v (xvar_f (i := 7) (d := iD k) rfl)) rfl (sl_from (by omega) cS)
  have l1 : ((sg g.cur).take k).length = k := by rw [List.length_take]; omega
  have l2 : ((sg g.cur).drop k).length = g.cur.length - k := by rw [List.length_drop, sl]
  have a1 : dAdd (.str ((sg g.cur).take k)) (.str [10]) = some (.str ((sg g.cur).take k ++ [10])) := add_str (nats_le2 (by rw [l1, List.length_singleton]; omega))
  have a2 : dAdd (.str ((sg g.cur).take k ++ [10])) (.str ((sg g.cur).drop k)) = some (.str ((sg g.cur).take k ++ [10] ++ (sg g.cur).drop k)) := add_str (nats_le2 (by rw [List.length_append, l1, l2, List.length_singleton]; omega))
  have gi : gsn ((sg g.cur).take k ++ [10] ++ (sg g.cur).drop k) := fun c hc => by
    rcases List.mem_append.mp hc with hc | hc
    · rcases List.mem_append.mp hc with hc | hc
      · exact gs c (List.mem_of_mem_take hc)
      · exact .inr (.inl (List.mem_singleton.mp hc))
    · exact gs c (List.mem_of_mem_drop hc)
  have e := den_gap_form gi (by rw [List.length_append, List.length_append, l1, l2, List.length_singleton]; omega) g.l g.r
  have t : xB (xOp dEq (xCallV 3 d_gap_form (xCons (xOp dAdd (xOp dAdd (xSl dSl (xVar 3) xNo (xSome (xVar 7))) (xC (.str [10]))) (xSl dSl (xVar 3) (xSome (xVar 7)) xNo)) (xCons (xVar 4) (xCons (xVar 5) xNil)))) (xVar 6)) E = some (fpT (sg g.cur) g.l g.r k, E) := by
    have c := xcall3 (den := d_gap_form) (f := xOp dAdd (xOp dAdd (xSl dSl (xVar 3) xNo (xSome (xVar 7))) (xC (.str [10]))) (xSl dSl (xVar 3) (xSome (xVar 7)) xNo)) (g := xVar 4) (k := xVar 5) (ρ := E) (xop_v (xop_v s1 rfl a1) s2 a2) (xvar_f (i := 4) (d := okd g.l) rfl (okd_flat _)) (xvar_f (i := 5) (d := okd g.r) rfl (okd_flat _)) e
    rw [xB_eq, xop_v c (xvar_f (i := 6) (d := .str (gform (sg g.cur) g.l g.r)) rfl) (dEq_str _ _)]
    rfl
  unfold fp1
  show sIf _ _ _ E = _
  cases h : fpT (sg g.cur) g.l g.r k
  · rw [h] at t
    rw [sif_f t, if_neg Bool.false_ne_true, List.append_nil]
    rfl
  · rw [h] at t
    have ap := xapp_v (i := 1) (f := xOp dAdd (xVar 2) (xVar 7)) (ρ := E) (ρ' := E) (d := iD (g.s + k)) (ds := natsD ks) (xop_v (xvar_f (i := 2) (d := .int (g.s : Nat)) rfl) (xvar_f (i := 7) (d := iD k) rfl) (add_nat _ _)) rfl rfl (by rw [natsD_len]; exact Nat.lt_of_lt_of_le hs (by decide))
    rw [sif_t t, ap, if_pos rfl]
    show some (O.nx [_, some (.own (natsD ks ++ [iD (g.s + k)])), _, _, _, _, _, _]) = some (O.nx [_, some (.own (natsD (ks ++ [g.s + k]))), _, _, _, _, _, _])
    rw [← natsD_app]
    rfl
theorem fp1_loop (F : D) (g : Gap) (hg : ∀ u ∈ g.cur, gk u.k = true) (hc : g.cur.length < 90000) : ∀ (l : List Nat) (ks : List Nat) (b : Option D), (∀ k ∈ l, k ≤ g.cur.length) → ks.length + l.length < 290000 →
    ∃ b', forL (gN 7) fp1 (l.map iD) (fpE F ks g (some (.str (gform (sg g.cur) g.l g.r))) b) = some (.nx (fpE F (ks ++ (l.filter (fpT (sg g.cur) g.l g.r)).map (g.s + ·)) g (some (.str (gform (sg g.cur) g.l g.r))) b'))
  | [], ks, b, _, _ => ⟨b, by simp [forL]⟩
  | k :: l, ks, b, h, hs => by
    rw [List.length_cons] at hs
    have st := fp1_st F ks g k hg (h k (List.mem_cons_self ..)) hc (by omega)
    obtain ⟨b', e⟩ := fp1_loop F g hg hc l (ks ++ if fpT (sg g.cur) g.l g.r k then [g.s + k] else []) (some (iD k)) (fun j hj => h j (List.mem_cons_of_mem _ hj)) (by rw [List.length_append]; split <;> simp <;> omega)
    refine ⟨b', ?_⟩
    rw [List.map_cons, forL_cons, gN_eq]
    show (fp1 _).bind _ = _
    have s0 : ∀ d, (fpE F ks g (some (.str (gform (sg g.cur) g.l g.r))) b).set 7 (some d) = fpE F ks g (some (.str (gform (sg g.cur) g.l g.r))) (some d) := fun _ => rfl
    rw [s0, st]
    show forL _ _ _ _ = _
    rw [e]
    cases q : fpT (sg g.cur) g.l g.r k
    · rw [List.filter_cons_of_neg (by rw [q]; decide), if_neg Bool.false_ne_true, List.append_nil]
    · rw [List.filter_cons_of_pos q, if_pos rfl, List.map_cons, List.append_assoc]
      rfl
theorem fpB_st (F : D) (ks : List Nat) (g : Gap) (a b : Option D) (hg : ∀ u ∈ g.cur, gk u.k = true) (hc : g.cur.length < 90000 - 1) (hs : ks.length + g.cur.length < 280000) : ∃ a' b', fpB (fpE F ks g a b) = some (.nx (fpE F (ks ++ fpG g) g a' b')) := by
  have gs := gsn_sg hg
  have sl : (sg g.cur).length = g.cur.length := by simp [sg]
  have e := den_gap_form gs (by omega) g.l g.r
  let E1 := fpE F ks g (some (.str (gform (sg g.cur) g.l g.r))) b
  have k1 : sSet 6 (xCallV 3 d_gap_form (xCons (xVar 3) (xCons (xVar 4) (xCons (xVar 5) xNil)))) (fpE F ks g a b) = some (.nx E1) := sset_v (xcall3 (xvar_f (i := 3) (d := .str (sg g.cur)) rfl) (xvar_f (i := 4) (d := okd g.l) rfl (okd_flat _)) (xvar_f (i := 5) (d := okd g.r) rfl (okd_flat _)) e)
  obtain ⟨b', e2⟩ := fp1_loop F g hg (by omega) (List.range (g.cur.length + 1)) ks b (fun k hk => by have := List.mem_range.mp hk; omega) (by rw [List.length_range]; omega)
  refine ⟨some (.str (gform (sg g.cur) g.l g.r)), b', ?_⟩
  unfold fpB
  rw [sseq_nx k1]
  have hi : iR1 (xCons (xOp dAdd (xCB dLen (xCons (xVar 3) xNil)) (xC (.int 1))) xNil) E1 = some ((List.range (g.cur.length + 1)).map iD, E1) := by
    have ln := xcb1 (o := dLen) (xvar_f (i := 3) (ρ := E1) (d := .str (sg g.cur)) rfl) (len_str (nats_le2 (by omega)))
    rw [sl] at ln
    have ad := xop_v (o := dAdd) (g := xC (.int 1)) ln rfl (add_nat g.cur.length 1)
    have : (xCons (xOp dAdd (xCB dLen (xCons (xVar 3) xNil)) (xC (.int 1))) xNil) E1 = some ([.v (.int ((g.cur.length + 1 : Nat) : Int))], E1) := by
      rw [xCons_eq, ad]
      rfl
    rw [iR1_of this (small_nat _ (by omega))]
    show some (rng 0 (g.cur.length + 1), E1) = _
    rw [rng0]
  rw [sFor_eq, hi]
  exact e2
def fpE0 (F : D) (ks : List Nat) (a1 a2 a3 a4 a b : Option D) : Env := [some F, some (.own (natsD ks)), a1, a2, a3, a4, a, b]
theorem fpG_len (g : Gap) : (fpG g).length ≤ g.cur.length + 1 := by
  unfold fpG
  rw [List.length_map]
  have := List.length_filter_le (fpT (sg g.cur) g.l g.r) (List.range (g.cur.length + 1))
  rwa [List.length_range] at this
theorem fp_loop (F : D) : ∀ (G : List Gap) (ks : List Nat) (a1 a2 a3 a4 a b : Option D), (∀ g ∈ G, (∀ u ∈ g.cur, gk u.k = true) ∧ g.cur.length < 80000) → ks.length + tot G < 190000 →
    ∃ y1 y2 y3 y4 a' b', forL (gA 4 (gsCons (gN 2) (gsCons (gN 3) (gsCons (gN 4) (gsCons (gN 5) gsNil))))) fpB (G.map Gap.d) (fpE0 F ks a1 a2 a3 a4 a b) = some (.nx (fpE0 F (ks ++ G.flatMap fpG) y1 y2 y3 y4 a' b'))
  | [], ks, a1, a2, a3, a4, a, b, _, _ => ⟨a1, a2, a3, a4, a, b, by simp [forL]⟩
  | g :: G, ks, a1, a2, a3, a4, a, b, hg, hk => by
    have ht : tot (g :: G) = g.cur.length + 1 + tot G := rfl
    obtain ⟨h1, h2⟩ := hg g (List.mem_cons_self ..)
    obtain ⟨a', b', st⟩ := fpB_st F ks g a b h1 (by omega) (by omega)
    have fl := fpG_len g
    obtain ⟨y1, y2, y3, y4, a2', b2', e⟩ := fp_loop F G (ks ++ fpG g) (some (.int (g.s : Nat))) (some (.str (sg g.cur))) (some (okd g.l)) (some (okd g.r)) a' b' (fun h hh => hg h (List.mem_cons_of_mem _ hh)) (by rw [List.length_append]; omega)
    refine ⟨y1, y2, y3, y4, a2', b2', ?_⟩
    have g1 : gA 4 (gsCons (gN 2) (gsCons (gN 3) (gsCons (gN 4) (gsCons (gN 5) gsNil)))) g.d (fpE0 F ks a1 a2 a3 a4 a b) = some (fpE F ks g a b) := rfl
    rw [List.map_cons, forL_cons, g1]
    show (fpB _).bind _ = _
    rw [st, List.flatMap_cons, ← List.append_assoc]
    exact e
theorem den_free_places (a : Frg) (h : (us a).length < 70000) : d_free_places [.lst (a.map encR)] = some (.v (.lst (natsD (dueP (us a)))), [.lst (a.map encR)]) := by
  let F : D := .lst (a.map encR)
  have e1 := den_units a (nats_le2 (by omega))
  have e2 := den_gaps none (us a) (by omega)
  have du := due_eq (us a)
  generalize us a = x at *
  have tt := gp_tot none x 0 [] none
  rw [List.length_nil] at tt
  obtain ⟨y1, y2, y3, y4, a', b', e⟩ := fp_loop F (gp none 0 [] none x) [] none none none none none none (fun g hg => ⟨gp_gk none x 0 [] none (fun u hu => by cases hu) g hg, by have := gp_cur_len hg; omega⟩) (by rw [tt, List.length_nil]; omega)
  rw [List.nil_append, ← du] at e
  let E0 : Env := [some F, none, none, none, none, none, none, none]
  let E1 := fpE0 F [] none none none none none none
  let E2 := fpE0 F (dueP x) y1 y2 y3 y4 a' b'
  have k1 : sSet 1 (xLst xNil) E0 = some (.nx E1) := rfl
  have k2 : sFor (iA (xCallV 2 d_gaps (xCons (xCallV 1 d_units (xCons (xVar 0) xNil)) (xCons (xC .non) xNil)))) (gA 4 (gsCons (gN 2) (gsCons (gN 3) (gsCons (gN 4) (gsCons (gN 5) gsNil))))) fpB E1 = some (.nx E2) := by
    have c := xcall2 (g := xC .non) (xcall1 (xvar_f (i := 0) (ρ := E1) (d := F) rfl) e1) rfl e2
    rw [sFor_eq, iA_eq, c]
    exact e
  have k3 : xFz (xVar 1) E2 = some (.v (.lst (natsD (dueP x))), E2.set 1 (some (.lst (natsD (dueP x))))) := by
    have v : xVar 1 E2 = some (.at 1, E2) := rfl
    rw [xFz_eq, v, Option.bind_some, fzK_at]
    show some (R.v (fz (.own (natsD (dueP x)))), E2.set 1 (some (fz (.own (natsD (dueP x)))))) = _
    rw [fz_own, fz_nats]
  refine dn_rt E0 rfl rfl (r := .v (.lst (natsD (dueP x)))) (ρ := E2.set 1 (some (.lst (natsD (dueP x))))) ?_ rfl rfl
  rw [fp_eq, sseq_nx k1, sseq_nx k2]
  exact sret_v k3
end Den

namespace Den
/-! ### changes, plainly -/
def cpl : List Nat → List Nat → Nat
  | a :: x, b :: y => if a = b then cpl x y + 1 else 0
  | _, _ => 0
theorem cpl_le : ∀ (x y : List Nat), cpl x y ≤ x.length ∧ cpl x y ≤ y.length
  | [], y => by simp [cpl]
  | a :: x, [] => by simp [cpl]
  | a :: x, b :: y => by
    have := cpl_le x y
    rw [cpl]
    split <;> simp <;> omega
theorem cpl_take : ∀ (x y : List Nat), x.take (cpl x y) = y.take (cpl x y)
  | [], y => by simp [cpl]
  | a :: x, [] => by simp [cpl]
  | a :: x, b :: y => by
    have := cpl_take x y
    rw [cpl]
    split
    · rename_i h
      rw [List.take_succ_cons, List.take_succ_cons, this, h]
    · simp
theorem cpl_max : ∀ (x y : List Nat) (n : Nat), n ≤ x.length → n ≤ y.length → x.take n = y.take n → n ≤ cpl x y
  | _, _, 0, _, _, _ => Nat.zero_le _
  | [], y, n + 1, h, _, _ => by simp at h
  | a :: x, [], n + 1, _, h, _ => by simp at h
  | a :: x, b :: y, n + 1, h1, h2, h => by
    rw [List.take_succ_cons, List.take_succ_cons] at h
    have hab := (List.cons.inj h).1
    have := cpl_max x y n (by simpa using h1) (by simpa using h2) (List.cons.inj h).2
    rw [cpl, if_pos hab]
    omega
theorem cpl_lt {x y : List Nat} {t : Nat} (h : t < cpl x y) : ∃ c, x[t]? = some c ∧ y[t]? = some c := by
  have l := cpl_le x y
  have e := cpl_take x y
  have h1 : (x.take (cpl x y))[t]? = x[t]? := List.getElem?_take_of_lt h
  have h2 : (y.take (cpl x y))[t]? = y[t]? := List.getElem?_take_of_lt h
  have hx : t < x.length := by omega
  refine ⟨x[t], List.getElem?_eq_getElem hx, ?_⟩
  rw [← h2, ← e, h1]
  exact List.getElem?_eq_getElem hx
theorem cpl_ne {x y : List Nat} (h1 : cpl x y < x.length) (h2 : cpl x y < y.length) : ∃ a b, x[cpl x y]? = some a ∧ y[cpl x y]? = some b ∧ a ≠ b := by
  refine ⟨x[cpl x y], y[cpl x y], List.getElem?_eq_getElem h1, List.getElem?_eq_getElem h2, fun z => ?_⟩
  have := cpl_max x y (cpl x y + 1) h1 h2 (by
    rw [List.take_succ_eq_append_getElem h1, List.take_succ_eq_append_getElem h2, cpl_take, z])
  omega
abbrev Chg := Option (Nat × Nat × List Nat)
def cq (x y : List Nat) : Nat := cpl (x.drop (cpl x y)).reverse (y.drop (cpl x y)).reverse
def chg (x y : List Nat) : Chg := if x = y then none else some (cpl x y, x.length - cpl x y - cq x y, (y.drop (cpl x y)).take (y.length - cpl x y - cq x y))
def chgd (x : List Nat) : Chg → List Nat
  | none => x
  | some (o, r, i) => x.take o ++ i ++ x.drop (o + r)
theorem cq_le (x y : List Nat) : cpl x y + cq x y ≤ x.length ∧ cpl x y + cq x y ≤ y.length := by
  have h := cpl_le x y
  have q := cpl_le (x.drop (cpl x y)).reverse (y.drop (cpl x y)).reverse
  simp at q
  unfold cq
  omega
theorem suf_of {x y : List Nat} {n : Nat} (h : x.reverse.take n = y.reverse.take n) : x.drop (x.length - n) = y.drop (y.length - n) := by
  rw [List.take_reverse, List.take_reverse] at h
  exact List.reverse_inj.mp h
theorem cq_suf (x y : List Nat) : x.drop (x.length - cq x y) = y.drop (y.length - cq x y) := by
  have l := cq_le x y
  have h := suf_of (cpl_take (x.drop (cpl x y)).reverse (y.drop (cpl x y)).reverse)
  rw [show cpl (x.drop (cpl x y)).reverse (y.drop (cpl x y)).reverse = cq x y from rfl, List.drop_drop, List.drop_drop, List.length_drop, List.length_drop] at h
  rw [show x.length - cq x y = cpl x y + (x.length - cpl x y - cq x y) by omega, show y.length - cq x y = cpl x y + (y.length - cpl x y - cq x y) by omega]
  exact h
theorem chgd_chg (x y : List Nat) : chgd x (chg x y) = y := by
  unfold chg
  split
  · rename_i h
    exact h
  · have l := cq_le x y
    show x.take (cpl x y) ++ (y.drop (cpl x y)).take (y.length - cpl x y - cq x y) ++ x.drop (cpl x y + (x.length - cpl x y - cq x y)) = y
    rw [show cpl x y + (x.length - cpl x y - cq x y) = x.length - cq x y by omega, cq_suf, cpl_take]
    have e : y.drop (y.length - cq x y) = (y.drop (cpl x y)).drop (y.length - cpl x y - cq x y) := by
      rw [List.drop_drop]
      congr 1
      omega
    rw [e, List.append_assoc, List.take_append_drop, List.take_append_drop]
/-- no other replacement removes fewer -/
theorem chg_least {x y : List Nat} {p r m : Nat} (hp : p ≤ x.length) (hr : r < x.length - p) (hR : r < x.length - cpl x y - cq x y) (hm : (m : Int) = (y.length : Int) - x.length + r) (h1 : x.take p = y.take p) (h2 : x.drop (p + r) = y.drop (p + m)) : False := by
  have l1 := congrArg List.length h1
  rw [List.length_take, List.length_take] at l1
  have hpy : p ≤ y.length := by omega
  have hP := cpl_max x y p hp hpy h1
  have lx := cpl_le x y
  -- the common end
  let s := x.length - (p + r)
  have hs : s = y.length - (p + m) := by omega
  have e : x.drop (x.length - s) = y.drop (y.length - s) := by
    rw [show x.length - s = p + r by omega, show y.length - s = p + m by omega]
    exact h2
  let s' := min s (min x.length y.length - cpl x y)
  have hs' : s' ≤ cq x y := by
    refine cpl_max _ _ s' (by simp; omega) (by simp; omega) ?_
    rw [List.take_reverse, List.take_reverse]
    congr 1
    rw [List.drop_drop, List.drop_drop, List.length_drop, List.length_drop]
    have ex : cpl x y + (x.length - cpl x y - s') = (x.length - s) + (s - s') := by omega
    have ey : cpl x y + (y.length - cpl x y - s') = (y.length - s) + (s - s') := by omega
    rw [ex, ey, ← List.drop_drop, ← List.drop_drop, e]
  omega
end Den

namespace Den
open PySem PySem.Spec PyProof.Rows L2
/-! ### changes -/
theorem sl_toS {s : List Nat} (k : Nat) (hc : s.length ≤ cap) : dSl (.str s) none (some (k : Int)) = some (.str (s.take k)) := by
  show (if s.length ≤ cap then some (D.str (cutL s none (some (k : Int)))) else none) = _
  rw [if_pos hc]
  unfold cutL
  rw [HT.sIx_none, HT.sIx_nat, List.drop_zero, Nat.sub_zero]
  by_cases h : k ≤ s.length
  · rw [Nat.min_eq_left h]
  · rw [Nat.min_eq_right (by omega), List.take_of_length_le (Nat.le_refl _), List.take_of_length_le (by omega)]
theorem sl_fromS {s : List Nat} (k : Nat) (hc : s.length ≤ cap) : dSl (.str s) (some (k : Int)) none = some (.str (s.drop k)) := by
  show (if s.length ≤ cap then some (D.str (cutL s (some (k : Int)) none)) else none) = _
  rw [if_pos hc]
  unfold cutL
  rw [HT.sIx_none, HT.sIx_nat]
  by_cases h : k ≤ s.length
  · rw [Nat.min_eq_left h, List.take_of_length_le (by rw [List.length_drop]; omega)]
  · rw [Nat.min_eq_right (by omega), List.drop_length, List.drop_eq_nil_of_le (by omega), List.take_nil]
theorem sl_midS {s : List Nat} {j k : Nat} (h : j ≤ s.length) (h2 : k ≤ s.length) (hc : s.length ≤ cap) : dSl (.str s) (some (j : Int)) (some (k : Int)) = some (.str ((s.drop j).take (k - j))) := by
  show (if s.length ≤ cap then some (D.str (cutL s (some (j : Int)) (some (k : Int)))) else none) = _
  rw [if_pos hc]
  unfold cutL
  rw [HT.sIx_nat, HT.sIx_nat, Nat.min_eq_left h, Nat.min_eq_left h2]
theorem xcb2 {o : List D → Option D} {f g : Ex} {ρ ρ1 ρ' : Env} {d e z : D} (h : f ρ = some (.v d, ρ1)) (h2 : g ρ1 = some (.v e, ρ')) (ho : o [d, e] = some z) : xCB o (xCons f (xCons g xNil)) ρ = some (.v z, ρ') := by
  simp [h, h2, ho]
theorem minNat (a b : Nat) : dMin2 [.int (a : Nat), .int (b : Nat)] = some (iD (min a b)) := by
  show some (D.int (if ((b : Int) < (a : Int)) then (b : Int) else (a : Int))) = some (D.int ((min a b : Nat) : Int))
  congr 2
  by_cases h : b < a
  · rw [if_pos (by omega), Nat.min_eq_right (by omega)]
  · rw [if_neg (by omega), Nat.min_eq_left (by omega)]
theorem subNat {a b : Nat} (h : b ≤ a) : dSub (.int (a : Nat)) (.int (b : Nat)) = some (iD (a - b)) := by
  show some (D.int ((a : Int) - (b : Int))) = some (D.int ((a - b : Nat) : Int))
  congr 2
  omega
theorem xno_v (ρ : Env) : xNo ρ = some (none, ρ) := rfl
theorem forL_rt {g : Eg} {b : Es} {d : D} {ds : List D} {ρ ρ1 ρ2 : Env} {r : R} (h : g d ρ = some ρ1) (h2 : b ρ1 = some (.rt r ρ2)) : forL g b (d :: ds) ρ = some (.rt r ρ2) := by
  rw [forL_cons, h, Option.bind_some, h2]
  rfl
theorem forL_nx {g : Eg} {b : Es} {d : D} {ds : List D} {ρ ρ1 ρ2 : Env} (h : g d ρ = some ρ1) (h2 : b ρ1 = some (.nx ρ2)) : forL g b (d :: ds) ρ = forL g b ds ρ2 := by
  rw [forL_cons, h, Option.bind_some, h2]
  rfl
def cmB : Es := (sIf (xB (xOp dNe (xOp dIx (xVar 0) (xVar 3)) (xOp dIx (xVar 1) (xVar 3))))
  (sRet (xVar 3))
  sNil)
theorem cm_eq : b_common = (sSeq (sSet 2 (xCB dMin2 (xCons (xCB dLen (xCons (xVar 0) xNil)) (xCons (xCB dLen (xCons (xVar 1) xNil)) xNil))))
  (sSeq (sFor (iR1 (xCons (xVar 2) xNil)) (gN 3) cmB)
  (sRet (xVar 2)))) := rfl
def cmE (x y : List Nat) (m : Nat) (k : Option D) : Env := [some (.str x), some (.str y), some (iD m), k]
theorem cmB_t {x y : List Nat} {m k a b : Nat} (hx : x.length ≤ cap) (hy : y.length ≤ cap) (h1 : x[k]? = some a) (h2 : y[k]? = some b) : xB (xOp dNe (xOp dIx (xVar 0) (xVar 3)) (xOp dIx (xVar 1) (xVar 3))) (cmE x y m (some (iD k))) = some (!decide (a = b), cmE x y m (some (iD k))) := by
  let E := cmE x y m (some (iD k))
  have c1 := xop_v (o := dIx) (xvar_f (i := 0) (ρ := E) (d := .str x) rfl) (xvar_f (i := 3) (d := iD k) rfl) (ix_str h1 hx)
  have c2 := xop_v (o := dIx) (xvar_f (i := 1) (ρ := E) (d := .str y) rfl) (xvar_f (i := 3) (d := iD k) rfl) (ix_str h2 hy)
  rw [xB_eq, xop_v c1 c2 (dNe_str _ _)]
  show some (!decide (([a] : List Nat) = [b]), E) = _
  congr 3
  exact decide_eq_decide.mpr (by simp)
theorem cm_loop (x y : List Nat) (hx : x.length ≤ 80000) (hy : y.length ≤ 80000) : ∀ (n s : Nat) (k : Option D), s ≤ cpl x y → s + n = min x.length y.length →
    (cpl x y = min x.length y.length ∧ ∃ k', forL (gN 3) cmB ((List.range' s n).map iD) (cmE x y (min x.length y.length) k) = some (.nx (cmE x y (min x.length y.length) k'))) ∨ forL (gN 3) cmB ((List.range' s n).map iD) (cmE x y (min x.length y.length) k) = some (.rt (.v (iD (cpl x y))) (cmE x y (min x.length y.length) (some (iD (cpl x y)))))
  | 0, s, k, h1, h2 => .inl ⟨by have := cpl_le x y; omega, k, rfl⟩
  | n + 1, s, k, h1, h2 => by
    have cx : x.length ≤ cap := nats_le2 (by omega)
    have cy : y.length ≤ cap := nats_le2 (by omega)
    rw [List.range'_succ, List.map_cons]
    have g1 : gN 3 (iD s) (cmE x y (min x.length y.length) k) = some (cmE x y (min x.length y.length) (some (iD s))) := rfl
    by_cases q : s < cpl x y
    · obtain ⟨c, e1, e2⟩ := cpl_lt q
      have t := cmB_t (m := min x.length y.length) cx cy e1 e2
      rw [decide_eq_true rfl] at t
      have st : cmB (cmE x y (min x.length y.length) (some (iD s))) = some (.nx (cmE x y (min x.length y.length) (some (iD s)))) := by
        unfold cmB
        rw [sif_f t]
        rfl
      rw [forL_nx g1 st]
      exact cm_loop x y hx hy n (s + 1) (some (iD s)) (by omega) (by omega)
    · have es : s = cpl x y := by omega
      subst es
      obtain ⟨a, b, e1, e2, e3⟩ := cpl_ne (x := x) (y := y) (by omega) (by omega)
      have t := cmB_t (m := min x.length y.length) cx cy e1 e2
      rw [decide_eq_false e3] at t
      have st : cmB (cmE x y (min x.length y.length) (some (iD (cpl x y)))) = some (.rt (.v (iD (cpl x y))) (cmE x y (min x.length y.length) (some (iD (cpl x y))))) := by
        unfold cmB
        rw [sif_t t]
        rfl
      exact .inr (forL_rt g1 st)
theorem len2 {x y : List Nat} (hx : x.length ≤ cap) (hy : y.length ≤ cap) {ρ : Env} (h0 : gt ρ 0 = some (.str x)) (h1 : gt ρ 1 = some (.str y)) : xCB dMin2 (xCons (xCB dLen (xCons (xVar 0) xNil)) (xCons (xCB dLen (xCons (xVar 1) xNil)) xNil)) ρ = some (.v (iD (min x.length y.length)), ρ) :=
  xcb2 (xcb1 (xvar_f h0) (len_str hx)) (xcb1 (xvar_f h1) (len_str hy)) (minNat _ _)
theorem den_common (x y : List Nat) (hx : x.length ≤ 80000) (hy : y.length ≤ 80000) : d_common [.str x, .str y] = some (.v (iD (cpl x y)), [.str x, .str y]) := by
  have cx : x.length ≤ cap := nats_le2 (by omega)
  have cy : y.length ≤ cap := nats_le2 (by omega)
  let E0 : Env := [some (.str x), some (.str y), none, none]
  let E1 := cmE x y (min x.length y.length) none
  have k1 : sSet 2 (xCB dMin2 (xCons (xCB dLen (xCons (xVar 0) xNil)) (xCons (xCB dLen (xCons (xVar 1) xNil)) xNil))) E0 = some (.nx E1) := sset_v (len2 cx cy rfl rfl)
  have hi : iR1 (xCons (xVar 2) xNil) E1 = some ((List.range' 0 (min x.length y.length)).map iD, E1) := by
    have : (xCons (xVar 2) xNil) E1 = some ([.v (.int ((min x.length y.length : Nat) : Int))], E1) := rfl
    rw [iR1_of this (small_nat _ (by omega))]
    show some (rng 0 (min x.length y.length), E1) = _
    rw [rng0, List.range_eq_range']
  rcases cm_loop x y hx hy (min x.length y.length) 0 none (Nat.zero_le _) (by omega) with ⟨ec, k', e⟩ | e
  · have k2 : sFor (iR1 (xCons (xVar 2) xNil)) (gN 3) cmB E1 = some (.nx (cmE x y (min x.length y.length) k')) := by
      rw [sFor_eq, hi]
      exact e
    refine dn_rt E0 rfl rfl (r := .v (iD (cpl x y))) (ρ := cmE x y (min x.length y.length) k') ?_ rfl rfl
    rw [cm_eq, sseq_nx k1, sseq_nx k2, ec]
    rfl
  · have k2 : sFor (iR1 (xCons (xVar 2) xNil)) (gN 3) cmB E1 = some (.rt (.v (iD (cpl x y))) (cmE x y (min x.length y.length) (some (iD (cpl x y))))) := by
      rw [sFor_eq, hi]
      exact e
    refine dn_rt E0 rfl rfl (r := .v (iD (cpl x y))) (ρ := cmE x y (min x.length y.length) (some (iD (cpl x y)))) ?_ rfl rfl
    rw [cm_eq, sseq_nx k1]
    exact sseq_rt k2
def chD' (t : Nat × Nat × List Nat) : D := .tup [iD t.1, iD t.2.1, .str t.2.2]
def chgD : Chg → D
  | none => .non
  | some t => chD' t
theorem xun_v {o : D → Option D} {f : Ex} {ρ ρ' : Env} {x z : D} (h : f ρ = some (.v x, ρ')) (ho : o x = some z) : xUn o f ρ = some (.v z, ρ') := by
  rw [xUn_eq, h, Option.bind_some]
  show (Option.bind (some x) _) = _
  rw [Option.bind_some, ho]
  rfl
theorem rev_str {s : List Nat} (h : s.length ≤ cap) : dRev (.str s) = some (.str s.reverse) := by
  show (if _ then _ else _) = _
  rw [if_pos h]
theorem xtup3 {f g h : Ex} {ρ ρ1 ρ2 ρ3 : Env} {a b c : D} (e1 : f ρ = some (.v a, ρ1)) (e2 : g ρ1 = some (.v b, ρ2)) (e3 : h ρ2 = some (.v c, ρ3)) : xTup (xCons f (xCons g (xCons h xNil))) ρ = some (.v (.tup [a, b, c]), ρ3) := by
  simp [e1, e2, e3, show (3 : Nat) ≤ cap by decide]
theorem den_change (x y : List Nat) (hx : x.length ≤ 80000) (hy : y.length ≤ 80000) : d_change [.str x, .str y] = some (.v (chgD (chg x y)), [.str x, .str y]) := by
  have cx : x.length ≤ cap := nats_le2 (by omega)
  have cy : y.length ≤ cap := nats_le2 (by omega)
  let E0 : Env := [some (.str x), some (.str y), none, none, none, none]
  have t : xB (xOp dEq (xVar 0) (xVar 1)) E0 = some (decide (x = y), E0) := by
    rw [xB_eq, xop_v (xvar_f (i := 0) (d := .str x) rfl) (xvar_f (i := 1) (d := .str y) rfl) (dEq_str _ _)]
    rfl
  unfold chg
  by_cases q : x = y
  · rw [decide_eq_true q] at t
    rw [if_pos q]
    refine dn_rt E0 rfl rfl (r := .v .non) (ρ := E0) ?_ rfl rfl
    unfold b_change
    refine sseq_rt ?_
    rw [sif_t t]
    rfl
  · rw [decide_eq_false q] at t
    rw [if_neg q]
    have l := cq_le x y
    have lc := cpl_le x y
    let p := cpl x y
    let B := x.drop p
    let A := y.drop p
    have lB : B.length = x.length - p := List.length_drop ..
    have lA : A.length = y.length - p := List.length_drop ..
    have cB : B.length ≤ cap := nats_le2 (by omega)
    have cA : A.length ≤ cap := nats_le2 (by omega)
    let F (a b c d : Option D) : Env := [some (.str x), some (.str y), a, b, c, d]
    have k0 : ∀ f, sIf (xB (xOp dEq (xVar 0) (xVar 1))) f sNil E0 = some (.nx E0) := fun f => by rw [sif_f t]; rfl
    have k1 : sSet 2 (xCallV 2 d_common (xCons (xVar 0) (xCons (xVar 1) xNil))) E0 = some (.nx (F (some (iD p)) none none none)) := sset_v (xcall2 (xvar_f rfl) (xvar_f rfl) (den_common x y hx hy))
    have k2 : sSet 3 (xSl dSl (xVar 0) (xSome (xVar 2)) xNo) (F (some (iD p)) none none none) = some (.nx (F (some (iD p)) (some (.str B)) none none)) := sset_v (xsl_v (xvar_f (i := 0) (ρ := F (some (iD p)) none none none) (d := .str x) rfl) (xsome_v (xvar_f (i := 2) (ρ := F (some (iD p)) none none none) (d := iD p) rfl)) (xno_v _) (sl_fromS p cx))
    have k3 : sSet 4 (xSl dSl (xVar 1) (xSome (xVar 2)) xNo) (F (some (iD p)) (some (.str B)) none none) = some (.nx (F (some (iD p)) (some (.str B)) (some (.str A)) none)) := sset_v (xsl_v (xvar_f (i := 1) (ρ := F (some (iD p)) (some (.str B)) none none) (d := .str y) rfl) (xsome_v (xvar_f (i := 2) (ρ := F (some (iD p)) (some (.str B)) none none) (d := iD p) rfl)) (xno_v _) (sl_fromS p cy))
    have k4 : sSet 5 (xCallV 2 d_common (xCons (xUn dRev (xVar 3)) (xCons (xUn dRev (xVar 4)) xNil))) (F (some (iD p)) (some (.str B)) (some (.str A)) none) = some (.nx (F (some (iD p)) (some (.str B)) (some (.str A)) (some (iD (cq x y))))) := by
      have := den_common B.reverse A.reverse (by simp; omega) (by simp; omega)
      exact sset_v (xcall2 (xun_v (xvar_f (i := 3) (d := .str B) rfl) (rev_str cB)) (xun_v (xvar_f (i := 4) (d := .str A) rfl) (rev_str cA)) this)
    let E5 := F (some (iD p)) (some (.str B)) (some (.str A)) (some (iD (cq x y)))
    have v5 : xVar 5 E5 = some (.v (iD (cq x y)), E5) := rfl
    have l3 := xcb1 (o := dLen) (xvar_f (i := 3) (ρ := E5) (d := .str B) rfl) (len_str cB)
    have l4 := xcb1 (o := dLen) (xvar_f (i := 4) (ρ := E5) (d := .str A) rfl) (len_str cA)
    have s3 := xop_v (o := dSub) l3 v5 (subNat (by omega))
    have s4 := xop_v (o := dSub) l4 v5 (subNat (by omega))
    have sl := xsl_v (o := dSl) (xvar_f (i := 4) (ρ := E5) (d := .str A) rfl) (xno_v _) (xsome_v s4) (sl_toS (A.length - cq x y) cA)
    refine dn_rt E0 rfl rfl (r := .v (chD' (p, x.length - p - cq x y, A.take (y.length - p - cq x y)))) (ρ := E5) ?_ rfl rfl
    unfold b_change
    rw [sseq_nx (k0 _), sseq_nx k1, sseq_nx k2, sseq_nx k3, sseq_nx k4]
    have tp := xtup3 (xvar_f (i := 2) (ρ := E5) (d := iD p) rfl) s3 sl
    rw [lB, lA] at tp
    exact sret_v tp
theorem den_changed (x : List Nat) (c : Chg) (hx : x.length ≤ 80000) (hc : ∀ t, c = some t → t.2.2.length ≤ 80000) : d_changed [.str x, chgD c] = some (.v (.str (chgd x c)), [.str x, chgD c]) := by
  have cx : x.length ≤ cap := nats_le2 (by omega)
  let E0 : Env := [some (.str x), some (chgD c), none, none, none]
  cases c with
  | none => rfl
  | some t =>
    obtain ⟨o, r, i⟩ := t
    have hi := hc _ rfl
    dsimp only at hi
    have t : xB (xOp dIs (xVar 1) (xC .non)) E0 = some (false, E0) := rfl
    have k0 : ∀ f, sIf (xB (xOp dIs (xVar 1) (xC .non))) f sNil E0 = some (.nx E0) := fun f => by rw [sif_f t]; rfl
    let E1 : Env := [some (.str x), some (chgD (some (o, r, i))), some (iD o), some (iD r), some (.str i)]
    have k1 : sAsg (xVar 1) (gA 3 (gsCons (gN 2) (gsCons (gN 3) (gsCons (gN 4) gsNil)))) E0 = some (.nx E1) := rfl
    have s1 := xsl_v (o := dSl) (xvar_f (i := 0) (ρ := E1) (d := .str x) rfl) (xno_v _) (xsome_v (xvar_f (i := 2) (ρ := E1) (d := iD o) rfl)) (sl_toS o cx)
    have ad := xop_v (o := dAdd) (xvar_f (i := 2) (ρ := E1) (d := iD o) rfl) (xvar_f (i := 3) (d := iD r) rfl) (add_nat o r)
    have s2 := xsl_v (o := dSl) (xvar_f (i := 0) (ρ := E1) (d := .str x) rfl) (xsome_v ad) (xno_v _) (sl_fromS (o + r) cx)
    refine dn_rt E0 rfl rfl (r := .v (.str (x.take o ++ i ++ x.drop (o + r)))) (ρ := E1) ?_ rfl rfl
    unfold b_changed
    rw [sseq_nx (k0 _), sseq_nx k1]
    have l1 : (x.take o).length ≤ x.length := List.length_take_le' ..
    have l2 : (x.drop (o + r)).length ≤ x.length := by rw [List.length_drop]; omega
    exact sret_v (xop_v (xop_v s1 (xvar_f (i := 4) (d := .str i) rfl) (add_str (nats_le2 (by omega)))) s2 (add_str (nats_le2 (by rw [List.length_append]; omega))))
end Den

namespace Den
open PySem PySem.Spec PyProof.Rows L2
/-! ### comprehensions that draw -/
theorem lcL_inv {α : Type} {g : Eg} {e : Ex} {vs : List Nat} (enc : α → D) (Inv : Env → Prop) (Q : D → Prop) : ∀ (l : List α) (ρ : Env), Inv ρ → (∀ a ρ, a ∈ l → Inv ρ → ∃ ρ1 ρ2 d, g (enc a) ρ = some ρ1 ∧ e ρ1 = some (.v d, ρ2) ∧ Q d ∧ Inv (wipeD ρ2 vs)) →
    ∃ ds ρ', lcL g qYes e vs (l.map enc) ρ = some (ds, ρ') ∧ Inv ρ' ∧ ds.length = l.length ∧ ∀ d ∈ ds, Q d
  | [], ρ, i, _ => ⟨[], ρ, rfl, i, rfl, by simp⟩
  | a :: l, ρ, i, h => by
    obtain ⟨ρ1, ρ2, d, h1, h2, h3, h4⟩ := h a ρ (List.mem_cons_self ..) i
    obtain ⟨ds, ρ', e2, i2, l2, q2⟩ := lcL_inv enc Inv Q l (wipeD ρ2 vs) h4 fun b ρ m => h b ρ (List.mem_cons_of_mem _ m)
    refine ⟨d :: ds, ρ', ?_, i2, by simp [l2], fun x hx => ?_⟩
    · rw [List.map_cons, lcL, h1, Option.bind_some, qYes_eq, Option.bind_some]
      dsimp only
      rw [if_pos rfl, h2, Option.bind_some]
      show ((lcL g qYes e vs (l.map enc) (wipeD ρ2 vs)).map _) = _
      rw [e2]
      rfl
    · rcases List.mem_cons.mp hx with rfl | hx
      · exact h3
      · exact q2 x hx
theorem list_enc {α : Type} {enc : α → D} {P : α → Prop} : ∀ (ds : List D), (∀ d ∈ ds, ∃ u : α, d = enc u ∧ P u) → ∃ w : List α, ds = w.map enc ∧ ∀ u ∈ w, P u
  | [], _ => ⟨[], rfl, by simp⟩
  | d :: ds, h => by
    obtain ⟨u, e, p⟩ := h d (List.mem_cons_self ..)
    obtain ⟨w, e2, q⟩ := list_enc ds fun x hx => h x (List.mem_cons_of_mem _ hx)
    exact ⟨u :: w, by rw [e, e2]; rfl, fun v hv => (List.mem_cons.mp hv).elim (fun z => z ▸ p) (q v)⟩
/-- range of a draw -/
theorem iR1_draw {f : Ex} {ρ ρ' : Env} {n : Nat} (h : f ρ = some (.v (.int (n : Nat)), ρ')) (hn : n < 90000) : iR1 (xCons f xNil) ρ = some ((List.range n).map iD, ρ') := by
  rw [iR1_eq, xCons_eq, h]
  show (Option.bind (some ([R.v (.int (n : Nat))], ρ')) r1K) = _
  rw [Option.bind_some, r1K_v, if_pos (small_nat n hn)]
  show some (rng 0 n, _) = _
  rw [rng0]
/-- a drawn number as a natural one -/
theorem lend_drN (m : Nat) (hm : 0 < m) (is : List Int) (z : Int) (hz : 0 ≤ z) : ∃ r : Nat, r < m ∧ ∀ (i : Nat) (f : Ex) (ρ : Env), gt ρ i = some (bx is z) → f ρ = some (.v (.int (m : Nat)), ρ) →
    xCallL 2 d_law_draw i (xCons f xNil) ρ = some (.v (iD r), ρ.set i (some (bx is (z + 1)))) := by
  obtain ⟨r, h0, h1, e⟩ := lend_dr m (by omega) is z hz
  obtain ⟨k, rfl⟩ := Int.eq_ofNat_of_zero_le h0
  exact ⟨k, by omega, e⟩
theorem ix_strN {s : List Nat} {k : Nat} (h : k < s.length) (hc : s.length ≤ cap) : ∃ c ∈ s, dIx (.str s) (iD k) = some (.str [c]) := ⟨s[k], List.getElem_mem h, ix_str (List.getElem?_eq_getElem h) hc⟩
theorem join_v' {X : Ex} {ρ ρ' : Env} {l : List Nat} (h : X ρ = some (.v (.lst (l.map fun a => .str [a])), ρ')) (hl : l.length ≤ cap) : xBM "str" dJoin (xC (.str [])) (xCons X xNil) ρ = some (.v (.str l), ρ') := by
  have j := join_map (fun c : Nat => c) l hl
  rw [List.map_id'] at j
  have e : (xCons X xNil) ρ = some ([.v (.lst (l.map fun a => .str [a]))], ρ') := by
    rw [xCons_eq, h]; rfl
  rw [xBM_eq]
  show (Option.bind ((xCons X xNil) ρ) _) = _
  rw [e, Option.bind_some]
  show (Option.bind (some (.str [])) fun x => Option.bind (some [.lst (l.map fun a => D.str [a])]) fun ds => (dJoin x ds).map fun z => (R.v z, ρ')) = _
  rw [Option.bind_some, Option.bind_some, j]
  rfl
end Den

namespace Den
open PySem PySem.Spec PyProof.Rows L2
/-! ### what is shown, by the normal form; the nine contexts tell -/
def tT (f : NF) : List Nat := mk f.1 ++ f.2.1 ++ mk f.2.2
theorem keepG_fin_l (t : List Nat) (r : Ok) : keepG t (some .fin) r = mk t := by unfold keepG; rw [if_pos (by unfold endO; simp)]
theorem keepG_fin_r (t : List Nat) (l : Ok) : keepG t l (some .fin) = mk t := by unfold keepG; rw [if_pos (by unfold endO; simp)]
theorem ndL_fin : ∀ {L : SG}, L ≠ [] → (∀ p ∈ L, gk p.1.k = false ∧ ∀ u ∈ p.2, gk u.k = true) → (ndL (some .fin) L).map shC = (bd L).1 ++ mk (bd L).2
  | [], h, _ => absurd rfl h
  | [(s, h)], _, g => by
    have gh := (g _ (List.mem_cons_self ..)).2
    show (s :: (keptU h (some s.k) (some .fin) ++ [])).map shC = [shC s] ++ mk (gform (sg h) (some s.k) none)
    rw [List.append_nil, List.map_cons, shC_gaps (fun u hu => gh u (keptU_mem hu)), sg_keptU _ _ _ gh, keepG_fin_r, f2s_no (no10 _)]
    have : mk (gform (sg h) (some s.k) none) = mk (sg h) := by
      by_cases hf : (some s.k : Ok) = some .fin
      · rw [gform_end _ _ _ (by unfold endO; rw [hf]; rfl), mk_mk]
      · exact (eqv_l _ _ hf).1
    rw [this]
    rfl
  | (s, h) :: (s', h') :: r, _, g => by
    have ih := ndL_fin (L := (s', h') :: r) (List.cons_ne_nil _ _) fun p hp => g p (List.mem_cons_of_mem _ hp)
    have gh := (g _ (List.mem_cons_self ..)).2
    show (s :: (keptU h (some s.k) (some s'.k) ++ ndL (some .fin) ((s', h') :: r))).map shC = (shC s :: gform (sg h) (some s.k) (some s'.k) ++ (bd ((s', h') :: r)).1) ++ mk (bd ((s', h') :: r)).2
    rw [List.map_cons, List.map_append, ih, shC_gaps (fun u hu => gh u (keptU_mem hu)), sg_keptU _ _ _ gh, gform_keep_b]
    simp
theorem txt_needed (x : List U) : txt x = (needed (some .fin) x).map shC := by
  unfold txt needed
  rw [List.map_map]
  rfl
/-- the shown text, by the normal form -/
theorem txt_nf (x : List U) : txt x = tT (nf x) := by
  obtain ⟨g1, g2⟩ := split_gk x
  rw [txt_needed, needed_eq, List.map_append, shC_gaps (fun u hu => g1 u (keptU_mem hu)), sg_keptU _ _ _ g1, keepG_fin_l, f2s_no (no10 _)]
  unfold tT nf
  dsimp only
  have m1 : mk (gform (sg (split x).1) none (hdK (split x).2)) = mk (sg (split x).1) := by
    by_cases hf : hdK (split x).2 = some .fin
    · rw [hf, gform_end _ _ _ (by unfold endO; simp), mk_mk]
    · exact (eqv_r _ _ hf).1
  rw [m1]
  by_cases h : (split x).2 = []
  · rw [h]
    simp [ndL, bd]
  · rw [ndL_fin h g2, List.append_assoc]
def ctxT (p q f : NF) : List Nat := tT (cat (cat p f) q)
theorem txt_ctx (b a : List Nat) (x : List U) : txt (colU b ++ x ++ colU a) = ctxT (nf (colU b)) (nf (colU a)) (nf x) := by
  rw [txt_nf, nf_app, nf_app]
  rfl
/-! marks at the ends are told from what stands between -/
theorem mk_marks {t : List Nat} (h : gsn t) : ∀ c ∈ mk t, mrk c = true := fun c hc => by
  have h1 := mk_mem.mp hc
  have := h c h1.1
  unfold mrk
  rcases this with rfl | rfl | rfl | rfl <;> first | rfl | exact absurd rfl h1.2.1 | exact absurd rfl h1.2.2
theorem cut_head {m m' c c' : List Nat} (hm : ∀ x ∈ m, mrk x = true) (hm' : ∀ x ∈ m', mrk x = true) (hc : ∃ a t, c = a :: t ∧ mrk a = false) (hc' : ∃ a t, c' = a :: t ∧ mrk a = false) (h : m ++ c = m' ++ c') : m = m' ∧ c = c' := by
  obtain ⟨a, t, rfl, ha⟩ := hc
  obtain ⟨a', t', rfl, ha'⟩ := hc'
  have e1 : (m ++ a :: t).takeWhile mrk = m := by
    rw [List.takeWhile_append_of_pos hm, List.takeWhile_cons_of_neg (by rw [ha]; decide), List.append_nil]
  have e2 : (m' ++ a' :: t').takeWhile mrk = m' := by
    rw [List.takeWhile_append_of_pos hm', List.takeWhile_cons_of_neg (by rw [ha']; decide), List.append_nil]
  rw [h] at e1
  have : m = m' := e1.symm.trans e2
  subst this
  exact ⟨rfl, List.append_cancel_left h⟩
theorem cut_tail {m m' c c' : List Nat} (hm : ∀ x ∈ m, mrk x = true) (hm' : ∀ x ∈ m', mrk x = true) (hc : ∃ t a, c = t ++ [a] ∧ mrk a = false) (hc' : ∃ t a, c' = t ++ [a] ∧ mrk a = false) (h : c ++ m = c' ++ m') : c = c' ∧ m = m' := by
  have hr : m.reverse ++ c.reverse = m'.reverse ++ c'.reverse := by rw [← List.reverse_append, ← List.reverse_append, h]
  obtain ⟨t, a, rfl, ha⟩ := hc
  obtain ⟨t', a', rfl, ha'⟩ := hc'
  have := cut_head (m := m.reverse) (m' := m'.reverse) (fun x hx => hm x (List.mem_reverse.mp hx)) (fun x hx => hm' x (List.mem_reverse.mp hx)) ⟨a, t.reverse, by simp, ha⟩ ⟨a', t'.reverse, by simp, ha'⟩ hr
  exact ⟨List.reverse_inj.mp this.2, List.reverse_inj.mp this.1⟩
theorem f2s_inj : ∀ {x y : List Nat}, 32 ∉ x → 32 ∉ y → f2s x = f2s y → x = y
  | [], [], _, _, _ => rfl
  | [], b :: y, _, _, h => by cases h
  | a :: x, [], _, _, h => by cases h
  | a :: x, b :: y, h1, h2, h => by
    rw [List.mem_cons, not_or] at h1 h2
    have h' : (if a = 10 then 32 else a) :: f2s x = (if b = 10 then 32 else b) :: f2s y := h
    have e1 := (List.cons.inj h').1
    have e2 := f2s_inj h1.2 h2.2 (List.cons.inj h').2
    rw [e2]
    congr 1
    by_cases ha : a = 10 <;> by_cases hb : b = 10
    · rw [ha, hb]
    · rw [if_pos ha, if_neg hb] at e1; exact absurd e1 h2.1
    · rw [if_neg ha, if_pos hb] at e1; exact absurd e1.symm h1.1
    · rw [if_neg ha, if_neg hb] at e1; exact e1
theorem red_no32 {a : List Nat} (h : red a = a) (h10 : 10 ∈ a) : 32 ∉ a := by
  rw [← h]
  unfold red
  rw [if_pos h10]
  exact rd1_oth (.inl rfl) (by decide) a
theorem f2s_mem {a : List Nat} (h : 10 ∈ a) : 32 ∈ f2s a := List.mem_map.mpr ⟨10, h, rfl⟩
/-- two gaps, shown with neighbors that join and that don't -/
theorem gap_tells {a a' : List Nat} (ha : red a = a) (ha' : red a' = a') (h1 : f2s a = f2s a') (h2 : (if 10 ∈ a then mk a else a) = (if 10 ∈ a' then mk a' else a')) : a = a' := by
  by_cases q : 10 ∈ a
  · by_cases q' : 10 ∈ a'
    · exact f2s_inj (red_no32 ha q) (red_no32 ha' q') h1
    · exfalso
      rw [if_pos q, if_neg q'] at h2
      have m := f2s_mem q
      rw [h1, f2s_no q', ← h2] at m
      exact no32 a m
  · by_cases q' : 10 ∈ a'
    · exfalso
      rw [if_neg q, if_pos q'] at h2
      have m := f2s_mem q'
      rw [← h1, f2s_no q, h2] at m
      exact no32 a' m
    · rwa [if_neg q, if_neg q'] at h2
/-! the gap's form between the kinds of the nine contexts -/
theorem gform_nojoin {t : List Nat} {l r : Kd} (he : endO (some l) (some r) = false) (hj : joinK l r = false) : gform t (some l) (some r) = f2s (red t) := by
  unfold gform red
  rw [he, if_neg Bool.false_ne_true, show both (some l) (some r) = true from rfl, if_pos rfl, show joinO (some l) (some r) = joinK l r from rfl, hj, if_neg Bool.false_ne_true]
  split
  · rfl
  · rw [f2s_no (rd1_oth (.inr rfl) (by decide) t)]
theorem gform_join {t : List Nat} {l r : Kd} (he : endO (some l) (some r) = false) (hj : joinK l r = true) : gform t (some l) (some r) = if 10 ∈ t then mk t else red t := by
  unfold gform red
  rw [he, if_neg Bool.false_ne_true, show both (some l) (some r) = true from rfl, if_pos rfl, show joinO (some l) (some r) = joinK l r from rfl, hj, if_pos rfl]
  by_cases h : 10 ∈ t
  · rw [if_pos h, if_pos h]
  · rw [if_neg h, if_neg h, if_neg h]
theorem join_tells {a a' : List Nat} {l r : Kd} (ha : red a = a) (ha' : red a' = a') (he : endO (some l) (some r) = false) (hj : joinK l r = true) (h : gform a (some l) (some r) = gform a' (some l) (some r)) : (if 10 ∈ a then mk a else a) = (if 10 ∈ a' then mk a' else a') := by
  rw [gform_join he hj, gform_join he hj, ha, ha'] at h
  exact h
theorem nojoin_tells {a a' : List Nat} {l r : Kd} (ha : red a = a) (ha' : red a' = a') (he : endO (some l) (some r) = false) (hj : joinK l r = false) (h : gform a (some l) (some r) = gform a' (some l) (some r)) : f2s a = f2s a' := by
  rw [gform_nojoin he hj, gform_nojoin he hj, ha, ha'] at h
  exact h
/-! the contexts, as normal forms -/
def c0 : NF := ([], [], [])
def cA : NF := ([], [97], [])
def cZ : NF := ([], [94], [])
def cAs : NF := ([], [97], [32])
def csA : NF := ([32], [97], [])
theorem nf_c0 : nf (colU []) = c0 := rfl
theorem nf_cA : nf (colU [97]) = cA := by decide
theorem nf_cZ : nf (colU [94]) = cZ := by decide
theorem nf_cAs : nf (colU [97, 32]) = cAs := by decide
theorem nf_csA : nf (colU [32, 97]) = csA := by decide
section
variable {a c e a' c' e' : List Nat}
theorem fk_some (h : c ≠ []) : ∃ k, fk c = some k := by
  cases c with
  | nil => exact absurd rfl h
  | cons x t => exact ⟨_, rfl⟩
theorem lk_some : ∀ {c : List Nat}, c ≠ [] → ∃ k, lk c = some k
  | [], h => absurd rfl h
  | [x], _ => ⟨_, rfl⟩
  | x :: y :: t, _ => lk_some (c := y :: t) (List.cons_ne_nil _ _)
/-- a context on the left alone -/
theorem ctx_left (p : NF) (hp : p.2.1 ≠ []) (hc : c ≠ []) : ctxT p c0 (a, c, e) = mk p.1 ++ p.2.1 ++ gform (p.2.2 ++ a) (lk p.2.1) (fk c) ++ c ++ mk (gform e (lk c) none) := by
  unfold ctxT
  have hn : p.2.1 ++ gform (p.2.2 ++ a) (lk p.2.1) (fk c) ++ c ≠ [] := fun z => hc (List.append_eq_nil_iff.mp z).2
  have h1 : cat p (a, c, e) = (p.1, p.2.1 ++ gform (p.2.2 ++ a) (lk p.2.1) (fk c) ++ c, e) := by
    unfold cat
    dsimp only
    rw [if_neg hp, if_neg hc]
  rw [h1]
  have h2 : cat (p.1, p.2.1 ++ gform (p.2.2 ++ a) (lk p.2.1) (fk c) ++ c, e) c0 = (p.1, p.2.1 ++ gform (p.2.2 ++ a) (lk p.2.1) (fk c) ++ c, gform e (lk c) none) := by
    unfold cat c0
    dsimp only
    rw [if_neg hn, if_pos rfl, List.append_nil, lk_app _ _ hc]
  rw [h2]
  unfold tT
  dsimp only
  simp only [List.append_assoc]
/-- a context on the right alone -/
theorem ctx_right (q : NF) (hq : q.2.1 ≠ []) (hc : c ≠ []) : ctxT c0 q (a, c, e) = mk (gform a none (fk c)) ++ c ++ gform (e ++ q.1) (lk c) (fk q.2.1) ++ q.2.1 ++ mk q.2.2 := by
  unfold ctxT
  have h1 : cat c0 (a, c, e) = (gform a none (fk c), c, e) := by
    unfold cat c0
    dsimp only
    rw [if_pos rfl]
    rfl
  rw [h1]
  have h2 : cat (gform a none (fk c), c, e) q = (gform a none (fk c), c ++ gform (e ++ q.1) (lk c) (fk q.2.1) ++ q.2.1, q.2.2) := by
    unfold cat
    dsimp only
    rw [if_neg hc, if_neg hq]
  rw [h2]
  unfold tT
  dsimp only
  simp only [List.append_assoc]
theorem ctx_none (h : isNF (a, c, e)) : ctxT c0 c0 (a, c, e) = mk a ++ c ++ mk e := by
  unfold ctxT
  have h1 : cat c0 (a, c, e) = (a, c, e) := by
    have := h.2.2.2.1
    dsimp only at this
    unfold cat c0
    dsimp only
    rw [if_pos rfl, List.nil_append, this]
  rw [h1, show c0 = ([], [], []) from rfl, cat_nil_r _ h]
  rfl
/-- a context on both sides of what has no solid unit -/
theorem ctx_both (p q : NF) (hp : p.2.1 ≠ []) (hq : q.2.1 ≠ []) (hp2 : p.2.2 = []) (hq1 : q.1 = []) : ctxT p q (a, [], []) = mk p.1 ++ p.2.1 ++ gform a (lk p.2.1) (fk q.2.1) ++ q.2.1 ++ mk q.2.2 := by
  unfold ctxT
  have h1 : cat p (a, [], []) = (p.1, p.2.1, gform a (lk p.2.1) none) := by
    unfold cat
    dsimp only
    rw [if_neg hp, if_pos rfl, hp2, List.nil_append]
  rw [h1]
  have h2 : cat (p.1, p.2.1, gform a (lk p.2.1) none) q = (p.1, p.2.1 ++ gform a (lk p.2.1) (fk q.2.1) ++ q.2.1, q.2.2) := by
    unfold cat
    dsimp only
    rw [if_neg hp, if_neg hq, hq1, List.append_nil, gform_half_l]
  rw [h2]
  unfold tT
  dsimp only
  simp only [List.append_assoc]
end
theorem gform_nn (t : List Nat) : gform t none none = red t := by
  unfold gform red
  rw [if_neg (by decide)]
  split
  · rw [if_neg (by decide), if_neg (by decide), if_neg (by decide)]
  · rfl
/-- the nine contexts, as pairs of normal forms -/
def nine : List (NF × NF) := [(c0, c0), (cA, c0), (cZ, c0), (cAs, c0), (c0, cA), (c0, cZ), (c0, csA), (cA, cA), (cZ, cA)]
theorem coreOk_ends {c : List Nat} (h : coreOk c) (hc : c ≠ []) : (∃ a t, c = a :: t ∧ mrk a = false) ∧ ∃ t a, c = t ++ [a] ∧ mrk a = false := by
  rcases h with z | ⟨_, h1, h2⟩
  · exact absurd z hc
  · exact ⟨h1, h2⟩
/-- two normal forms that the nine contexts show alike are equal -/
theorem nine_tell {f g : NF} (hf : isNF f) (hg : isNF g) (h : ∀ p ∈ nine, ctxT p.1 p.2 f = ctxT p.1 p.2 g) : f = g := by
  obtain ⟨a, c, e⟩ := f
  obtain ⟨a', c', e'⟩ := g
  have H1 := h (c0, c0) (by simp [nine])
  have H2 := h (cA, c0) (by simp [nine])
  have H3 := h (cZ, c0) (by simp [nine])
  have H4 := h (cAs, c0) (by simp [nine])
  have H5 := h (c0, cA) (by simp [nine])
  have H6 := h (c0, cZ) (by simp [nine])
  have H7 := h (c0, csA) (by simp [nine])
  have H8 := h (cA, cA) (by simp [nine])
  have H9 := h (cZ, cA) (by simp [nine])
  dsimp only at H1 H2 H3 H4 H5 H6 H7 H8 H9
  rw [ctx_none hf, ctx_none hg] at H1
  obtain ⟨f1, f2, f3, f4, f5⟩ := hf
  obtain ⟨g1, g2, g3, g4, g5⟩ := hg
  dsimp only at f1 f2 f3 f4 f5 g1 g2 g3 g4 g5
  have mism : ∀ {a a' c' e' : List Nat}, gsn a → gsn a' → coreOk c' → c' ≠ [] → mk a ++ [] ++ mk [] = mk a' ++ c' ++ mk e' → False := by
    intro a a' c' e' ga ga' k n z
    obtain ⟨⟨x, t, rfl, hx⟩, _⟩ := coreOk_ends k n
    have : x ∈ mk a := by
      have : x ∈ mk a ++ [] ++ mk [] := by rw [z]; simp
      simpa using this
    have := mk_marks ga x this
    rw [hx] at this
    cases this
  by_cases hc : c = []
  · subst hc
    rw [if_pos rfl] at f5
    subst f5
    by_cases hc' : c' = []
    · subst hc'
      rw [if_pos rfl] at g5
      subst g5
      have ra : red a = a := by
        have : gform a none none = a := f4
        rw [← this, gform_nn]
        exact red_red a
      have ra' : red a' = a' := by
        have : gform a' none none = a' := g4
        rw [← this, gform_nn]
        exact red_red a'
      rw [ctx_both cA cA (by simp [cA]) (by simp [cA]) rfl rfl, ctx_both cA cA (by simp [cA]) (by simp [cA]) rfl rfl] at H8
      rw [ctx_both cZ cA (by simp [cZ]) (by simp [cA]) rfl rfl, ctx_both cZ cA (by simp [cZ]) (by simp [cA]) rfl rfl] at H9
      have G8 := List.append_cancel_left (List.append_cancel_right (List.append_cancel_right H8))
      have G9 := List.append_cancel_left (List.append_cancel_right (List.append_cancel_right H9))
      have : a = a' := gap_tells ra ra' (nojoin_tells (l := .other) (r := .other) ra ra' rfl rfl G8) (join_tells (l := .zero) (r := .other) ra ra' rfl rfl G9)
      rw [this]
    · exact (mism f1 g1 g3 hc' H1).elim
  by_cases hc' : c' = []
  · subst hc'
    rw [if_pos rfl] at g5
    subst g5
    exact (mism g1 f1 f3 hc H1.symm).elim
  -- both have solid units
  obtain ⟨hh, ht⟩ := coreOk_ends f3 hc
  obtain ⟨hh', ht'⟩ := coreOk_ends g3 hc'
  rw [List.append_assoc, List.append_assoc] at H1
  have hce : ∃ x t, c ++ mk e = x :: t ∧ mrk x = false := by
    obtain ⟨x, t, rfl, hx⟩ := hh
    exact ⟨x, t ++ mk e, rfl, hx⟩
  have hce' : ∃ x t, c' ++ mk e' = x :: t ∧ mrk x = false := by
    obtain ⟨x, t, rfl, hx⟩ := hh'
    exact ⟨x, t ++ mk e', rfl, hx⟩
  obtain ⟨ma, hR⟩ := cut_head (mk_marks f1) (mk_marks g1) hce hce' H1
  obtain ⟨ec, me⟩ := cut_tail (mk_marks f2) (mk_marks g2) ht ht' hR
  subst ec
  rw [if_neg hc] at f5 g5
  obtain ⟨k, hk⟩ := fk_some hc
  obtain ⟨j, hj⟩ := lk_some hc
  rw [hk] at f4 g4
  rw [hj] at f5 g5
  -- the left contexts
  have L : ∀ p : NF, p.2.1 ≠ [] → ctxT p c0 (a, c, e) = ctxT p c0 (a', c, e') → gform (p.2.2 ++ a) (lk p.2.1) (some k) = gform (p.2.2 ++ a') (lk p.2.1) (some k) := by
    intro p hp z
    rw [ctx_left p hp hc, ctx_left p hp hc, hj, f5, g5, me, hk] at z
    exact List.append_cancel_left (List.append_cancel_right (List.append_cancel_right z))
  have Rr : ∀ q : NF, q.2.1 ≠ [] → ctxT c0 q (a, c, e) = ctxT c0 q (a', c, e') → gform (e ++ q.1) (some j) (fk q.2.1) = gform (e' ++ q.1) (some j) (fk q.2.1) := by
    intro q hq z
    rw [ctx_right q hq hc, ctx_right q hq hc, hk, f4, g4, ma, hj] at z
    exact List.append_cancel_left (List.append_cancel_right (List.append_cancel_right z))
  have G2 := L cA (by simp [cA]) H2
  have G3 := L cZ (by simp [cZ]) H3
  have G4 := L cAs (by simp [cAs]) H4
  have G5 := Rr cA (by simp [cA]) H5
  have G6 := Rr cZ (by simp [cZ]) H6
  have G7 := Rr csA (by simp [csA]) H7
  have G2 : gform a (some .other) (some k) = gform a' (some .other) (some k) := G2
  have G3 : gform a (some .zero) (some k) = gform a' (some .zero) (some k) := G3
  have G4 : gform (32 :: a) (some .other) (some k) = gform (32 :: a') (some .other) (some k) := G4
  have G5 : gform e (some j) (some .other) = gform e' (some j) (some .other) := by
    have : gform (e ++ []) (some j) (some .other) = gform (e' ++ []) (some j) (some .other) := G5
    rwa [List.append_nil, List.append_nil] at this
  have G6 : gform e (some j) (some .zero) = gform e' (some j) (some .zero) := by
    have : gform (e ++ []) (some j) (some .zero) = gform (e' ++ []) (some j) (some .zero) := G6
    rwa [List.append_nil, List.append_nil] at this
  have G7 : gform (e ++ [32]) (some j) (some .other) = gform (e' ++ [32]) (some j) (some .other) := G7
  have ea : a = a' := by
    by_cases kf : k = .fin
    · subst kf
      rw [gform_end _ _ _ rfl] at f4 g4
      rw [← f4, ← g4, ma]
    by_cases kz : k = .zero
    · subst kz
      have s1 : ∀ t : List Nat, gform (32 :: t) (some .other) (some .zero) = if 10 ∈ t then mk t else 32 :: mk t := fun t => by
        rw [gform_join rfl rfl]
        by_cases h : 10 ∈ t
        · rw [if_pos (by simp [h]), if_pos h, mk_cons, if_pos (.inl rfl)]
        · rw [if_neg (by simp [h]), if_neg h]
          unfold red
          rw [if_neg (by simp [h]), rd1, if_pos rfl]
      rw [s1, s1, ma] at G4
      have i10 : 10 ∈ a ↔ 10 ∈ a' := by
        by_cases h : 10 ∈ a <;> by_cases h' : 10 ∈ a'
        · simp [h, h']
        · rw [if_pos h, if_neg h'] at G4
          have := congrArg List.length G4
          simp at this
        · rw [if_neg h, if_pos h'] at G4
          have := congrArg List.length G4
          simp at this
        · simp [h, h']
      by_cases h : 10 ∈ a
      · have h' := i10.mp h
        have w : ∀ {t : List Nat}, 10 ∈ t → gform t none (some .zero) = mk t ++ [10] := fun {t} ht => by
          unfold gform
          rw [if_neg (by decide), if_pos ht, if_neg (by decide), if_pos rfl]
        rw [w h] at f4
        rw [w h'] at g4
        rw [← f4, ← g4, ma]
      · have h' : 10 ∉ a' := fun z => h (i10.mpr z)
        rw [gform_red _ _ _ h rfl] at f4 G2
        rw [gform_red _ _ _ h' rfl] at g4 G2
        rw [← f4, ← g4, G2]
    · have en : endO (some .other) (some k) = false := by cases k <;> first | rfl | exact absurd rfl kf
      have en2 : endO none (some k) = false := by cases k <;> first | rfl | exact absurd rfl kf
      have jn : joinK .other k = false := by cases k <;> first | rfl | exact absurd rfl kz
      have rd : ∀ {t : List Nat}, gform t none (some k) = t → red t = t := fun {t} ht => by
        have e1 : gform t none (some k) = red t := by
          unfold gform red
          rw [en2, if_neg Bool.false_ne_true]
          split
          · rw [if_neg (show ¬ both none (some k) = true from Bool.false_ne_true), if_neg (fun z => kz (Option.some.inj z)), if_neg (by decide)]
          · rfl
        rw [← e1, ht]
      exact gap_tells (rd f4) (rd g4) (nojoin_tells (rd f4) (rd g4) en jn G2) (join_tells (l := .zero) (r := k) (rd f4) (rd g4) (by cases k <;> first | rfl | exact absurd rfl kf) rfl G3)
  have ee : e = e' := by
    by_cases kf : j = .fin
    · subst kf
      rw [gform_end _ _ _ rfl] at f5 g5
      rw [← f5, ← g5, me]
    by_cases kz : j = .zero
    · subst kz
      have s1 : ∀ t : List Nat, (10 ∈ t → gform (t ++ [32]) (some .zero) (some .other) = mk t) ∧ (10 ∉ t → (gform (t ++ [32]) (some .zero) (some .other)).length = (mk t).length + 1) := fun t => by
        rw [gform_join rfl rfl]
        constructor
        · intro h
          rw [if_pos (by simp [h]), mk_app, mk_cons, if_pos (.inl rfl)]
          simp
        · intro h
          have h2 : 10 ∉ t ++ [32] := by simp [h]
          rw [if_neg h2, red_app]
          rw [if_neg h, if_neg (by simp)]
          by_cases h3 : 32 ∈ t
          · rw [if_pos h3]
            obtain ⟨e1, n1, _⟩ := idx_split h3
            have r1 : red t = mk (t.take (t.idxOf 32)) ++ 32 :: mk (t.drop (t.idxOf 32 + 1)) := by
              unfold red
              rw [if_neg h]
              have := rd1_split (w := 32) (.inl rfl) (b := t.drop (t.idxOf 32 + 1)) n1
              rwa [← e1] at this
            have m1 : mk t = mk (t.take (t.idxOf 32)) ++ mk (t.drop (t.idxOf 32 + 1)) := by
              have := mk_split (w := 32) (.inl rfl) (t.take (t.idxOf 32)) (t.drop (t.idxOf 32 + 1))
              rwa [← e1] at this
            rw [r1, m1]
            simp [mk_cons]
            omega
          · rw [if_neg h3]
            show (mk t ++ [32]).length = _
            simp
      have i10 : 10 ∈ e ↔ 10 ∈ e' := by
        by_cases h : 10 ∈ e <;> by_cases h' : 10 ∈ e'
        · simp [h, h']
        · have := congrArg List.length G7
          rw [(s1 e).1 h, (s1 e').2 h', me] at this
          omega
        · have := congrArg List.length G7
          rw [(s1 e').1 h', (s1 e).2 h, me] at this
          omega
        · simp [h, h']
      by_cases h : 10 ∈ e
      · have h' := i10.mp h
        have w : ∀ {t : List Nat}, 10 ∈ t → gform t (some .zero) none = 10 :: mk t := fun {t} ht => by
          unfold gform
          rw [if_neg (by decide), if_pos ht, if_neg (by decide), if_neg (by decide), if_pos rfl]
        rw [w h] at f5
        rw [w h'] at g5
        rw [← f5, ← g5, me]
      · have h' : 10 ∉ e' := fun z => h (i10.mpr z)
        rw [gform_red _ _ _ h rfl] at f5 G5
        rw [gform_red _ _ _ h' rfl] at g5 G5
        rw [← f5, ← g5, G5]
    · have en : endO (some j) (some .other) = false := by cases j <;> first | rfl | exact absurd rfl kf
      have en2 : endO (some j) none = false := by cases j <;> first | rfl | exact absurd rfl kf
      have jn : joinK j .other = false := by cases j <;> first | rfl | exact absurd rfl kz
      have rd : ∀ {t : List Nat}, gform t (some j) none = t → red t = t := fun {t} ht => by
        have e1 : gform t (some j) none = red t := by
          unfold gform red
          rw [en2, if_neg Bool.false_ne_true]
          split
          · rw [if_neg (show ¬ both (some j) none = true from Bool.false_ne_true), if_neg (by decide), if_neg (fun z => kz (Option.some.inj z))]
          · rfl
        rw [← e1, ht]
      exact gap_tells (rd f5) (rd g5) (nojoin_tells (rd f5) (rd g5) en jn G5) (join_tells (l := j) (r := .zero) (rd f5) (rd g5) (by cases j <;> first | rfl | exact absurd rfl kf) (by cases j <;> rfl) G6)
  rw [ea, ee]
end Den

namespace Den
open PySem PySem.Spec PyProof.Rows L2
theorem xtup2 {f g : Ex} {ρ ρ1 ρ2 : Env} {a b : D} (e1 : f ρ = some (.v a, ρ1)) (e2 : g ρ1 = some (.v b, ρ2)) : xTup (xCons f (xCons g xNil)) ρ = some (.v (.tup [a, b]), ρ2) := by
  simp [e1, e2, show (2 : Nat) ≤ cap by decide]
theorem xlst1 {f : Ex} {ρ ρ1 : Env} {a : D} (e1 : f ρ = some (.v a, ρ1)) (hf : fz a = a) : xFz (xLst (xCons f xNil)) ρ = some (.v (.lst [a]), ρ1) := by
  simp [e1, hf, show (1 : Nat) ≤ cap by decide]
/-! ### contexts -/
abbrev Ctx := List Nat × List Nat
def ctxD (c : Ctx) : D := .tup [.str c.1, .str c.2]
def inC (c : Ctx) (x : List U) : List U := colU c.1 ++ x ++ colU c.2
def telT (x y : List U) (c : Ctx) : Bool := decide (txt (inC c x) ≠ txt (inC c y))
theorem colU_len (t : List Nat) : (colU t).length = t.length := List.length_map ..
theorem inC_len (c : Ctx) (x : List U) : (inC c x).length = c.1.length + x.length + c.2.length := by
  unfold inC
  rw [List.length_append, List.length_append, colU_len, colU_len]
theorem us_ctx (c : Ctx) (a : Frg) : us ([(Md.col, c.1)] ++ a ++ [(Md.col, c.2)]) = inC c (us a) := by
  rw [us_app, us_app, us_one, us_one]
  rfl
theorem den_is_telling (a b : Frg) (c : Ctx) (la : (us a).length < 40000) (lb : (us b).length < 40000) (lc : c.1.length + c.2.length < 1000) (fa : a.length < 100000) (fb : b.length < 100000) : d_is_telling [.lst (a.map encR), .lst (b.map encR), ctxD c] = some (.v (.bl (telT (us a) (us b) c)), [.lst (a.map encR), .lst (b.map encR), ctxD c]) := by
  let E0 : Env := [some (.lst (a.map encR)), some (.lst (b.map encR)), some (ctxD c), none, none, none, none]
  let E1 : Env := [some (.lst (a.map encR)), some (.lst (b.map encR)), some (ctxD c), some (.str c.1), some (.str c.2), none, none]
  let E2 : Env := [some (.lst (a.map encR)), some (.lst (b.map encR)), some (ctxD c), some (.str c.1), some (.str c.2), some (.lst ([(Md.col, c.1)].map encR)), none]
  let E3 : Env := [some (.lst (a.map encR)), some (.lst (b.map encR)), some (ctxD c), some (.str c.1), some (.str c.2), some (.lst ([(Md.col, c.1)].map encR)), some (.lst ([(Md.col, c.2)].map encR))]
  have k1 : sAsg (xVar 2) (gA 2 (gsCons (gN 3) (gsCons (gN 4) gsNil))) E0 = some (.nx E1) := rfl
  have l1 : ∀ (t : List Nat) (i : Nat) (ρ : Env), gt ρ i = some (.str t) → xFz (xLst (xCons (xTup (xCons (xC (.str [99, 111, 108, 108, 97, 112, 115, 101])) (xCons (xVar i) xNil))) xNil)) ρ = some (.v (.lst ([(Md.col, t)].map encR)), ρ) := by
    intro t i ρ h
    exact xlst1 (xtup2 (f := xC (.str [99, 111, 108, 108, 97, 112, 115, 101])) rfl (xvar_f (ρ := ρ) h)) (fz_tup _)
  have k2 := sset_v (i := 5) (l1 c.1 3 E1 rfl)
  have k3 := sset_v (i := 6) (l1 c.2 4 E2 rfl)
  have sh : ∀ (f : Frg) (i : Nat), gt E3 i = some (.lst (f.map encR)) → (us f).length < 40000 → f.length < 100000 → xOp dIx (xCallV 1 d_shown (xCons (xOp dAdd (xOp dAdd (xVar 5) (xVar i)) (xVar 6)) xNil)) (xC (.int 0)) E3 = some (.v (.str (txt (inC c (us f)))), E3) := by
    intro f i h hf hf2
    have e := den_shown ([(Md.col, c.1)] ++ f ++ [(Md.col, c.2)]) (by rw [us_ctx, inC_len]; omega)
    rw [us_ctx, List.map_append, List.map_append] at e
    have s1 := xop_v (o := dAdd) (xvar_f (i := 5) (ρ := E3) (d := .lst ([(Md.col, c.1)].map encR)) rfl) (xvar_f (i := i) h) (add_lst (nats_le2 (by rw [List.length_map, List.length_map]; simp; omega)))
    have s2 := xop_v (o := dAdd) s1 (xvar_f (i := 6) (ρ := E3) (d := .lst ([(Md.col, c.2)].map encR)) rfl) (add_lst (nats_le2 (by rw [List.length_append, List.length_map, List.length_map, List.length_map]; simp; omega)))
    exact xop_v (xcall1 s2 e) rfl rfl
  refine dn_rt E0 rfl rfl (r := .v (.bl (telT (us a) (us b) c))) (ρ := E3) ?_ rfl rfl
  unfold b_is_telling
  rw [sseq_nx k1, sseq_nx (ρ' := E2) k2, sseq_nx (ρ' := E3) k3]
  refine sret_v (xop_v (sh a 0 rfl la fa) (sh b 1 rfl lb fb) ?_)
  rw [dNe_str]
  unfold telT
  simp
def nineC : List Ctx := [([], []), ([97], []), ([94], []), ([97, 32], []), ([], [97]), ([], [94]), ([], [32, 97]), ([97], [97]), ([94], [97])]
theorem nineC_len : ∀ c ∈ nineC, c.1.length + c.2.length < 1000 := by decide
def telB : Es := (sIf (qTru (xCallV 3 d_is_telling (xCons (xVar 0) (xCons (xVar 1) (xCons (xVar 2) xNil)))))
  (sRet (xVar 2))
  sNil)
theorem tel_eq : b_telling = (sSeq (sFor (iA (xC (.tup (nineC.map ctxD)))) (gN 2) telB) (sRet (xC .non))) := rfl
def optD : Option Ctx → D
  | none => .non
  | some c => ctxD c
theorem tel_loop (a b : Frg) (la : (us a).length < 40000) (lb : (us b).length < 40000) (fa : a.length < 100000) (fb : b.length < 100000) : ∀ (l : List Ctx) (x : Option D), (∀ c ∈ l, c.1.length + c.2.length < 1000) → match l.filter (telT (us a) (us b)) with
    | [] => ∃ x', forL (gN 2) telB (l.map ctxD) [some (.lst (a.map encR)), some (.lst (b.map encR)), x] = some (.nx [some (.lst (a.map encR)), some (.lst (b.map encR)), x'])
    | c :: _ => forL (gN 2) telB (l.map ctxD) [some (.lst (a.map encR)), some (.lst (b.map encR)), x] = some (.rt (.v (ctxD c)) [some (.lst (a.map encR)), some (.lst (b.map encR)), some (ctxD c)])
  | [], x, _ => ⟨x, rfl⟩
  | c :: l, x, h => by
    have e := den_is_telling a b c la lb (h c (List.mem_cons_self ..)) fa fb
    let E : Env := [some (.lst (a.map encR)), some (.lst (b.map encR)), some (ctxD c)]
    have t : qTru (xCallV 3 d_is_telling (xCons (xVar 0) (xCons (xVar 1) (xCons (xVar 2) xNil)))) E = some (telT (us a) (us b) c, E) := by
      rw [qTru_eq, xcall3 (xvar_f (i := 0) (d := .lst (a.map encR)) rfl) (xvar_f (i := 1) (d := .lst (b.map encR)) rfl) (xvar_f (i := 2) (d := ctxD c) rfl) e]
      rfl
    have g1 : gN 2 (ctxD c) [some (.lst (a.map encR)), some (.lst (b.map encR)), x] = some E := rfl
    cases q : telT (us a) (us b) c
    · rw [List.filter_cons_of_neg (by rw [q]; decide)]
      have ih := tel_loop a b la lb fa fb l (some (ctxD c)) fun d hd => h d (List.mem_cons_of_mem _ hd)
      rw [q] at t
      have st : telB E = some (.nx E) := by unfold telB; rw [sif_f t]; rfl
      rw [List.map_cons, forL_nx g1 st]
      exact ih
    · rw [List.filter_cons_of_pos q]
      rw [q] at t
      have st : telB E = some (.rt (.v (ctxD c)) E) := by unfold telB; rw [sif_t t]; rfl
      exact forL_rt g1 st
theorem den_telling (a b : Frg) (la : (us a).length < 40000) (lb : (us b).length < 40000) (fa : a.length < 100000) (fb : b.length < 100000) : d_telling [.lst (a.map encR), .lst (b.map encR)] = some (.v (optD (nineC.filter (telT (us a) (us b))).head?), [.lst (a.map encR), .lst (b.map encR)]) := by
  have e := tel_loop a b la lb fa fb nineC none nineC_len
  let E0 : Env := [some (.lst (a.map encR)), some (.lst (b.map encR)), none]
  have hi : iA (xC (.tup (nineC.map ctxD))) E0 = some (nineC.map ctxD, E0) := rfl
  cases q : nineC.filter (telT (us a) (us b)) with
  | nil =>
    rw [q] at e
    obtain ⟨x', e⟩ := e
    refine dn_rt E0 rfl rfl (r := .v .non) (ρ := [some (.lst (a.map encR)), some (.lst (b.map encR)), x']) ?_ rfl rfl
    rw [tel_eq, sSeq_eq, sFor_eq, hi, Option.bind_some]
    dsimp only
    rw [e]
    rfl
  | cons c r =>
    rw [q] at e
    refine dn_rt E0 rfl rfl (r := .v (ctxD c)) (ρ := [some (.lst (a.map encR)), some (.lst (b.map encR)), some (ctxD c)]) ?_ rfl rfl
    rw [tel_eq, sSeq_eq, sFor_eq, hi, Option.bind_some]
    dsimp only
    rw [e]
    rfl
/-! the law's -/
theorem col_lc (t : List Nat) (f : Ex) (ρ : Env) (hf : f ρ = some (.v (.str t), ρ)) (ht : t.length ≤ cap) (hw : wipeD ρ [2] = ρ) (h2 : ∀ d, gt (ρ.set 2 (some d)) 2 = some d) (hw2 : ∀ d, wipeD (ρ.set 2 (some d)) [2] = ρ) : xFz (xLc (iA f) (gN 2) qYes (xTup (xCons (xC (.str [99, 111, 108, 108, 97, 112, 115, 101])) (xCons (xVar 2) xNil))) [2]) ρ = some (.v (.lst ((colU t).map U.d)), ρ) := by
  have l := lcA1 (f := f) (g := gN 2) (e := xTup (xCons (xC (.str [99, 111, 108, 108, 97, 112, 115, 101])) (xCons (xVar 2) xNil))) (vs := [2]) (ρ := ρ) (fun c : Nat => D.str [c]) (fun c => U.d (.col, c)) t hf rfl hw (fun c _ => ⟨_, rfl, by
    exact xtup2 (f := xC (.str [99, 111, 108, 108, 97, 112, 115, 101])) rfl (xvar_f (ρ := ρ.set 2 (some (.str [c]))) (h2 (.str [c]))), hw2 _⟩) (fun c => fz_U _) ht
  rw [l]
  unfold colU
  rw [List.map_map]
  rfl
theorem den_law_within (x : List U) (c : Ctx) (hx : x.length < 40000) (lc : c.1.length + c.2.length < 1000) : d_law_within [.lst (x.map U.d), ctxD c] = some (.v (.str (txt (inC c x))), [.lst (x.map U.d), ctxD c]) := by
  let E : Env := [some (.lst (x.map U.d)), some (ctxD c), none]
  have f1 : xOp dIx (xVar 1) (xC (.int 0)) E = some (.v (.str c.1), E) := rfl
  have f2 : xOp dIx (xVar 1) (xC (.int 1)) E = some (.v (.str c.2), E) := rfl
  have l1 := col_lc c.1 _ E f1 (nats_le2 (by omega)) rfl (fun _ => rfl) (fun _ => rfl)
  have l2 := col_lc c.2 _ E f2 (nats_le2 (by omega)) rfl (fun _ => rfl) (fun _ => rfl)
  have e := den_law_shown (inC c x) (by rw [inC_len]; omega)
  have s1 := xop_v (o := dAdd) l1 (xvar_f (i := 0) (ρ := E) (d := .lst (x.map U.d)) rfl) (add_u (by rw [colU_len]; omega))
  have s2 := xop_v (o := dAdd) s1 l2 (add_u (by rw [List.length_append, colU_len, colU_len]; omega))
  refine dn_rt E rfl rfl (r := .v (.str (txt (inC c x)))) (ρ := E) ?_ rfl rfl
  exact sret_v (xop_v (xcall1 s2 e) rfl rfl)
theorem den_law_contexts : d_law_contexts [] = some (.v (.lst (nineC.map ctxD)), []) := by
  rfl
end Den

namespace Den
open PySem PySem.Spec PyProof.Rows L2
/-! ### drawn units nearby, drawn texts -/
theorem xcallL0 {den : Dn} {i : Nat} {ρ : Env} {is : List Int} {z : Int} {b' : D} {r : R} {es : List D} (h : gt ρ i = some (bx is z)) (hd : den [bx is z] = some (r, b' :: es)) : xCallL 1 den i xNil ρ = some (r, ρ.set i (some b')) := by
  rw [xCallL_eq, lV_bx h, Option.bind_some, xNil_eq]
  simp [-gt_eq, h, hd]
theorem modNat (a b : Nat) (h : 0 < b) : dMod (.int (a : Nat)) (.int (b : Nat)) = some (iD (a % b)) := by
  show (if (0 : Int) < (b : Int) then some (D.int ((a : Int) % (b : Int))) else none) = _
  rw [if_pos (by omega)]
  rfl
theorem mul_lst {s : List D} {k : Nat} (hk : k < 1000) (hs : s.length * k ≤ 300000) : dMul (.lst s) (iD k) = some (.lst (List.replicate k s).flatten) := by
  show (if small (k : Int) && decide (s.length * (k : Int).toNat ≤ cap) then some (D.lst (List.replicate (k : Int).toNat s).flatten) else none) = _
  rw [small_nat k (by omega), Int.toNat_natCast, decide_eq_true (nats_le2 hs)]
  rfl
theorem sl_toLL {s : List D} (k : Nat) : dSl (.lst s) none (some (k : Int)) = some (.lst (s.take k)) := by
  show some (D.lst (cutL s none (some (k : Int)))) = _
  unfold cutL
  rw [HT.sIx_none, HT.sIx_nat, List.drop_zero, Nat.sub_zero]
  by_cases h : k ≤ s.length
  · rw [Nat.min_eq_left h]
  · rw [Nat.min_eq_right (by omega), List.take_of_length_le (Nat.le_refl _), List.take_of_length_le (by omega)]
theorem sl_fromLL {s : List D} (k : Nat) : dSl (.lst s) (some (k : Int)) none = some (.lst (s.drop k)) := by
  show some (D.lst (cutL s (some (k : Int)) none)) = _
  unfold cutL
  rw [HT.sIx_none, HT.sIx_nat]
  by_cases h : k ≤ s.length
  · rw [Nat.min_eq_left h, List.take_of_length_le (by rw [List.length_drop]; omega)]
  · rw [Nat.min_eq_right (by omega), List.drop_length, List.drop_eq_nil_of_le (by omega), List.take_nil]
def nrE (is : List Int) (z : Int) (x y : List U) (t a u : Option D) : Env := [some (bx is z), some (.lst (x.map U.d)), some (.lst (y.map U.d)), t, a, u]
def nrB : Es := (sSeq (sSet 4 (xOp dMod (xCB dInt (xCons (xCallL 2 d_law_draw 0 (xCons (xC (.int 200)) xNil)) xNil)) (xOp dAdd (xCB dLen (xCons (xVar 2) xNil)) (xC (.int 1)))))
  (sSeq (sSet 5 (xTup (xCons (xOp dIx (xFz (xLst (xCons (xC (.str [99, 111, 108, 108, 97, 112, 115, 101])) (xCons (xC (.str [99, 111, 108, 108, 97, 112, 115, 101])) (xCons (xC (.str [98, 114, 101, 97, 107, 115])) (xCons (xC (.str [112, 114, 101, 115, 101, 114, 118, 101])) xNil)))))) (xCallL 2 d_law_draw 0 (xCons (xC (.int 4)) xNil))) (xCons (xOp dIx (xC (.str [32, 32, 10, 10, 124, 124, 94, 60, 65, 97])) (xCallL 2 d_law_draw 0 (xCons (xC (.int 10)) xNil))) xNil))))
  (sSet 2 (xOp dAdd (xOp dAdd (xSl dSl (xVar 2) xNo (xSome (xVar 4))) (xOp dMul (xFz (xLst (xCons (xVar 5) xNil))) (xCallL 2 d_law_draw 0 (xCons (xC (.int 2)) xNil)))) (xSl dSl (xVar 2) (xSome (xOp dAdd (xVar 4) (xCallL 2 d_law_draw 0 (xCons (xC (.int 2)) xNil)))) xNo)))))
theorem nr_eq : b_law_near = (sSeq (sSet 2 (xCB dList (xCons (xVar 1) xNil)))
  (sSeq (sFor (iR1 (xCons (xCallL 2 d_law_draw 0 (xCons (xC (.int 3)) xNil)) xNil)) (gN 3) nrB)
  (sRet (xVar 2)))) := rfl
def mdL : List Md := [.col, .col, .brk, .pre]
theorem md_draw (k : Nat) (h : k < 4) (ρ : Env) : ∃ m : Md, dIx (.lst (mdL.map fun m => D.str m.s)) (iD k) = some (.str m.s) := by
  have : k = 0 ∨ k = 1 ∨ k = 2 ∨ k = 3 := by omega
  rcases this with rfl | rfl | rfl | rfl
  · exact ⟨.col, rfl⟩
  · exact ⟨.col, rfl⟩
  · exact ⟨.brk, rfl⟩
  · exact ⟨.pre, rfl⟩
theorem md_lst (ρ : Env) : xFz (xLst (xCons (xC (.str [99, 111, 108, 108, 97, 112, 115, 101])) (xCons (xC (.str [99, 111, 108, 108, 97, 112, 115, 101])) (xCons (xC (.str [98, 114, 101, 97, 107, 115])) (xCons (xC (.str [112, 114, 101, 115, 101, 114, 118, 101])) xNil))))) ρ = some (.v (.lst (mdL.map fun m => D.str m.s)), ρ) := by
  have : xLst (xCons (xC (.str [99, 111, 108, 108, 97, 112, 115, 101])) (xCons (xC (.str [99, 111, 108, 108, 97, 112, 115, 101])) (xCons (xC (.str [98, 114, 101, 97, 107, 115])) (xCons (xC (.str [112, 114, 101, 115, 101, 114, 118, 101])) xNil)))) ρ = some (.own (.own (mdL.map fun m => D.str m.s)), ρ) := rfl
  rw [xFz_eq, this, Option.bind_some, fzK_own, fz_own]
  simp [mdL]
theorem repU (k : Nat) (u : U) : (List.replicate k [u.d]).flatten = ((List.replicate k u).map U.d) := by
  induction k with
  | zero => rfl
  | succ k ih => rw [List.replicate_succ, List.flatten_cons, ih, List.replicate_succ, List.map_cons]; rfl
theorem nr_st (is : List Int) (z : Int) (hz : 0 ≤ z) (x y : List U) (hy : y.length ≤ 1000) (uy : uok y) (t a u : Option D) : ∃ (y' : List U) (z' : Int) (a' u' : Option D), nrB (nrE is z x y t a u) = some (.nx (nrE is z' x y' t a' u')) ∧ 0 ≤ z' ∧ y'.length ≤ y.length + 1 ∧ uok y' := by
  obtain ⟨r1, h1, e1⟩ := lend_drN 200 (by omega) is z hz
  have c1 := e1 0 (xC (.int 200)) (nrE is z x y t a u) rfl rfl
  let at' := r1 % (y.length + 1)
  have k1 : sSet 4 (xOp dMod (xCB dInt (xCons (xCallL 2 d_law_draw 0 (xCons (xC (.int 200)) xNil)) xNil)) (xOp dAdd (xCB dLen (xCons (xVar 2) xNil)) (xC (.int 1)))) (nrE is z x y t a u) = some (.nx (nrE is (z + 1) x y t (some (iD at')) u)) := by
    have i := xcb1 (o := dInt) c1 (show dInt [iD r1] = some (iD r1) from rfl)
    have l := xcb1 (o := dLen) (xvar_f (i := 2) (ρ := nrE is (z + 1) x y t a u) (d := .lst (y.map U.d)) rfl) (len_lst _)
    rw [List.length_map] at l
    have ad := xop_v (o := dAdd) (g := xC (.int 1)) l rfl (add_nat _ 1)
    exact sset_v (xop_v i ad (modNat _ _ (by omega)))
  obtain ⟨r2, h2, e2⟩ := lend_drN 4 (by omega) is (z + 1) (by omega)
  obtain ⟨r3, h3, e3⟩ := lend_drN 10 (by omega) is (z + 1 + 1) (by omega)
  obtain ⟨r4, h4, e4⟩ := lend_drN 2 (by omega) is (z + 1 + 1 + 1) (by omega)
  obtain ⟨r5, h5, e5⟩ := lend_drN 2 (by omega) is (z + 1 + 1 + 1 + 1) (by omega)
  let E (z : Int) (u : Option D) := nrE is z x y t (some (iD at')) u
  have c2 := e2 0 (xC (.int 4)) (E (z + 1) u) rfl rfl
  have c3 := e3 0 (xC (.int 10)) (E (z + 1 + 1) u) rfl rfl
  obtain ⟨m, im⟩ := md_draw r2 h2 []
  obtain ⟨c, hc, ix⟩ := ix_strN (s := [32, 32, 10, 10, 124, 124, 94, 60, 65, 97]) (k := r3) h3 (by decide)
  have hc : c < 128 := by simp at hc; omega
  have f1 := xop_v (o := dIx) (md_lst (E (z + 1) u)) c2 im
  have f2 := xop_v (o := dIx) (f := xC (.str [32, 32, 10, 10, 124, 124, 94, 60, 65, 97])) (ρ := E (z + 1 + 1) u) rfl c3 ix
  have k2 := sset_v (i := 5) (xtup2 f1 f2)
  let w : U := (m, c)
  let E2 (z : Int) := E z (some w.d)
  have c4 := e4 0 (xC (.int 2)) (E2 (z + 1 + 1 + 1)) rfl rfl
  have c5 := e5 0 (xC (.int 2)) (E2 (z + 1 + 1 + 1 + 1)) rfl rfl
  have s1 := xsl_v (o := dSl) (xvar_f (i := 2) (ρ := E2 (z + 1 + 1 + 1)) (d := .lst (y.map U.d)) rfl) (xno_v _) (xsome_v (xvar_f (i := 4) (ρ := E2 (z + 1 + 1 + 1)) (d := iD at') rfl)) (sl_toLL at')
  have l1 := xlst1 (xvar_f (i := 5) (ρ := E2 (z + 1 + 1 + 1)) (d := w.d) rfl) (fz_U w)
  have m1 := xop_v (o := dMul) l1 c4 (mul_lst (by omega) (by simp; omega))
  rw [repU] at m1
  have a1 := xop_v (o := dAdd) (xvar_f (i := 4) (ρ := E2 (z + 1 + 1 + 1 + 1)) (d := iD at') rfl) c5 (add_nat _ _)
  have s2 := xsl_v (o := dSl) (xvar_f (i := 2) (ρ := E2 (z + 1 + 1 + 1 + 1)) (d := .lst (y.map U.d)) rfl) (xsome_v a1) (xno_v _) (sl_fromLL (at' + r5))
  rw [show (y.map U.d).take at' = (y.take at').map U.d by rw [List.map_take]] at s1
  rw [show (y.map U.d).drop (at' + r5) = (y.drop (at' + r5)).map U.d by rw [List.map_drop]] at s2
  have hat : at' ≤ y.length := by have := Nat.mod_lt r1 (show 0 < y.length + 1 by omega); omega
  have n1 : (y.take at').length = at' := by rw [List.length_take]; omega
  have n2 : (y.drop (at' + r5)).length = y.length - (at' + r5) := List.length_drop ..
  have n3 : (List.replicate r4 w).length = r4 := List.length_replicate ..
  let y' := y.take at' ++ List.replicate r4 w ++ y.drop (at' + r5)
  have k3 := sset_v (i := 2) (xop_v (o := dAdd) (xop_v (o := dAdd) s1 m1 (add_u (by omega))) s2 (add_u (by rw [List.length_append]; omega)))
  refine ⟨y', z + 1 + 1 + 1 + 1 + 1, some (iD at'), some w.d, ?_, by omega, ?_, ?_⟩
  · unfold nrB
    rw [sseq_nx k1, sseq_nx (ρ' := E2 (z + 1 + 1 + 1)) k2]
    exact k3
  · show (y.take at' ++ List.replicate r4 w ++ y.drop (at' + r5)).length ≤ _
    rw [List.length_append, List.length_append]
    omega
  · refine uok_app (uok_app (uok_take uy _) (fun v hv => ?_)) (uok_drop uy _)
    rw [List.eq_of_mem_replicate hv]
    show c < _
    omega
theorem nr_loop (is : List Int) (x : List U) : ∀ (l : List Nat) (z : Int) (y : List U) (t a u : Option D), 0 ≤ z → y.length + l.length ≤ 1000 → uok y → ∃ (y' : List U) (z' : Int) (t' a' u' : Option D), forL (gN 3) nrB (l.map iD) (nrE is z x y t a u) = some (.nx (nrE is z' x y' t' a' u')) ∧ 0 ≤ z' ∧ y'.length ≤ y.length + l.length ∧ uok y'
  | [], z, y, t, a, u, hz, _, uy => ⟨y, z, t, a, u, rfl, hz, by simp, uy⟩
  | j :: l, z, y, t, a, u, hz, hl, uy => by
    rw [List.length_cons] at hl
    obtain ⟨y1, z1, a1, u1, e1, h1, h2, h3⟩ := nr_st is z hz x y (by omega) uy (some (iD j)) a u
    obtain ⟨y2, z2, t2, a2, u2, e2, h4, h5, h6⟩ := nr_loop is x l z1 y1 (some (iD j)) a1 u1 h1 (by omega) h3
    refine ⟨y2, z2, t2, a2, u2, ?_, h4, by rw [List.length_cons]; omega, h6⟩
    have g1 : gN 3 (iD j) (nrE is z x y t a u) = some (nrE is z x y (some (iD j)) a u) := rfl
    rw [List.map_cons, forL_nx g1 e1]
    exact e2
theorem den_law_near (is : List Int) (z : Int) (hz : 0 ≤ z) (x : List U) (hx : x.length ≤ 900) (ux : uok x) : ∃ (y : List U) (z' : Int), d_law_near [bx is z, .lst (x.map U.d)] = some (.v (.lst (y.map U.d)), [bx is z', .lst (x.map U.d)]) ∧ 0 ≤ z' ∧ y.length ≤ x.length + 2 ∧ uok y := by
  obtain ⟨n, hn, e1⟩ := lend_drN 3 (by omega) is z hz
  obtain ⟨y, z', t, a, u, e, hz', ly, uy⟩ := nr_loop is x (List.range n) (z + 1) x none none none (by omega) (by rw [List.length_range]; omega) ux
  rw [List.length_range] at ly
  let E0 : Env := [some (bx is z), some (.lst (x.map U.d)), none, none, none, none]
  have k1 : sSet 2 (xCB dList (xCons (xVar 1) xNil)) E0 = some (.nx (nrE is z x x none none none)) := sset_v (xcb1 (o := dList) (xvar_f (i := 1) (d := .lst (x.map U.d)) rfl) rfl)
  have c1 := e1 0 (xC (.int 3)) (nrE is z x x none none none) rfl rfl
  have k2 : sFor (iR1 (xCons (xCallL 2 d_law_draw 0 (xCons (xC (.int 3)) xNil)) xNil)) (gN 3) nrB (nrE is z x x none none none) = some (.nx (nrE is z' x y t a u)) := by
    rw [sFor_eq, iR1_draw c1 (by omega)]
    exact e
  refine ⟨y, z', ?_, hz', by omega, uy⟩
  refine dn_rt E0 rfl rfl (r := .v (.lst (y.map U.d))) (ρ := nrE is z' x y t a u) ?_ rfl rfl
  rw [nr_eq, sseq_nx k1, sseq_nx k2]
  rfl
def txX : Ex := (xBM "str" dJoin (xC (.str [])) (xCons (xFz (xLc (iR1 (xCons (xCallL 2 d_law_draw 0 (xCons (xC (.int 5)) xNil)) xNil)) (gN 1) qYes (xOp dIx (xC (.str [32, 10, 124, 94, 60, 62, 65, 97, 98])) (xCallL 2 d_law_draw 0 (xCons (xC (.int 9)) xNil))) [1])) xNil))
theorem den_law_text (is : List Int) (z : Int) (hz : 0 ≤ z) : ∃ (x : List Nat) (z' : Int), d_law_text [bx is z] = some (.v (.str x), [bx is z']) ∧ 0 ≤ z' ∧ x.length ≤ 4 ∧ ∀ c ∈ x, c < 128 := by
  let E (z : Int) (k : Option D) : Env := [some (bx is z), k]
  obtain ⟨n, hn, e1⟩ := lend_drN 5 (by omega) is z hz
  have hi := iR1_draw (e1 0 (xC (.int 5)) (E z none) rfl rfl) (by omega)
  obtain ⟨ds, ρ', e3, ⟨z', rfl, hz'⟩, l3, q3⟩ := lcL_inv (g := gN 1) (e := xOp dIx (xC (.str [32, 10, 124, 94, 60, 62, 65, 97, 98])) (xCallL 2 d_law_draw 0 (xCons (xC (.int 9)) xNil))) (vs := [1]) iD (fun ρ => ∃ z', ρ = E z' none ∧ 0 ≤ z') (fun v => ∃ c : Nat, v = .str [c] ∧ c < 128) (List.range n) (E (z + 1) none) ⟨_, rfl, by omega⟩ (by
    rintro k ρ hk ⟨z2, rfl, hz2⟩
    obtain ⟨r, hr, f2⟩ := lend_drN 9 (by omega) is z2 hz2
    obtain ⟨c, hc, ix⟩ := ix_strN (s := [32, 10, 124, 94, 60, 62, 65, 97, 98]) (k := r) hr (by decide)
    refine ⟨E z2 (some (iD k)), E (z2 + 1) (some (iD k)), .str [c], rfl, xop_v rfl (f2 0 (xC (.int 9)) (E z2 (some (iD k))) rfl rfl) ix, ⟨c, rfl, by simp at hc; omega⟩, z2 + 1, rfl, by omega⟩)
  obtain ⟨x, rfl, hx⟩ := list_enc (enc := fun c : Nat => D.str [c]) ds q3
  rw [List.length_map, List.length_range] at l3
  refine ⟨x, z', ?_, hz', by omega, hx⟩
  have lc : xFz (xLc (iR1 (xCons (xCallL 2 d_law_draw 0 (xCons (xC (.int 5)) xNil)) xNil)) (gN 1) qYes (xOp dIx (xC (.str [32, 10, 124, 94, 60, 62, 65, 97, 98])) (xCallL 2 d_law_draw 0 (xCons (xC (.int 9)) xNil))) [1]) (E z none) = some (.v (.lst (x.map fun c => .str [c])), E z' none) := by
    rw [xFz_eq]
    unfold xLc
    rw [hi, Option.bind_some]
    show (Option.bind ((lcL _ _ _ _ ((List.range n).map iD) (E (z + 1) none)).bind _) fzK) = _
    rw [e3, Option.bind_some, if_pos (by rw [List.length_map]; exact nats_le2 (by omega)), Option.bind_some, fzK_own, fz_own, List.map_map]
    rw [show fz ∘ (fun c : Nat => D.str [c]) = fun c : Nat => D.str [c] from funext fun c => fz_str _]
  exact dn_rt (E z none) rfl rfl (r := .v (.str x)) (ρ := E z' none) (sret_v (join_v' lc (nats_le2 (by omega)))) rfl rfl
end Den

namespace Den
open PySem PySem.Spec PyProof.Rows L2
/-! ### telling -/
theorem nine_eq : nine = nineC.map fun c => (nf (colU c.1), nf (colU c.2)) := by
  show nine = [(nf (colU []), nf (colU [])), (nf (colU [97]), nf (colU [])), (nf (colU [94]), nf (colU [])), (nf (colU [97, 32]), nf (colU [])), (nf (colU []), nf (colU [97])), (nf (colU []), nf (colU [94])), (nf (colU []), nf (colU [32, 97])), (nf (colU [97]), nf (colU [97])), (nf (colU [94]), nf (colU [97]))]
  rw [nf_c0, nf_cA, nf_cZ, nf_cAs, nf_csA]
  rfl
theorem tel_alike {x y : List U} (h : nf x = nf y) (c : Ctx) : telT x y c = false := by
  unfold telT inC
  rw [txt_ctx, txt_ctx, h]
  simp
theorem tel_none {x y : List U} (h : nineC.filter (telT x y) = []) : nf x = nf y := by
  refine nine_tell (nf_isNF x) (nf_isNF y) fun p hp => ?_
  rw [nine_eq] at hp
  obtain ⟨c, hc, rfl⟩ := List.mem_map.mp hp
  have := List.filter_eq_nil_iff.mp h c hc
  unfold telT inC at this
  rw [txt_ctx, txt_ctx] at this
  simpa using this
theorem alike_iff (x y : List U) : decide (nf x = nf y) = decide (nineC.filter (telT x y) = []) := by
  refine decide_eq_decide.mpr ⟨fun h => ?_, tel_none⟩
  exact List.filter_eq_nil_iff.mpr fun c _ => by rw [tel_alike h c]; decide
theorem gd_ctx : Gd (fun c : Ctx => sok c.1 ∧ sok c.2) ctxD 1 := gd_str.tup2 gd_str
theorem nine_sok : ∀ c ∈ nineC, sok c.1 ∧ sok c.2 := by
  have : ∀ c ∈ nineC, (∀ d ∈ c.1, d < 1114112) ∧ ∀ d ∈ c.2, d < 1114112 := by decide
  exact this
theorem opt_ne {o : Option Ctx} (h : ∀ c, o = some c → sok c.1 ∧ sok c.2) : dNe (optD o) (optD o) = some (.bl false) := by
  cases o with
  | none => rfl
  | some c =>
    have := gd_ctx.dNe (by omega) (h c rfl) (h c rfl) rfl
    rw [show decide (c ≠ c) = false by simp] at this
    exact this
def notBool (i : Nat) : Et := (qNot (qTru (xCB dIsi (xCons (xVar i) (xCons (xC (.ty "bool")) xNil)))))
theorem notBool_f {i : Nat} {ρ : Env} {b : Bool} (h : gt ρ i = some (.bl b)) : notBool i ρ = some (false, ρ) := by
  have e : xCB dIsi (xCons (xVar i) (xCons (xC (.ty "bool")) xNil)) ρ = some (.v (.bl true), ρ) := xcb2 (xvar_f h) rfl rfl
  unfold notBool
  rw [qNot_eq, qTru_eq, e]
  rfl
theorem ne_bl (a b : Bool) : dNe (.bl a) (.bl b) = some (.bl (decide (a ≠ b))) := by cases a <;> cases b <;> rfl
theorem eq_bl (a b : Bool) : dEq (.bl a) (.bl b) = some (.bl (decide (a = b))) := by cases a <;> cases b <;> rfl

/-! ### drawn parts -/
def fgood (a : Frg) : Prop := fok a ∧ (us a).length ≤ 200 ∧ a.length ≤ 400
theorem fgood_tidy {x : List U} (ux : uok x) (hx : x.length ≤ 200) : fgood (tidyR x) := ⟨fok_tidy ux, by rw [us_tidyR]; exact hx, Nat.le_trans (tidyR_len x) (by omega)⟩
theorem den_law_part (is : List Int) (z : Int) (hz : 0 ≤ z) : ∃ (x : List U) (z' : Int), d_law_part [bx is z] = some (.v (.lst ((tidyR x).map encR)), [bx is z']) ∧ 0 ≤ z' ∧ x.length ≤ 80 ∧ uok x := by
  obtain ⟨z1, f1, hz1, a1, b1, c1⟩ := lend_frag 7 (by omega) (by omega) is z hz
  obtain ⟨l1, o1⟩ := frag_facts (by omega) a1 b1
  have u1 := den_law_units f1 (nats_le2 (by omega))
  refine ⟨us f1, z1, ?_, hz1, l1, uok_us o1⟩
  refine dn_rt [some (bx is z)] rfl rfl (r := .v (.lst ((tidyR (us f1)).map encR))) (ρ := [some (bx is z1)]) ?_ rfl rfl
  exact sret_v (xcall1 (xcall1 (c1 0 (xC (.int 7)) [some (bx is z)] rfl rfl) u1) (den_law_tidy _ (by omega)))
def md5 : List Md := [.col, .col, .col, .brk, .pre]
theorem md_draw5 (k : Nat) (h : k < 5) : ∃ m : Md, dIx (.lst (md5.map fun m => D.str m.s)) (iD k) = some (.str m.s) := by
  have : k = 0 ∨ k = 1 ∨ k = 2 ∨ k = 3 ∨ k = 4 := by omega
  rcases this with rfl | rfl | rfl | rfl | rfl
  · exact ⟨.col, rfl⟩
  · exact ⟨.col, rfl⟩
  · exact ⟨.col, rfl⟩
  · exact ⟨.brk, rfl⟩
  · exact ⟨.pre, rfl⟩
theorem md_lst5 (ρ : Env) : xFz (xLst (xCons (xC (.str [99, 111, 108, 108, 97, 112, 115, 101])) (xCons (xC (.str [99, 111, 108, 108, 97, 112, 115, 101])) (xCons (xC (.str [99, 111, 108, 108, 97, 112, 115, 101])) (xCons (xC (.str [98, 114, 101, 97, 107, 115])) (xCons (xC (.str [112, 114, 101, 115, 101, 114, 118, 101])) xNil)))))) ρ = some (.v (.lst (md5.map fun m => D.str m.s)), ρ) := by
  have : xLst (xCons (xC (.str [99, 111, 108, 108, 97, 112, 115, 101])) (xCons (xC (.str [99, 111, 108, 108, 97, 112, 115, 101])) (xCons (xC (.str [99, 111, 108, 108, 97, 112, 115, 101])) (xCons (xC (.str [98, 114, 101, 97, 107, 115])) (xCons (xC (.str [112, 114, 101, 115, 101, 114, 118, 101])) xNil))))) ρ = some (.own (.own (md5.map fun m => D.str m.s)), ρ) := rfl
  rw [xFz_eq, this, Option.bind_some, fzK_own, fz_own]
  simp [md5]
theorem den_law_short_part (is : List Int) (z : Int) (hz : 0 ≤ z) : ∃ (m : Md) (x : List Nat) (z' : Int), d_law_short_part [bx is z] = some (.v (.lst ([(m, x)].map encR)), [bx is z']) ∧ 0 ≤ z' ∧ x.length ≤ 3 ∧ ∀ c ∈ x, c < 128 := by
  let E (z : Int) (t k : Option D) : Env := [some (bx is z), t, k]
  obtain ⟨n, hn, e1⟩ := lend_drN 4 (by omega) is z hz
  have hi := iR1_draw (e1 0 (xC (.int 4)) (E z none none) rfl rfl) (by omega)
  obtain ⟨ds, ρ', e3, ⟨z', rfl, hz'⟩, l3, q3⟩ := lcL_inv (g := gN 2) (e := xOp dIx (xC (.str [32, 32, 10, 10, 124, 94, 60, 65, 97])) (xCallL 2 d_law_draw 0 (xCons (xC (.int 9)) xNil))) (vs := [2]) iD (fun ρ => ∃ z', ρ = E z' none none ∧ 0 ≤ z') (fun v => ∃ c : Nat, v = .str [c] ∧ c < 128) (List.range n) (E (z + 1) none none) ⟨_, rfl, by omega⟩ (by
    rintro k ρ hk ⟨z2, rfl, hz2⟩
    obtain ⟨r, hr, f2⟩ := lend_drN 9 (by omega) is z2 hz2
    obtain ⟨c, hc, ix⟩ := ix_strN (s := [32, 32, 10, 10, 124, 94, 60, 65, 97]) (k := r) hr (by decide)
    refine ⟨E z2 none (some (iD k)), E (z2 + 1) none (some (iD k)), .str [c], rfl, xop_v rfl (f2 0 (xC (.int 9)) (E z2 none (some (iD k))) rfl rfl) ix, ⟨c, rfl, by simp at hc; omega⟩, z2 + 1, rfl, by omega⟩)
  obtain ⟨x, rfl, hx⟩ := list_enc (enc := fun c : Nat => D.str [c]) ds q3
  rw [List.length_map, List.length_range] at l3
  obtain ⟨r, hr, f4⟩ := lend_drN 5 (by omega) is z' hz'
  obtain ⟨m, im⟩ := md_draw5 r hr
  refine ⟨m, x, z' + 1, ?_, by omega, by omega, hx⟩
  have lc : xFz (xLc (iR1 (xCons (xCallL 2 d_law_draw 0 (xCons (xC (.int 4)) xNil)) xNil)) (gN 2) qYes (xOp dIx (xC (.str [32, 32, 10, 10, 124, 94, 60, 65, 97])) (xCallL 2 d_law_draw 0 (xCons (xC (.int 9)) xNil))) [2]) (E z none none) = some (.v (.lst (x.map fun c => .str [c])), E z' none none) := by
    rw [xFz_eq]
    unfold xLc
    rw [hi, Option.bind_some]
    show (Option.bind ((lcL _ _ _ _ ((List.range n).map iD) (E (z + 1) none none)).bind _) fzK) = _
    rw [e3, Option.bind_some, if_pos (by rw [List.length_map]; exact nats_le2 (by omega)), Option.bind_some, fzK_own, fz_own, List.map_map]
    rw [show fz ∘ (fun c : Nat => D.str [c]) = fun c : Nat => D.str [c] from funext fun c => fz_str _]
  have k1 := sset_v (i := 1) (join_v' lc (nats_le2 (by omega)))
  have c4 := f4 0 (xC (.int 5)) (E z' (some (.str x)) none) rfl rfl
  have t := xtup2 (xop_v (o := dIx) (md_lst5 _) c4 im) (xvar_f (i := 1) (ρ := E (z' + 1) (some (.str x)) none) (d := .str x) rfl)
  refine dn_rt (E z none none) rfl rfl (r := .v (.lst ([(m, x)].map encR))) (ρ := E (z' + 1) (some (.str x)) none) ?_ rfl rfl
  unfold b_law_short_part
  rw [sseq_nx (ρ' := E z' (some (.str x)) none) k1]
  exact sret_v (xlst1 t (fz_tup _))
theorem fgood_short {m : Md} {x : List Nat} (h : x.length ≤ 3) (hc : ∀ c ∈ x, c < 128) : fgood [(m, x)] := by
  refine ⟨fun p hp => ?_, by rw [us_one]; simp; omega, by simp⟩
  rw [List.mem_singleton.mp hp]
  exact ⟨trivial, fun c h => by have := hc c h; omega⟩
theorem xlst2 {f g : Ex} {ρ ρ1 ρ2 : Env} {a b : D} (e1 : f ρ = some (.v a, ρ1)) (e2 : g ρ1 = some (.v b, ρ2)) (hf : fz a = a) (hg : fz b = b) : xFz (xLst (xCons f (xCons g xNil))) ρ = some (.v (.lst [a, b]), ρ2) := by
  simp [e1, e2, hf, hg, show (2 : Nat) ≤ cap by decide]
theorem den_law_pair (is : List Int) (z : Int) (hz : 0 ≤ z) : ∃ (a b : Frg) (z' : Int), d_law_pair [bx is z] = some (.v (.lst [.lst (a.map encR), .lst (b.map encR)]), [bx is z']) ∧ 0 ≤ z' ∧ fgood a ∧ fgood b := by
  obtain ⟨x, z1, e1, hz1, l1, u1⟩ := den_law_part is z hz
  let A : D := .lst ((tidyR x).map encR)
  let E (z : Int) (a k : Option D) : Env := [some (bx is z), a, k]
  have x1 := xcallL0 (i := 0) (ρ := E z none none) rfl e1
  have k1 := sset_v (i := 1) x1
  obtain ⟨r, hr, f2⟩ := lend_drN 5 (by omega) is z1 hz1
  have c2 := f2 0 (xC (.int 5)) (E z1 (some A) none) rfl rfl
  have k2 := sset_v (i := 2) c2
  let E2 := E (z1 + 1) (some A) (some (iD r))
  have ga := fgood_tidy u1 (by omega)
  have tst : ∀ n : Nat, xB (xOp dEq (xVar 2) (xC (.int n))) E2 = some (decide (r = n), E2) := fun n => by
    rw [xB_eq, xop_v (xvar_f (i := 2) (d := iD r) rfl) rfl (show dEq (iD r) (.int (n : Nat)) = some (.bl (decide (r = n))) by
      show dEq (.int (r : Nat)) (.int (n : Nat)) = _
      rw [dEq_int]
      congr 2
      exact decide_eq_decide.mpr (by omega))]
    rfl
  have t0 : xB (xOp dEq (xVar 2) (xC (.int 0))) E2 = some (decide (r = 0), E2) := tst 0
  have t1 : xB (xOp dEq (xVar 2) (xC (.int 1))) E2 = some (decide (r = 1), E2) := tst 1
  have t2 : xB (xOp dEq (xVar 2) (xC (.int 2))) E2 = some (decide (r = 2), E2) := tst 2
  have v1 : ∀ ρ : Env, gt ρ 1 = some A → xVar 1 ρ = some (.v A, ρ) := fun ρ h => xvar_f h
  have run : ∀ (B : Frg) (z' : Int) (ρ : Env), b_law_pair (E z none none) = some (.rt (.v (.lst [A, .lst (B.map encR)])) ρ) → gt ρ 0 = some (bx is z') → 0 ≤ z' → fgood B → ∃ (a b : Frg) (z' : Int), d_law_pair [bx is z] = some (.v (.lst [.lst (a.map encR), .lst (b.map encR)]), [bx is z']) ∧ 0 ≤ z' ∧ fgood a ∧ fgood b := by
    intro B z' ρ hb hg hz' gB
    refine ⟨tidyR x, B, z', dn_rt (E z none none) rfl rfl hb rfl ?_, hz', ga, gB⟩
    show ((if (bx is z).flat then some (bx is z) else if W_law_pair.contains 0 then none else gt ρ 0).bind fun y => some [y]) = _
    rw [hg]
    rfl
  have nl := needed_len none x
  unfold b_law_pair at run
  rw [sseq_nx (ρ' := E z1 (some A) none) k1, sseq_nx (ρ' := E2) k2] at run
  by_cases r0 : r = 0
  · rw [decide_eq_true r0] at t0
    have es := den_shortened (tidyR x) (by rw [us_tidyR]; omega)
    rw [us_tidyR] at es
    refine run (tidyR (needed none x)) (z1 + 1) E2 ?_ rfl (by omega) (fgood_tidy (uok_needed u1) (by omega))
    refine sseq_rt ?_
    rw [sif_t t0]
    exact sret_v (xlst2 (v1 E2 rfl) (xcall1 (v1 E2 rfl) es) (fz_lst _) (fz_lst _))
  rw [decide_eq_false r0] at t0
  have k3 : ∀ F, sIf (xB (xOp dEq (xVar 2) (xC (.int 0)))) F sNil E2 = some (.nx E2) := fun F => by
    rw [sif_f t0]
    rfl
  rw [sseq_nx (k3 _)] at run
  by_cases r1 : r = 1
  · rw [decide_eq_true r1] at t1
    have en := den_normal_form (tidyR x) (by rw [us_tidyR]; omega)
    rw [us_tidyR] at en
    have tt := nf_tot x
    have es := den_stands_for (nf x) (by omega)
    refine run (tidyR (stU (nf x))) (z1 + 1) E2 ?_ rfl (by omega) (fgood_tidy (fun u hu => ?_) (by rw [stU_len]; omega))
    · refine sseq_rt ?_
      rw [sif_t t1]
      exact sret_v (xlst2 (v1 E2 rfl) (xcall1 (xcall1 (v1 E2 rfl) en) es) (fz_lst _) (fz_lst _))
    · obtain ⟨s1, s2, s3⟩ := nf_nok u1
      unfold stU at hu
      rcases List.mem_append.mp hu with hu | hu
      · rcases List.mem_append.mp hu with hu | hu
        · obtain ⟨c, hc, rfl⟩ := List.mem_map.mp hu
          exact s1 c hc
        · obtain ⟨c, hc, rfl⟩ := List.mem_map.mp hu
          exact s2 c hc
      · obtain ⟨c, hc, rfl⟩ := List.mem_map.mp hu
        exact s3 c hc
  rw [decide_eq_false r1] at t1
  have k4 : ∀ F, sIf (xB (xOp dEq (xVar 2) (xC (.int 1)))) F sNil E2 = some (.nx E2) := fun F => by
    rw [sif_f t1]
    rfl
  rw [sseq_nx (k4 _)] at run
  by_cases r2 : r = 2
  · rw [decide_eq_true r2] at t2
    obtain ⟨y, z2, e2, hz2, l2, u2⟩ := den_law_part is (z1 + 1) (by omega)
    have x2 := xcallL0 (i := 0) (ρ := E2) rfl e2
    refine run (tidyR y) z2 (E z2 (some A) (some (iD r))) ?_ rfl hz2 (fgood_tidy u2 (by omega))
    refine sseq_rt ?_
    rw [sif_t t2]
    exact sret_v (xlst2 (v1 E2 rfl) x2 (fz_lst _) (fz_lst _))
  rw [decide_eq_false r2] at t2
  have k5 : ∀ F, sIf (xB (xOp dEq (xVar 2) (xC (.int 2)))) F sNil E2 = some (.nx E2) := fun F => by
    rw [sif_f t2]
    rfl
  rw [sseq_nx (k5 _)] at run
  obtain ⟨y, z2, e2, hz2, l2, u2⟩ := den_law_near is (z1 + 1) (by omega) x (by omega) u1
  have eu := den_law_units (tidyR x) (by rw [us_tidyR]; exact nats_le2 (by omega))
  rw [us_tidyR] at eu
  have x2 := xcallL1 (i := 0) (ρ := E2) (f := xCallV 1 d_law_units (xCons (xVar 1) xNil)) rfl (xcall1 (v1 E2 rfl) eu) e2
  refine run (tidyR y) z2 (E z2 (some A) (some (iD r))) ?_ rfl hz2 (fgood_tidy u2 (by omega))
  exact sret_v (xlst2 (v1 E2 rfl) (xcall1 x2 (den_law_tidy y (by omega))) (fz_lst _) (fz_lst _))
end Den

namespace Den
open PySem PySem.Spec PyProof.Rows L2
abbrev N_law : List Str := ["script", "box", "turn", "one", "two", "alike", "context", "again", "before", "after", "texts", "small", "other", "part"]
abbrev P_law : List Str := ["script"]
abbrev W_law : List Nat := [1, 2, 3, 4, 5, 6, 7, 8, 9, 10, 11, 12]
def w_law : Es :=
  (sSeq (sAsg (xCallL 1 d_law_pair 1 xNil) (gA 2 (gsCons (gN 3) (gsCons (gN 4) gsNil))))
  (sSeq (sSet 5 (xCallV 2 d_are_alike (xCons (xVar 3) (xCons (xVar 4) xNil))))
  (sSeq (sSet 6 (xCallV 2 d_telling (xCons (xVar 3) (xCons (xVar 4) xNil))))
  (sSeq (sIf (qOr (qNot (qTru (xCB dIsi (xCons (xVar 5) (xCons (xC (.ty "bool")) xNil))))) (xB (xOp dNe (xVar 5) (xOp dIs (xVar 6) (xC .non)))))
  (sRet (xC (.bl false)))
  sNil)
  (sSeq (sIf (qAnd (xB (xOp dIsNot (xVar 6) (xC .non))) (xB (xOp dEq (xCallV 2 d_law_within (xCons (xCallV 1 d_law_units (xCons (xVar 3) xNil)) (xCons (xVar 6) xNil))) (xCallV 2 d_law_within (xCons (xCallV 1 d_law_units (xCons (xVar 4) xNil)) (xCons (xVar 6) xNil))))))
  (sRet (xC (.bl false)))
  sNil)
  (sSeq (sFor (iR1 (xCons (xC (.int 6)) xNil)) (gN 7)
  (sSeq (sSet 8 (xCallL 1 d_law_short_part 1 xNil))
  (sSeq (sSet 9 (xCallL 1 d_law_short_part 1 xNil))
  (sSeq (sSet 10 (xFz (xLc (iA (xFz (xLst (xCons (xVar 3) (xCons (xVar 4) xNil))))) (gN 13) qYes (xOp dIx (xCallV 1 d_law_shown (xCons (xCallV 1 d_law_units (xCons (xOp dAdd (xOp dAdd (xVar 8) (xVar 13)) (xVar 9)) xNil)) xNil)) (xC (.int 0))) [13])))
  (sIf (qOr (qAnd (qTru (xVar 5)) (xB (xOp dNe (xOp dIx (xVar 10) (xC (.int 0))) (xOp dIx (xVar 10) (xC (.int 1)))))) (xB (xOp dNe (xOp dIx (xCallV 1 d_shown (xCons (xOp dAdd (xOp dAdd (xVar 8) (xVar 3)) (xVar 9)) xNil)) (xC (.int 0))) (xOp dIx (xVar 10) (xC (.int 0))))))
  (sRet (xC (.bl false)))
  sNil)))))
  (sSeq (sSet 11 (xCallV 1 d_shortened (xCons (xVar 3) xNil)))
  (sSeq (sSet 12 (xCallV 1 d_stands_for (xCons (xCallV 1 d_normal_form (xCons (xVar 3) xNil)) xNil)))
  (sSeq (sIf (qOr (qNot (qTru (xCallV 2 d_are_alike (xCons (xVar 3) (xCons (xVar 11) xNil))))) (qOr (qNot (qTru (xCallV 2 d_are_alike (xCons (xVar 12) (xCons (xVar 3) xNil))))) (xB (xOp dGt (xCB dLen (xCons (xCallV 1 d_law_units (xCons (xVar 11) xNil)) xNil)) (xCB dLen (xCons (xCallV 1 d_law_units (xCons (xVar 3) xNil)) xNil))))))
  (sRet (xC (.bl false)))
  sNil)
  (sIf (xB (xOp dNe (xCB dLen (xCons (xCallV 1 d_law_units (xCons (xVar 12) xNil)) xNil)) (xCB dLen (xCons (xCallV 1 d_law_units (xCons (xVar 11) xNil)) xNil))))
  (sRet (xC (.bl false)))
  sNil))))))))))
def b_law : Es :=
  (sSeq (sSet 1 (xLst (xCons (xCallV 3 d_law_row (xCons (xVar 0) (xCons (xC (.int 0)) (xCons (xC (.int 60)) xNil)))) (xCons (xC (.int 0)) xNil))))
  (sSeq (sFor (iR1 (xCons (xC (.int 6)) xNil)) (gN 2)
  (sSeq (sAsg (xCallL 1 d_law_pair 1 xNil) (gA 2 (gsCons (gN 3) (gsCons (gN 4) gsNil))))
  (sSeq (sSet 5 (xCallV 2 d_are_alike (xCons (xVar 3) (xCons (xVar 4) xNil))))
  (sSeq (sSet 6 (xCallV 2 d_telling (xCons (xVar 3) (xCons (xVar 4) xNil))))
  (sSeq (sIf (qOr (qNot (qTru (xCB dIsi (xCons (xVar 5) (xCons (xC (.ty "bool")) xNil))))) (xB (xOp dNe (xVar 5) (xOp dIs (xVar 6) (xC .non)))))
  (sRet (xC (.bl false)))
  sNil)
  (sSeq (sIf (qAnd (xB (xOp dIsNot (xVar 6) (xC .non))) (xB (xOp dEq (xCallV 2 d_law_within (xCons (xCallV 1 d_law_units (xCons (xVar 3) xNil)) (xCons (xVar 6) xNil))) (xCallV 2 d_law_within (xCons (xCallV 1 d_law_units (xCons (xVar 4) xNil)) (xCons (xVar 6) xNil))))))
  (sRet (xC (.bl false)))
  sNil)
  (sSeq (sFor (iR1 (xCons (xC (.int 6)) xNil)) (gN 7)
  (sSeq (sSet 8 (xCallL 1 d_law_short_part 1 xNil))
  (sSeq (sSet 9 (xCallL 1 d_law_short_part 1 xNil))
  (sSeq (sSet 10 (xFz (xLc (iA (xFz (xLst (xCons (xVar 3) (xCons (xVar 4) xNil))))) (gN 13) qYes (xOp dIx (xCallV 1 d_law_shown (xCons (xCallV 1 d_law_units (xCons (xOp dAdd (xOp dAdd (xVar 8) (xVar 13)) (xVar 9)) xNil)) xNil)) (xC (.int 0))) [13])))
  (sIf (qOr (qAnd (qTru (xVar 5)) (xB (xOp dNe (xOp dIx (xVar 10) (xC (.int 0))) (xOp dIx (xVar 10) (xC (.int 1)))))) (xB (xOp dNe (xOp dIx (xCallV 1 d_shown (xCons (xOp dAdd (xOp dAdd (xVar 8) (xVar 3)) (xVar 9)) xNil)) (xC (.int 0))) (xOp dIx (xVar 10) (xC (.int 0))))))
  (sRet (xC (.bl false)))
  sNil)))))
  (sSeq (sSet 11 (xCallV 1 d_shortened (xCons (xVar 3) xNil)))
  (sSeq (sSet 12 (xCallV 1 d_stands_for (xCons (xCallV 1 d_normal_form (xCons (xVar 3) xNil)) xNil)))
  (sSeq (sIf (qOr (qNot (qTru (xCallV 2 d_are_alike (xCons (xVar 3) (xCons (xVar 11) xNil))))) (qOr (qNot (qTru (xCallV 2 d_are_alike (xCons (xVar 12) (xCons (xVar 3) xNil))))) (xB (xOp dGt (xCB dLen (xCons (xCallV 1 d_law_units (xCons (xVar 11) xNil)) xNil)) (xCB dLen (xCons (xCallV 1 d_law_units (xCons (xVar 3) xNil)) xNil))))))
  (sRet (xC (.bl false)))
  sNil)
  (sIf (xB (xOp dNe (xCB dLen (xCons (xCallV 1 d_law_units (xCons (xVar 12) xNil)) xNil)) (xCB dLen (xCons (xCallV 1 d_law_units (xCons (xVar 11) xNil)) xNil))))
  (sRet (xC (.bl false)))
  sNil)))))))))))
  (sRet (xC (.bl true)))))
def d_law : Dn := dnOf W_law P_law.length N_law.length b_law
theorem lw_eq : b_law = (sSeq (sSet 1 (xLst (xCons (xCallV 3 d_law_row (xCons (xVar 0) (xCons (xC (.int 0)) (xCons (xC (.int ((60 : Nat) : Int))) xNil)))) (xCons (xC (.int 0)) xNil)))) (sSeq (sFor (iR1 (xCons (xC (.int ((6 : Nat) : Int))) xNil)) (gN 2) w_law) (sRet (xC (.bl true))))) := rfl
/-! ### k80 -/
def lE (S : D) (is : List Int) (z : Int) (t : Nat) (a b c d e f g h i j k : Option D) : Env := [some S, some (bx is z), some (iD t), a, b, c, d, e, f, g, h, i, j, k]
def F3 (a : Frg) : Option D := some (.lst (a.map encR))
def whB : Es := (sSeq (sSet 8 (xCallL 1 d_law_short_part 1 xNil))
  (sSeq (sSet 9 (xCallL 1 d_law_short_part 1 xNil))
  (sSeq (sSet 10 (xFz (xLc (iA (xFz (xLst (xCons (xVar 3) (xCons (xVar 4) xNil))))) (gN 13) qYes (xOp dIx (xCallV 1 d_law_shown (xCons (xCallV 1 d_law_units (xCons (xOp dAdd (xOp dAdd (xVar 8) (xVar 13)) (xVar 9)) xNil)) xNil)) (xC (.int 0))) [13])))
  (sIf (qOr (qAnd (qTru (xVar 5)) (xB (xOp dNe (xOp dIx (xVar 10) (xC (.int 0))) (xOp dIx (xVar 10) (xC (.int 1)))))) (xB (xOp dNe (xOp dIx (xCallV 1 d_shown (xCons (xOp dAdd (xOp dAdd (xVar 8) (xVar 3)) (xVar 9)) xNil)) (xC (.int 0))) (xOp dIx (xVar 10) (xC (.int 0))))))
  (sRet (xC (.bl false)))
  sNil))))
theorem w_eq : w_law = (sSeq (sAsg (xCallL 1 d_law_pair 1 xNil) (gA 2 (gsCons (gN 3) (gsCons (gN 4) gsNil))))
  (sSeq (sSet 5 (xCallV 2 d_are_alike (xCons (xVar 3) (xCons (xVar 4) xNil))))
  (sSeq (sSet 6 (xCallV 2 d_telling (xCons (xVar 3) (xCons (xVar 4) xNil))))
  (sSeq (sIf (qOr (notBool 5) (xB (xOp dNe (xVar 5) (xOp dIs (xVar 6) (xC .non)))))
  (sRet (xC (.bl false)))
  sNil)
  (sSeq (sIf (qAnd (xB (xOp dIsNot (xVar 6) (xC .non))) (xB (xOp dEq (xCallV 2 d_law_within (xCons (xCallV 1 d_law_units (xCons (xVar 3) xNil)) (xCons (xVar 6) xNil))) (xCallV 2 d_law_within (xCons (xCallV 1 d_law_units (xCons (xVar 4) xNil)) (xCons (xVar 6) xNil))))))
  (sRet (xC (.bl false)))
  sNil)
  (sSeq (sFor (iR1 (xCons (xC (.int 6)) xNil)) (gN 7) whB)
  (sSeq (sSet 11 (xCallV 1 d_shortened (xCons (xVar 3) xNil)))
  (sSeq (sSet 12 (xCallV 1 d_stands_for (xCons (xCallV 1 d_normal_form (xCons (xVar 3) xNil)) xNil)))
  (sSeq (sIf (qOr (qNot (qTru (xCallV 2 d_are_alike (xCons (xVar 3) (xCons (xVar 11) xNil))))) (qOr (qNot (qTru (xCallV 2 d_are_alike (xCons (xVar 12) (xCons (xVar 3) xNil))))) (xB (xOp dGt (xCB dLen (xCons (xCallV 1 d_law_units (xCons (xVar 11) xNil)) xNil)) (xCB dLen (xCons (xCallV 1 d_law_units (xCons (xVar 3) xNil)) xNil))))))
  (sRet (xC (.bl false)))
  sNil)
  (sIf (xB (xOp dNe (xCB dLen (xCons (xCallV 1 d_law_units (xCons (xVar 12) xNil)) xNil)) (xCB dLen (xCons (xCallV 1 d_law_units (xCons (xVar 11) xNil)) xNil))))
  (sRet (xC (.bl false)))
  sNil)))))))))) := rfl
theorem add_frg {x y : Frg} (h : x.length + y.length ≤ 300000) : dAdd (.lst (x.map encR)) (.lst (y.map encR)) = some (.lst ((x ++ y).map encR)) := by
  rw [add_lst (by rw [List.length_map, List.length_map]; exact nats_le2 h), List.map_append]
theorem wh_st (S : D) (is : List Int) (z : Int) (hz : 0 ≤ z) (t : Nat) (a b : Frg) (ga : fgood a) (gb : fgood b) (d e f g h i j k : Option D) : ∃ (z' : Int) (f' g' h' : Option D), whB (lE S is z t (F3 a) (F3 b) (some (.bl (decide (nf (us a) = nf (us b))))) d e f g h i j k) = some (.nx (lE S is z' t (F3 a) (F3 b) (some (.bl (decide (nf (us a) = nf (us b))))) d e f' g' h' i j none)) ∧ 0 ≤ z' := by
  obtain ⟨m1, x1, z1, e1, hz1, l1, c1⟩ := den_law_short_part is z hz
  obtain ⟨m2, x2, z2, e2, hz2, l2, c2⟩ := den_law_short_part is z1 hz1
  let C : Option D := some (.bl (decide (nf (us a) = nf (us b))))
  let P : Frg := [(m1, x1)]
  let Q : Frg := [(m2, x2)]
  have gP : fgood P := fgood_short l1 c1
  have gQ : fgood Q := fgood_short l2 c2
  have k1 := sset_v (i := 8) (xcallL0 (i := 1) (ρ := lE S is z t (F3 a) (F3 b) C d e f g h i j k) rfl e1)
  have k2 := sset_v (i := 9) (xcallL0 (i := 1) (ρ := lE S is z1 t (F3 a) (F3 b) C d e (F3 P) g h i j k) rfl e2)
  let E (h k : Option D) := lE S is z2 t (F3 a) (F3 b) C d e (F3 P) (F3 Q) h i j k
  let tx (w : Frg) : List Nat := txt (us (P ++ w ++ Q))
  have lP : (us P).length = x1.length := by rw [us_one]; simp
  have lQ : (us Q).length = x2.length := by rw [us_one]; simp
  have ul : ∀ w : Frg, fgood w → (us (P ++ w ++ Q)).length < 1000 := fun w gw => by
    rw [us_app, us_app, List.length_append, List.length_append, lP, lQ]
    have := gw.2.1
    omega
  have sum : ∀ (w : Frg) (n : Nat) (h k : Option D), fgood w → gt (E h k) n = some (.lst (w.map encR)) → xOp dAdd (xOp dAdd (xVar 8) (xVar n)) (xVar 9) (E h k) = some (.v (.lst ((P ++ w ++ Q).map encR)), E h k) := fun w n h k gw hg => by
    have s1 := xop_v (o := dAdd) (xvar_f (i := 8) (ρ := E h k) (d := .lst (P.map encR)) rfl) (xvar_f (i := n) hg) (add_frg (by have := gw.2.2; show 1 + w.length ≤ _; omega))
    exact xop_v (o := dAdd) s1 (xvar_f (i := 9) (ρ := E h k) (d := .lst (Q.map encR)) rfl) (add_frg (by have := gw.2.2; rw [List.length_append]; show 1 + w.length + 1 ≤ _; omega))
  have k3 : sSet 10 (xFz (xLc (iA (xFz (xLst (xCons (xVar 3) (xCons (xVar 4) xNil))))) (gN 13) qYes (xOp dIx (xCallV 1 d_law_shown (xCons (xCallV 1 d_law_units (xCons (xOp dAdd (xOp dAdd (xVar 8) (xVar 13)) (xVar 9)) xNil)) xNil)) (xC (.int 0))) [13])) (E h k) = some (.nx (E (some (.lst [.str (tx a), .str (tx b)])) none)) := by
    have src : xFz (xLst (xCons (xVar 3) (xCons (xVar 4) xNil))) (E h k) = some (.v (.lst ([a, b].map fun w : Frg => .lst (w.map encR))), E h k) := xlst2 (xvar_f (i := 3) (ρ := E h k) (d := .lst (a.map encR)) rfl) (xvar_f (i := 4) (ρ := E h k) (d := .lst (b.map encR)) rfl) (fz_lst _) (fz_lst _)
    have l := lcL_ok (g := gN 13) (t := qYes) (f := xOp dIx (xCallV 1 d_law_shown (xCons (xCallV 1 d_law_units (xCons (xOp dAdd (xOp dAdd (xVar 8) (xVar 13)) (xVar 9)) xNil)) xNil)) (xC (.int 0))) (vs := [13]) (fun w : Frg => D.lst (w.map encR)) (fun _ => true) (fun w => D.str (tx w)) (E h none) [a, b] (fun w hw => ⟨E h (some (.lst (w.map encR))), rfl, rfl, fun _ => by
      have gw : fgood w := by
        rcases List.mem_cons.mp hw with rfl | hw
        · exact ga
        · rw [List.mem_singleton.mp hw]; exact gb
      have u := den_law_units (P ++ w ++ Q) (nats_le2 (by have := ul w gw; omega))
      have s := den_law_shown (us (P ++ w ++ Q)) (by have := ul w gw; omega)
      exact xop_v (xcall1 (xcall1 (sum w 13 h (some (.lst (w.map encR))) gw rfl) u) s) rfl rfl, rfl⟩)
    rw [filter_true] at l
    rw [sSet_eq, xFz_eq]
    unfold xLc
    rw [iA_eq, src, Option.bind_some]
    show ((Option.bind ((lcL _ _ _ _ ([a, b].map fun w : Frg => D.lst (w.map encR)) (E h none)).bind _) fzK).bind _) = _
    rw [l, Option.bind_some, if_pos (show ([a, b].map fun w => D.str (tx w)).length ≤ cap from nats_le2 (by simp)), Option.bind_some, fzK_own, fz_own]
    show some (O.nx (E (some (.lst [fz (.str (tx a)), fz (.str (tx b))])) none)) = _
    rw [fz_str, fz_str]
  let E3 := E (some (.lst [.str (tx a), .str (tx b)])) none
  have i0 : xOp dIx (xVar 10) (xC (.int 0)) E3 = some (.v (.str (tx a)), E3) := rfl
  have i1 : xOp dIx (xVar 10) (xC (.int 1)) E3 = some (.v (.str (tx b)), E3) := rfl
  have v5 : qTru (xVar 5) E3 = some (decide (nf (us a) = nf (us b)), E3) := by
    rw [qTru_eq, xvar_f (i := 5) (d := .bl (decide (nf (us a) = nf (us b)))) rfl]
    rfl
  have txe : ∀ w : Frg, tx w = tT (cat (cat (nf (us P)) (nf (us w))) (nf (us Q))) := fun w => by
    show txt (us (P ++ w ++ Q)) = _
    rw [us_app, us_app, txt_nf, nf_app, nf_app]
  have t1 : qAnd (qTru (xVar 5)) (xB (xOp dNe (xOp dIx (xVar 10) (xC (.int 0))) (xOp dIx (xVar 10) (xC (.int 1))))) E3 = some (false, E3) := by
    rw [qAnd_eq, v5, Option.bind_some]
    by_cases q : nf (us a) = nf (us b)
    · rw [decide_eq_true q]
      dsimp only
      rw [if_pos rfl, xB_eq, xop_v i0 i1 (dNe_str _ _), show tx a = tx b by rw [txe, txe, q]]
      simp
    · rw [decide_eq_false q]
      rfl
  have es := den_shown (P ++ a ++ Q) (by have := ul a ga; omega)
  have t2 : xB (xOp dNe (xOp dIx (xCallV 1 d_shown (xCons (xOp dAdd (xOp dAdd (xVar 8) (xVar 3)) (xVar 9)) xNil)) (xC (.int 0))) (xOp dIx (xVar 10) (xC (.int 0)))) E3 = some (false, E3) := by
    have c := xop_v (o := dIx) (g := xC (.int 0)) (xcall1 (sum a 3 (some (.lst [.str (tx a), .str (tx b)])) none ga rfl) es) rfl (z := .str (tx a)) rfl
    rw [xB_eq, xop_v c i0 (dNe_str _ _)]
    simp
  refine ⟨z2, F3 P, F3 Q, some (.lst [.str (tx a), .str (tx b)]), ?_, hz2⟩
  unfold whB
  rw [sseq_nx (ρ' := lE S is z1 t (F3 a) (F3 b) C d e (F3 P) g h i j k) k1, sseq_nx (ρ' := E h k) k2, sseq_nx k3]
  rw [sif_f (by rw [qOr_eq, t1, Option.bind_some]; exact t2)]
  rfl
theorem dGtNat (a b : Nat) : dGt (.int (a : Nat)) (.int (b : Nat)) = some (.bl (decide (b < a))) := by
  show some (D.bl (decide ((b : Int) < (a : Int)))) = _
  congr 2
  exact decide_eq_decide.mpr (by omega)
theorem dNeNat (a b : Nat) : dNe (.int (a : Nat)) (.int (b : Nat)) = some (.bl (decide (a ≠ b))) := by
  have : dNe (.int (a : Nat)) (.int (b : Nat)) = some (.bl (!decide ((a : Int) = (b : Int)))) := rfl
  rw [this]
  congr 2
  rw [Bool.eq_iff_iff]
  simp
  omega
theorem k80_step (S : List D) (is : List Int) (z : Int) (t : Nat) (rest : Env) (hz : 0 ≤ z) (hr : rest.length = 11) :
    ∃ (z' : Int) (x : Option D) (rest' : Env), w_law (some (.rd S) :: some (bx is z) :: some (iD t) :: rest) = some (.nx (some (.rd S) :: some (bx is z') :: x :: rest')) ∧ 0 ≤ z' ∧ rest'.length = 11 := by
  obtain ⟨a0, b0, c0, d0, e0, f0, g0, h0, i0, j0, k0, rfl⟩ : ∃ a b c d e f g h i j k, rest = [a, b, c, d, e, f, g, h, i, j, k] := by
    match rest, hr with
    | [a, b, c, d, e, f, g, h, i, j, k], _ => exact ⟨a, b, c, d, e, f, g, h, i, j, k, rfl⟩
  obtain ⟨a, b, z1, e1, hz1, ga, gb⟩ := den_law_pair is z hz
  let Z : D := .rd S
  obtain ⟨oa, la, na⟩ := ga
  obtain ⟨ob, lb, nb⟩ := gb
  have k1 : sAsg (xCallL 1 d_law_pair 1 xNil) (gA 2 (gsCons (gN 3) (gsCons (gN 4) gsNil))) (lE Z is z t a0 b0 c0 d0 e0 f0 g0 h0 i0 j0 k0) = some (.nx (lE Z is z1 t (F3 a) (F3 b) c0 d0 e0 f0 g0 h0 i0 j0 k0)) := by
    rw [sAsg_eq, xcallL0 (i := 1) (ρ := lE Z is z t a0 b0 c0 d0 e0 f0 g0 h0 i0 j0 k0) rfl e1]
    rfl
  let C : Option D := some (.bl (decide (nf (us a) = nf (us b))))
  have k2 : sSet 5 (xCallV 2 d_are_alike (xCons (xVar 3) (xCons (xVar 4) xNil))) (lE Z is z1 t (F3 a) (F3 b) c0 d0 e0 f0 g0 h0 i0 j0 k0) = some (.nx (lE Z is z1 t (F3 a) (F3 b) C d0 e0 f0 g0 h0 i0 j0 k0)) := sset_v (xcall2 (xvar_f rfl) (xvar_f rfl) (den_are_alike a b oa ob (by omega) (by omega)))
  let FD : List Ctx := nineC.filter (telT (us a) (us b))
  let T := optD FD.head?
  have fT : T.flat = true := by
    show (optD FD.head?).flat = true
    cases FD.head? <;> rfl
  have tl := den_telling a b (by omega) (by omega) (by omega) (by omega)
  have k3 : sSet 6 (xCallV 2 d_telling (xCons (xVar 3) (xCons (xVar 4) xNil))) (lE Z is z1 t (F3 a) (F3 b) C d0 e0 f0 g0 h0 i0 j0 k0) = some (.nx (lE Z is z1 t (F3 a) (F3 b) C (some T) e0 f0 g0 h0 i0 j0 k0)) := sset_v (xcall2 (xvar_f rfl) (xvar_f rfl) tl)
  let E3 := lE Z is z1 t (F3 a) (F3 b) C (some T) e0 f0 g0 h0 i0 j0 k0
  have v6 : xVar 6 E3 = some (.v T, E3) := xvar_f rfl fT
  have isn : dIs T .non = some (.bl (decide (nf (us a) = nf (us b)))) := by
    rw [alike_iff]
    show dIs (optD FD.head?) .non = _
    cases q : FD with
    | nil => rw [decide_eq_true q]; rfl
    | cons c r => rw [decide_eq_false (by show ¬ FD = []; rw [q]; simp)]; rfl
  have t1 := notBool_f (i := 5) (ρ := E3) (b := decide (nf (us a) = nf (us b))) rfl
  have t2 : xB (xOp dNe (xVar 5) (xOp dIs (xVar 6) (xC .non))) E3 = some (false, E3) := by
    rw [xB_eq, xop_v (xvar_f (i := 5) (d := .bl (decide (nf (us a) = nf (us b)))) rfl) (xop_v (o := dIs) (g := xC .non) v6 rfl isn) (ne_bl _ _)]
    simp
  have k4 : ∀ F, sIf (qOr (notBool 5) (xB (xOp dNe (xVar 5) (xOp dIs (xVar 6) (xC .non))))) F sNil E3 = some (.nx E3) := fun F => by
    rw [sif_f (by rw [qOr_eq, t1, Option.bind_some]; exact t2)]
    rfl
  have k5 : ∀ F, sIf (qAnd (xB (xOp dIsNot (xVar 6) (xC .non))) (xB (xOp dEq (xCallV 2 d_law_within (xCons (xCallV 1 d_law_units (xCons (xVar 3) xNil)) (xCons (xVar 6) xNil))) (xCallV 2 d_law_within (xCons (xCallV 1 d_law_units (xCons (xVar 4) xNil)) (xCons (xVar 6) xNil)))))) F sNil E3 = some (.nx E3) := fun F => by
    rw [sif_f]
    · rfl
    cases q : FD with
    | nil =>
      have eT : T = .non := by show optD FD.head? = _; rw [q]; rfl
      rw [qAnd_eq, xB_eq, xop_v (o := dIsNot) (g := xC .non) (z := .bl false) v6 rfl (by rw [eT]; rfl)]
      rfl
    | cons c r =>
      have eT : T = ctxD c := by show optD FD.head? = _; rw [q]; rfl
      have mc : c ∈ FD := by rw [q]; exact List.mem_cons_self ..
      obtain ⟨mc1, mc2⟩ := List.mem_filter.mp mc
      have lc := nineC_len c mc1
      rw [eT] at v6
      have w1 := xcall2 (xcall1 (xvar_f (i := 3) (ρ := E3) (d := .lst (a.map encR)) rfl) (den_law_units a (nats_le2 (by omega)))) v6 (den_law_within (us a) c (by omega) lc)
      have w2 := xcall2 (xcall1 (xvar_f (i := 4) (ρ := E3) (d := .lst (b.map encR)) rfl) (den_law_units b (nats_le2 (by omega)))) v6 (den_law_within (us b) c (by omega) lc)
      rw [qAnd_eq, xB_eq, xop_v (o := dIsNot) (g := xC .non) (z := .bl true) v6 rfl rfl]
      show xB _ E3 = _
      have ne := of_decide_eq_true mc2
      rw [xB_eq, xop_v w1 w2 (dEq_str _ _), decide_eq_false ne]
      rfl
  obtain ⟨ρ', e6, z2, e', f', g', h', k', rfl, hz2⟩ := forL_cnt (g := gN 7) (b := whB) iD (fun _ ρ => ∃ z2 e f g h k, ρ = lE Z is z2 t (F3 a) (F3 b) C (some T) e f g h i0 j0 k ∧ 0 ≤ z2) (List.range 6) E3 ⟨_, _, _, _, _, _, rfl, hz1⟩ (by
    rintro n m ρ _ _ ⟨z2, e, f, g, h, k, rfl, hz2⟩
    obtain ⟨z3, f3, g3, h3, e3, hz3⟩ := wh_st Z is z2 hz2 t a b ⟨oa, la, na⟩ ⟨ob, lb, nb⟩ (some T) (some (iD m)) f g h i0 j0 k
    exact ⟨_, _, gN_eq _ _ _, e3, _, _, _, _, _, _, rfl, hz3⟩)
  have k6 : sFor (iR1 (xCons (xC (.int 6)) xNil)) (gN 7) whB E3 = some (.nx (lE Z is z2 t (F3 a) (F3 b) C (some T) e' f' g' h' i0 j0 k')) := by
    rw [sFor_eq, show iR1 (xCons (xC (.int 6)) xNil) E3 = some ((List.range 6).map iD, E3) from iR1_k (K := 6) (by omega) E3]
    exact e6
  let x := us a
  have ux : uok x := uok_us oa
  let n := needed none x
  have ln : n.length ≤ x.length := needed_len none x
  let N3 : Frg := tidyR n
  let S3 : Frg := tidyR (stU (nf x))
  have tt := nf_tot x
  have lx : x.length ≤ 200 := la
  have k7 : sSet 11 (xCallV 1 d_shortened (xCons (xVar 3) xNil)) (lE Z is z2 t (F3 a) (F3 b) C (some T) e' f' g' h' i0 j0 k') = some (.nx (lE Z is z2 t (F3 a) (F3 b) C (some T) e' f' g' h' (F3 N3) j0 k')) := sset_v (xcall1 (xvar_f rfl) (den_shortened a (by omega)))
  have k8 : sSet 12 (xCallV 1 d_stands_for (xCons (xCallV 1 d_normal_form (xCons (xVar 3) xNil)) xNil)) (lE Z is z2 t (F3 a) (F3 b) C (some T) e' f' g' h' (F3 N3) j0 k') = some (.nx (lE Z is z2 t (F3 a) (F3 b) C (some T) e' f' g' h' (F3 N3) (F3 S3) k')) := sset_v (xcall1 (xcall1 (xvar_f rfl) (den_normal_form a (by omega))) (den_stands_for (nf x) (by omega)))
  let E8 := lE Z is z2 t (F3 a) (F3 b) C (some T) e' f' g' h' (F3 N3) (F3 S3) k'
  have un : uok n := uok_needed ux
  have us3 : uok (stU (nf x)) := fun u hu => by
    obtain ⟨s1, s2, s3⟩ := nf_nok ux
    unfold stU at hu
    rcases List.mem_append.mp hu with hu | hu
    · rcases List.mem_append.mp hu with hu | hu
      · obtain ⟨c, hc, rfl⟩ := List.mem_map.mp hu
        exact s1 c hc
      · obtain ⟨c, hc, rfl⟩ := List.mem_map.mp hu
        exact s2 c hc
    · obtain ⟨c, hc, rfl⟩ := List.mem_map.mp hu
      exact s3 c hc
  have lS := stU_len (nf x)
  have va : xVar 3 E8 = some (.v (.lst (a.map encR)), E8) := xvar_f rfl
  have vN : xVar 11 E8 = some (.v (.lst (N3.map encR)), E8) := xvar_f rfl
  have vS : xVar 12 E8 = some (.v (.lst (S3.map encR)), E8) := xvar_f rfl
  have al1 := den_are_alike a N3 oa (fok_tidy un) (by omega) (by rw [us_tidyR]; omega)
  rw [show us N3 = n from us_tidyR n, show nf n = nf (us a) from nf_needed x, decide_eq_true rfl] at al1
  have al2 := den_are_alike S3 a (fok_tidy us3) oa (by rw [us_tidyR, lS]; omega) (by omega)
  rw [show us S3 = stU (nf x) from us_tidyR _, show nf (stU (nf x)) = nf (us a) from nf_stands x, decide_eq_true rfl] at al2
  have q1 : qNot (qTru (xCallV 2 d_are_alike (xCons (xVar 3) (xCons (xVar 11) xNil)))) E8 = some (false, E8) := by
    rw [qNot_eq, qTru_eq, xcall2 va vN al1]
    rfl
  have q2 : qNot (qTru (xCallV 2 d_are_alike (xCons (xVar 12) (xCons (xVar 3) xNil)))) E8 = some (false, E8) := by
    rw [qNot_eq, qTru_eq, xcall2 vS va al2]
    rfl
  have lenA : xCB dLen (xCons (xCallV 1 d_law_units (xCons (xVar 3) xNil)) xNil) E8 = some (.v (iD x.length), E8) := by
    have := xcb1 (o := dLen) (xcall1 va (den_law_units a (nats_le2 (by omega)))) (len_lst _)
    rw [List.length_map] at this
    exact this
  have lenN : xCB dLen (xCons (xCallV 1 d_law_units (xCons (xVar 11) xNil)) xNil) E8 = some (.v (iD n.length), E8) := by
    have eu := den_law_units N3 (by rw [us_tidyR]; exact nats_le2 (by omega))
    rw [us_tidyR] at eu
    have := xcb1 (o := dLen) (xcall1 vN eu) (len_lst _)
    rw [List.length_map] at this
    exact this
  have lenS : xCB dLen (xCons (xCallV 1 d_law_units (xCons (xVar 12) xNil)) xNil) E8 = some (.v (iD n.length), E8) := by
    have eu := den_law_units S3 (by rw [us_tidyR, lS]; exact nats_le2 (by omega))
    rw [us_tidyR] at eu
    have := xcb1 (o := dLen) (xcall1 vS eu) (len_lst _)
    rw [List.length_map, lS, ← needed_tot x] at this
    exact this
  have q3 : xB (xOp dGt (xCB dLen (xCons (xCallV 1 d_law_units (xCons (xVar 11) xNil)) xNil)) (xCB dLen (xCons (xCallV 1 d_law_units (xCons (xVar 3) xNil)) xNil))) E8 = some (false, E8) := by
    rw [xB_eq, xop_v lenN lenA (dGtNat _ _), decide_eq_false (by omega)]
    rfl
  have k9 : ∀ F, sIf (qOr (qNot (qTru (xCallV 2 d_are_alike (xCons (xVar 3) (xCons (xVar 11) xNil))))) (qOr (qNot (qTru (xCallV 2 d_are_alike (xCons (xVar 12) (xCons (xVar 3) xNil))))) (xB (xOp dGt (xCB dLen (xCons (xCallV 1 d_law_units (xCons (xVar 11) xNil)) xNil)) (xCB dLen (xCons (xCallV 1 d_law_units (xCons (xVar 3) xNil)) xNil)))))) F sNil E8 = some (.nx E8) := fun F => by
    rw [sif_f]
    · rfl
    rw [qOr_eq, q1, Option.bind_some]
    show qOr _ _ E8 = _
    rw [qOr_eq, q2, Option.bind_some]
    exact q3
  have q4 : xB (xOp dNe (xCB dLen (xCons (xCallV 1 d_law_units (xCons (xVar 12) xNil)) xNil)) (xCB dLen (xCons (xCallV 1 d_law_units (xCons (xVar 11) xNil)) xNil))) E8 = some (false, E8) := by
    rw [xB_eq, xop_v lenS lenN (dNeNat _ _)]
    simp
  refine ⟨z2, some (iD t), [F3 a, F3 b, C, some T, e', f', g', h', F3 N3, F3 S3, k'], ?_, hz2, rfl⟩
  rw [show (some (D.rd S) :: some (bx is z) :: some (iD t) :: [a0, b0, c0, d0, e0, f0, g0, h0, i0, j0, k0]) = lE Z is z t a0 b0 c0 d0 e0 f0 g0 h0 i0 j0 k0 from rfl]
  rw [w_eq, sseq_nx k1, sseq_nx k2, sseq_nx k3, sseq_nx (k4 _), sseq_nx (k5 _), sseq_nx k6, sseq_nx k7, sseq_nx k8, sseq_nx (k9 _), sif_f q4]
  rfl
theorem part_b (ns : List Int) (hn : ns.length ≤ 63) : ∃ es, d_law [.rd (ns.map D.int)] = some (.v (.bl true), es) := by
  unfold d_law
  rw [lw_eq]
  exact law_run 60 6 (by omega) (by omega) ns rfl fun is z k rest hz hr => k80_step (ns.map D.int) is z k rest hz hr
end Den

namespace Den
open PySem PySem.Spec PyProof.Rows L2
def topS (i : Nat) : Stmt := PySem.Challenge.pw_gapsalike_k80_whole_every_context.main.body.getD i (.Pass ⟨0, 0, 0, 0⟩)
abbrev s_units : Stmt := topS 2
theorem sc_units : FnScope N_units P_units (defScope s_units) := ⟨rfl, rfl, rfl, by decide +kernel, rfl, by decide +kernel, by decide +kernel⟩
abbrev s_tidy : Stmt := topS 3
theorem sc_tidy : FnScope N_tidy P_tidy (defScope s_tidy) := ⟨rfl, rfl, rfl, by decide +kernel, rfl, by decide +kernel, by decide +kernel⟩
abbrev s_kind : Stmt := topS 4
theorem sc_kind : FnScope N_kind P_kind (defScope s_kind) := ⟨rfl, rfl, rfl, by decide +kernel, rfl, by decide +kernel, by decide +kernel⟩
abbrev s_gaps : Stmt := topS 7
theorem sc_gaps : FnScope N_gaps P_gaps (defScope s_gaps) := ⟨rfl, rfl, rfl, by decide +kernel, rfl, by decide +kernel, by decide +kernel⟩
abbrev s_are_joining : Stmt := topS 8
theorem sc_are_joining : FnScope N_are_joining P_are_joining (defScope s_are_joining) := ⟨rfl, rfl, rfl, by decide +kernel, rfl, by decide +kernel, by decide +kernel⟩
abbrev s_white : Stmt := topS 9
theorem sc_white : FnScope N_white P_white (defScope s_white) := ⟨rfl, rfl, rfl, by decide +kernel, rfl, by decide +kernel, by decide +kernel⟩
abbrev s_counting : Stmt := topS 10
theorem sc_counting : FnScope N_counting P_counting (defScope s_counting) := ⟨rfl, rfl, rfl, by decide +kernel, rfl, by decide +kernel, by decide +kernel⟩
abbrev s_shown_sign : Stmt := topS 12
theorem sc_shown_sign : FnScope N_shown_sign P_shown_sign (defScope s_shown_sign) := ⟨rfl, rfl, rfl, by decide +kernel, rfl, by decide +kernel, by decide +kernel⟩
abbrev s_shown : Stmt := topS 13
theorem sc_shown : FnScope N_shown P_shown (defScope s_shown) := ⟨rfl, rfl, rfl, by decide +kernel, rfl, by decide +kernel, by decide +kernel⟩
abbrev s_shortened : Stmt := topS 16
theorem sc_shortened : FnScope N_shortened P_shortened (defScope s_shortened) := ⟨rfl, rfl, rfl, by decide +kernel, rfl, by decide +kernel, by decide +kernel⟩
abbrev s_marks : Stmt := topS 17
theorem sc_marks : FnScope N_marks P_marks (defScope s_marks) := ⟨rfl, rfl, rfl, by decide +kernel, rfl, by decide +kernel, by decide +kernel⟩
abbrev s_gap_form : Stmt := topS 18
theorem sc_gap_form : FnScope N_gap_form P_gap_form (defScope s_gap_form) := ⟨rfl, rfl, rfl, by decide +kernel, rfl, by decide +kernel, by decide +kernel⟩
abbrev s_normal_form : Stmt := topS 19
theorem sc_normal_form : FnScope N_normal_form P_normal_form (defScope s_normal_form) := ⟨rfl, rfl, rfl, by decide +kernel, rfl, by decide +kernel, by decide +kernel⟩
abbrev s_stands_for : Stmt := topS 20
theorem sc_stands_for : FnScope N_stands_for P_stands_for (defScope s_stands_for) := ⟨rfl, rfl, rfl, by decide +kernel, rfl, by decide +kernel, by decide +kernel⟩
abbrev s_are_alike : Stmt := topS 21
theorem sc_are_alike : FnScope N_are_alike P_are_alike (defScope s_are_alike) := ⟨rfl, rfl, rfl, by decide +kernel, rfl, by decide +kernel, by decide +kernel⟩
abbrev s_is_telling : Stmt := topS 22
theorem sc_is_telling : FnScope N_is_telling P_is_telling (defScope s_is_telling) := ⟨rfl, rfl, rfl, by decide +kernel, rfl, by decide +kernel, by decide +kernel⟩
abbrev s_telling : Stmt := topS 23
theorem sc_telling : FnScope N_telling P_telling (defScope s_telling) := ⟨rfl, rfl, rfl, by decide +kernel, rfl, by decide +kernel, by decide +kernel⟩
abbrev s_law_cell : Stmt := topS 25
theorem sc_law_cell : FnScope N_law_cell P_law_cell (defScope s_law_cell) := ⟨rfl, rfl, rfl, by decide +kernel, rfl, by decide +kernel, by decide +kernel⟩
abbrev s_law_row : Stmt := topS 26
theorem sc_law_row : FnScope N_law_row P_law_row (defScope s_law_row) := ⟨rfl, rfl, rfl, by decide +kernel, rfl, by decide +kernel, by decide +kernel⟩
abbrev s_law_draw : Stmt := topS 27
theorem sc_law_draw : FnScope N_law_draw P_law_draw (defScope s_law_draw) := ⟨rfl, rfl, rfl, by decide +kernel, rfl, by decide +kernel, by decide +kernel⟩
abbrev s_law_fragment : Stmt := topS 28
theorem sc_law_fragment : FnScope N_law_fragment P_law_fragment (defScope s_law_fragment) := ⟨rfl, rfl, rfl, by decide +kernel, rfl, by decide +kernel, by decide +kernel⟩
abbrev s_law_units : Stmt := topS 29
theorem sc_law_units : FnScope N_law_units P_law_units (defScope s_law_units) := ⟨rfl, rfl, rfl, by decide +kernel, rfl, by decide +kernel, by decide +kernel⟩
abbrev s_law_tidy : Stmt := topS 30
theorem sc_law_tidy : FnScope N_law_tidy P_law_tidy (defScope s_law_tidy) := ⟨rfl, rfl, rfl, by decide +kernel, rfl, by decide +kernel, by decide +kernel⟩
abbrev s_law_kind : Stmt := topS 31
theorem sc_law_kind : FnScope N_law_kind P_law_kind (defScope s_law_kind) := ⟨rfl, rfl, rfl, by decide +kernel, rfl, by decide +kernel, by decide +kernel⟩
abbrev s_law_gaps : Stmt := topS 32
theorem sc_law_gaps : FnScope N_law_gaps P_law_gaps (defScope s_law_gaps) := ⟨rfl, rfl, rfl, by decide +kernel, rfl, by decide +kernel, by decide +kernel⟩
abbrev s_law_join : Stmt := topS 33
theorem sc_law_join : FnScope N_law_join P_law_join (defScope s_law_join) := ⟨rfl, rfl, rfl, by decide +kernel, rfl, by decide +kernel, by decide +kernel⟩
abbrev s_law_kept : Stmt := topS 34
theorem sc_law_kept : FnScope N_law_kept P_law_kept (defScope s_law_kept) := ⟨rfl, rfl, rfl, by decide +kernel, rfl, by decide +kernel, by decide +kernel⟩
abbrev s_law_sign : Stmt := topS 35
theorem sc_law_sign : FnScope N_law_sign P_law_sign (defScope s_law_sign) := ⟨rfl, rfl, rfl, by decide +kernel, rfl, by decide +kernel, by decide +kernel⟩
abbrev s_law_shown : Stmt := topS 36
theorem sc_law_shown : FnScope N_law_shown P_law_shown (defScope s_law_shown) := ⟨rfl, rfl, rfl, by decide +kernel, rfl, by decide +kernel, by decide +kernel⟩
abbrev s_law_within : Stmt := topS 37
theorem sc_law_within : FnScope N_law_within P_law_within (defScope s_law_within) := ⟨rfl, rfl, rfl, by decide +kernel, rfl, by decide +kernel, by decide +kernel⟩
abbrev s_law_near : Stmt := topS 38
theorem sc_law_near : FnScope N_law_near P_law_near (defScope s_law_near) := ⟨rfl, rfl, rfl, by decide +kernel, rfl, by decide +kernel, by decide +kernel⟩
abbrev s_law_part : Stmt := topS 39
theorem sc_law_part : FnScope N_law_part P_law_part (defScope s_law_part) := ⟨rfl, rfl, rfl, by decide +kernel, rfl, by decide +kernel, by decide +kernel⟩
abbrev s_law_short_part : Stmt := topS 40
theorem sc_law_short_part : FnScope N_law_short_part P_law_short_part (defScope s_law_short_part) := ⟨rfl, rfl, rfl, by decide +kernel, rfl, by decide +kernel, by decide +kernel⟩
abbrev s_law_pair : Stmt := topS 41
theorem sc_law_pair : FnScope N_law_pair P_law_pair (defScope s_law_pair) := ⟨rfl, rfl, rfl, by decide +kernel, rfl, by decide +kernel, by decide +kernel⟩
abbrev s_law : Stmt := topS 42
theorem sc_law : FnScope N_law P_law (defScope s_law) := ⟨rfl, rfl, rfl, by decide +kernel, rfl, by decide +kernel, by decide +kernel⟩
/-! ### the denotations -/
section
variable {P : Program} {w : World} {K : PySem.W.Frag} {mg : Str → Option Value} {base : Heap}
theorem ok_units (h : HasDef K mg "units" s_units)  : OkDef P w K mg base 1 "units" P_units d_units := by
  unfold d_units
  exact okdef (k := 0) (W := W_units) (b := b_units) h sc_units (by decide) (fun _ _ _ _ _ _ us hl => match us, hl with | [_], _ => rfl) fun fA cdv A outer s H E hr =>
  (ass_one (as_ret (ae_fz (ae_lc2 (own := [("mode", 1), ("text", 2), ("sign", 3)]) (vs1 := [3]) rfl sc_units.nd (ai_a (ae_var 0)) (blkOk_by (N := N_units) (sc := defScope s_units) (by decide +kernel)) (by decide) (fun _ _ _ _ _ => (ag_a rfl (ags_cons (ag_n (i := 1) sc_units.nd rfl (by first | exact Or.inl rfl | exact Or.inr rfl)) (ags_cons (ag_n (i := 2) sc_units.nd rfl (by first | exact Or.inl rfl | exact Or.inr rfl)) ags_nil)))) bts_nil (fun _ _ _ _ _ => (ai_a (ae_var 2))) (fun _ _ _ _ _ => (ag_n (i := 3) sc_units.nd rfl (by first | exact Or.inl rfl | exact Or.inr rfl))) bts_nil (fun _ _ _ _ _ => (ae_tup (aa_cons (ae_var 1) (aa_cons (ae_var 3) aa_nil))))))))
theorem ok_tidy (h : HasDef K mg "tidy" s_tidy) (m_zip : mg "zip" = none) : OkDef P w K mg base 1 "tidy" P_tidy d_tidy := by
  unfold d_tidy
  exact okdef (k := 0) (W := W_tidy) (b := b_tidy) h sc_tidy (by decide) (fun _ _ _ _ _ _ us hl => match us, hl with | [_], _ => rfl) fun fA cdv A outer s H E hr =>
  (ass_cons (as_set (i := 1) sc_tidy.nd rfl (by first | exact Or.inl rfl | exact Or.inr rfl) (ae_lst aa_nil))
  (ass_cons (as_set (i := 2) sc_tidy.nd rfl (by first | exact Or.inl rfl | exact Or.inr rfl) (ae_lst aa_nil))
  (ass_cons (as_for PassesOwn.never rfl (ai_a (ae_var 0)) (ag_a rfl (ags_cons (ag_n (i := 3) sc_tidy.nd rfl (by first | exact Or.inl rfl | exact Or.inr rfl)) (ags_cons (ag_n (i := 4) sc_tidy.nd rfl (by first | exact Or.inl rfl | exact Or.inr rfl)) ags_nil)))
  (ass_cons (as_if (at_w (aw_or (at_not (at_tru (ae_var 1))) (aw_or1 (at_cmp (opr_ne (hu64 hr)) gd_ne (ae_ix ix_seq gd_ix (ae_var 1) (ae_un un_neg gd_neg ae_int)) (ae_var 3) (nomark _)))))
  (ass_cons (as_expr (ae_app (i := 1) (ae_var 3)))
  (ass_one (as_expr (ae_app (i := 2) (ae_lst aa_nil)))))
  ass_nil)
  (ass_one (as_expr (ae_appP (al_ix (al_v 2) ak_n) (ap_v 4))))))
  (ass_one (as_ret (ae_fz (ae_lc (own := [("name", 5), ("signs", 6)]) rfl sc_tidy.nd (ai_z (by rfl) m_zip (aa_cons (ae_fz (ae_var 1)) (aa_cons (ae_fz (ae_var 2)) aa_nil))) (blkOk_by (N := N_tidy) (sc := defScope s_tidy) (by decide +kernel)) (fun _ _ _ _ _ => (ag_a rfl (ags_cons (ag_n (i := 5) sc_tidy.nd rfl (by first | exact Or.inl rfl | exact Or.inr rfl)) (ags_cons (ag_n (i := 6) sc_tidy.nd rfl (by first | exact Or.inl rfl | exact Or.inr rfl)) ags_nil)))) bts_nil (fun _ _ _ _ _ => (ae_tup (aa_cons (ae_var 5) (aa_cons (ae_bm PySem.F.plainAttrs_str PySem.F.slot_str_join PySem.F.type_str_join mt_join gm_join (ae_str (s := [])) (aa_cons (ae_var 6) aa_nil)) aa_nil)))))))))))
theorem ok_kind (h : HasDef K mg "kind" s_kind) {a_STAND_INS : Addr} (m_STAND_INS : mg "STAND_INS" = some (.ref a_STAND_INS)) (k_STAND_INS : TabK K w a_STAND_INS tab_STAND_INS) : OkDef P w K mg base 1 "kind" P_kind d_kind := by
  unfold d_kind
  exact okdef (k := 0) (W := W_kind) (b := b_kind) h sc_kind (by decide) (fun _ _ _ _ _ _ us hl => match us, hl with | [_, _], _ => rfl) fun fA cdv A outer s H E hr =>
  (ass_cons (as_if (at_cmp (opr_eq (hu64 hr)) gd_eq (ae_var 1) (ae_str (s := [32])) (nomark _))
  (ass_one (as_ret (ae_ifx (at_cmp (opr_eq (hu64 hr)) gd_eq (ae_var 0) (ae_str (s := [112, 114, 101, 115, 101, 114, 118, 101])) (nomark _)) (ae_str (s := [111, 116, 104, 101, 114])) (ae_str (s := [115, 112, 97, 99, 101])))))
  ass_nil)
  (ass_cons (as_if (at_cmp (opr_eq (hu64 hr)) gd_eq (ae_var 1) (ae_str (s := [10])) (nomark _))
  (ass_one (as_ret (ae_ifx (at_cmp (opr_eq (hu64 hr)) gd_eq (ae_var 0) (ae_str (s := [99, 111, 108, 108, 97, 112, 115, 101])) (nomark _)) (ae_str (s := [102, 101, 101, 100])) (ae_str (s := [101, 110, 100])))))
  ass_nil)
  (ass_cons (as_if (at_chain opr_le gd_le opr_le gd_le (ae_str (s := [65])) (ae_var 1) (ae_str (s := [90])))
  (ass_one (as_ret (ae_str (s := [119, 105, 100, 101]))))
  ass_nil)
  (ass_one (as_ret (ae_kg m_STAND_INS k_STAND_INS (by rfl) (ae_var 1) (ae_str (s := [111, 116, 104, 101, 114]))))))))
theorem ok_gaps (h : HasDef K mg "gaps" s_gaps) (m_len : mg "len" = none) (m_enumerate : mg "enumerate" = none) {a_IN_GAPS : Addr} (m_IN_GAPS : mg "IN_GAPS" = some (.ref a_IN_GAPS)) (k_IN_GAPS : ∀ G H, Rep K G H (.tup [(.str [115, 112, 97, 99, 101]), (.str [102, 101, 101, 100]), (.str [109, 97, 114, 107])]) (.ref a_IN_GAPS) Em) (c_kind : OkDef P w K mg base 1 "kind" P_kind d_kind) : OkDef P w K mg base 2 "gaps" P_gaps d_gaps := by
  unfold d_gaps
  exact okdef (k := 1) (W := W_gaps) (b := b_gaps) h sc_gaps (by decide) (fun _ _ _ _ _ _ us hl => match us, hl with | [_, _], _ => rfl) fun fA cdv A outer s H E hr =>
  (ass_cons (as_set (i := 2) sc_gaps.nd rfl (by first | exact Or.inl rfl | exact Or.inr rfl) (ae_lst aa_nil))
  (ass_cons (as_set (i := 3) sc_gaps.nd rfl (by first | exact Or.inl rfl | exact Or.inr rfl) (ae_lst aa_nil))
  (ass_cons (as_set (i := 4) sc_gaps.nd rfl (by first | exact Or.inl rfl | exact Or.inr rfl) (ae_var 1))
  (ass_cons (as_for PassesOwn.never rfl (ai_ea (by rfl) m_enumerate (aa_cons (ae_var 0) aa_nil)) (ag_a rfl (ags_cons (ag_n (i := 5) sc_gaps.nd rfl (by first | exact Or.inl rfl | exact Or.inr rfl)) (ags_cons (ag_a rfl (ags_cons (ag_n (i := 6) sc_gaps.nd rfl (by first | exact Or.inl rfl | exact Or.inr rfl)) (ags_cons (ag_n (i := 7) sc_gaps.nd rfl (by first | exact Or.inl rfl | exact Or.inr rfl)) ags_nil))) ags_nil)))
  (ass_cons (as_set (i := 8) sc_gaps.nd rfl (by first | exact Or.inl rfl | exact Or.inr rfl) (ae_cV c_kind (hr.mono (by decide)) (by rfl) (aa_cons (ae_var 6) (aa_cons (ae_var 7) aa_nil))))
  (ass_one (as_if (at_cmp (opr_in (hu65 hr)) gd_in (ae_var 8) (ae_gl m_IN_GAPS k_IN_GAPS rfl (by rfl)) (by with_unfolding_all rfl))
  (ass_one (as_expr (ae_app (i := 3) (ae_var 7))))
  (ass_cons (as_expr (ae_app (i := 2) (ae_tup (aa_cons (ae_op op_sub gd_sub (ae_var 5) (ae_cb call_len gc_len (by rfl) m_len (by decide +kernel) (aa_cons (ae_var 3) aa_nil))) (aa_cons (ae_bm PySem.F.plainAttrs_str PySem.F.slot_str_join PySem.F.type_str_join mt_join gm_join (ae_str (s := [])) (aa_cons (ae_var 3) aa_nil)) (aa_cons (ae_var 4) (aa_cons (ae_var 8) aa_nil)))))))
  (ass_cons (as_set (i := 3) sc_gaps.nd rfl (by first | exact Or.inl rfl | exact Or.inr rfl) (ae_lst aa_nil))
  (ass_one (as_set (i := 4) sc_gaps.nd rfl (by first | exact Or.inl rfl | exact Or.inr rfl) (ae_var 8)))))))))
  (ass_cons (as_expr (ae_app (i := 2) (ae_tup (aa_cons (ae_op op_sub gd_sub (ae_cb call_len gc_len (by rfl) m_len (by decide +kernel) (aa_cons (ae_var 0) aa_nil)) (ae_cb call_len gc_len (by rfl) m_len (by decide +kernel) (aa_cons (ae_var 3) aa_nil))) (aa_cons (ae_bm PySem.F.plainAttrs_str PySem.F.slot_str_join PySem.F.type_str_join mt_join gm_join (ae_str (s := [])) (aa_cons (ae_var 3) aa_nil)) (aa_cons (ae_var 4) (aa_cons (ae_var 1) aa_nil)))))))
  (ass_one (as_ret (ae_fz (ae_var 2)))))))))
theorem ok_are_joining (h : HasDef K mg "are_joining" s_are_joining)  : OkDef P w K mg base 1 "are_joining" P_are_joining d_are_joining := by
  unfold d_are_joining
  exact okdef (k := 0) (W := W_are_joining) (b := b_are_joining) h sc_are_joining (by decide) (fun _ _ _ _ _ _ us hl => match us, hl with | [_, _], _ => rfl) fun fA cdv A outer s H E hr =>
  (ass_cons (as_if (at_w (aw_or (at_cmp opr_is gd_is (ae_var 0) ae_non (nomark _)) (aw_or1 (at_cmp opr_is gd_is (ae_var 1) ae_non (nomark _)))))
  (ass_one (as_ret ae_bl))
  ass_nil)
  (ass_one (as_ret (ae_or (ae_cmp (opr_eq (hu64 hr)) gd_eq (ae_var 0) (ae_str (s := [122, 101, 114, 111])) (nomark _)) (ae_or (ae_cmp (opr_eq (hu64 hr)) gd_eq (ae_var 1) (ae_str (s := [122, 101, 114, 111])) (nomark _)) (ae_one (ae_chain (opr_eq (hu64 hr)) gd_eq (opr_eq (hu64 hr)) gd_eq (ae_var 0) (ae_var 1) (ae_str (s := [119, 105, 100, 101])))))))))
theorem ok_white (h : HasDef K mg "white" s_white) (c_are_joining : OkDef P w K mg base 1 "are_joining" P_are_joining d_are_joining) : OkDef P w K mg base 2 "white" P_white d_white := by
  unfold d_white
  exact okdef (k := 1) (W := W_white) (b := b_white) h sc_white (by decide) (fun _ _ _ _ _ _ us hl => match us, hl with | [_, _, _], _ => rfl) fun fA cdv A outer s H E hr =>
  (ass_cons (as_if (at_w (aw_or (at_cmp (opr_eq (hu64 hr)) gd_eq (ae_var 1) (ae_str (s := [101, 110, 100])) (nomark _)) (aw_or1 (at_cmp (opr_eq (hu64 hr)) gd_eq (ae_var 2) (ae_str (s := [101, 110, 100])) (nomark _)))))
  (ass_one (as_ret (ae_un un_neg gd_neg ae_int)))
  ass_nil)
  (ass_cons (as_if (at_cmp (opr_notin (hu65 hr)) gd_notin (ae_str (s := [10])) (ae_var 0) (by with_unfolding_all rfl))
  (ass_one (as_ret (ae_bm PySem.F.plainAttrs_str PySem.F.slot_str_find PySem.F.type_str_find mt_find gm_find (ae_var 0) (aa_cons (ae_str (s := [32])) aa_nil))))
  ass_nil)
  (ass_one (as_ret (ae_ifx (at_tru (ae_cV c_are_joining (hr.mono (by decide)) (by rfl) (aa_cons (ae_var 1) (aa_cons (ae_var 2) aa_nil)))) (ae_un un_neg gd_neg ae_int) (ae_bm PySem.F.plainAttrs_str PySem.F.slot_str_find PySem.F.type_str_find mt_find gm_find (ae_var 0) (aa_cons (ae_str (s := [10])) aa_nil)))))))
theorem ok_counting (h : HasDef K mg "counting" s_counting) (c_gaps : OkDef P w K mg base 2 "gaps" P_gaps d_gaps) (m_len : mg "len" = none) (m_enumerate : mg "enumerate" = none) (c_kind : OkDef P w K mg base 1 "kind" P_kind d_kind) (c_white : OkDef P w K mg base 2 "white" P_white d_white) : OkDef P w K mg base 3 "counting" P_counting d_counting := by
  unfold d_counting
  exact okdef (k := 2) (W := W_counting) (b := b_counting) h sc_counting (by decide) (fun _ _ _ _ _ _ us hl => match us, hl with | [_, _], _ => rfl) fun fA cdv A outer s H E hr =>
  (ass_cons (as_set (i := 2) sc_counting.nd rfl (by first | exact Or.inl rfl | exact Or.inr rfl) (ae_lst aa_nil))
  (ass_cons (as_for PassesOwn.never rfl (ai_a (ae_cV c_gaps (hr.mono (by decide)) (by rfl) (aa_cons (ae_var 0) (aa_cons (ae_var 1) aa_nil)))) (ag_a rfl (ags_cons (ag_n (i := 3) sc_counting.nd rfl (by first | exact Or.inl rfl | exact Or.inr rfl)) (ags_cons (ag_n (i := 4) sc_counting.nd rfl (by first | exact Or.inl rfl | exact Or.inr rfl)) (ags_cons (ag_n (i := 5) sc_counting.nd rfl (by first | exact Or.inl rfl | exact Or.inr rfl)) (ags_cons (ag_n (i := 6) sc_counting.nd rfl (by first | exact Or.inl rfl | exact Or.inr rfl)) ags_nil)))))
  (ass_cons (as_set (i := 7) sc_counting.nd rfl (by first | exact Or.inl rfl | exact Or.inr rfl) (ae_cV c_white (hr.mono (by decide)) (by rfl) (aa_cons (ae_var 4) (aa_cons (ae_var 5) (aa_cons (ae_var 6) aa_nil)))))
  (ass_cons (as_for PassesOwn.never rfl (ai_ea (by rfl) m_enumerate (aa_cons (ae_var 4) aa_nil)) (ag_a rfl (ags_cons (ag_n (i := 8) sc_counting.nd rfl (by first | exact Or.inl rfl | exact Or.inr rfl)) (ags_cons (ag_n (i := 9) sc_counting.nd rfl (by first | exact Or.inl rfl | exact Or.inr rfl)) ags_nil)))
  (ass_one (as_if (at_w (aw_or (at_cmp (opr_eq (hu64 hr)) gd_eq (ae_var 8) (ae_var 7) (nomark _)) (aw_or1 (at_cmp (opr_eq (hu64 hr)) gd_eq (ae_cV c_kind (hr.mono (by decide)) (by rfl) (aa_cons (ae_str (s := [99, 111, 108, 108, 97, 112, 115, 101])) (aa_cons (ae_var 9) aa_nil))) (ae_str (s := [109, 97, 114, 107])) (nomark _)))))
  (ass_one (as_expr (ae_app (i := 2) (ae_op opr_add gd_add (ae_var 3) (ae_var 8)))))
  ass_nil)))
  (ass_cons (as_set (i := 10) sc_counting.nd rfl (by first | exact Or.inl rfl | exact Or.inr rfl) (ae_op opr_add gd_add (ae_var 3) (ae_cb call_len gc_len (by rfl) m_len (by decide +kernel) (aa_cons (ae_var 4) aa_nil))))
  (ass_one (as_if (at_cmp op_lt gd_lt (ae_var 10) (ae_cb call_len gc_len (by rfl) m_len (by decide +kernel) (aa_cons (ae_var 0) aa_nil)) (nomark _))
  (ass_one (as_expr (ae_app (i := 2) (ae_var 10))))
  ass_nil))))))
  (ass_one (as_ret (ae_fz (ae_var 2))))))
theorem ok_shown_sign (h : HasDef K mg "shown_sign" s_shown_sign) (c_kind : OkDef P w K mg base 1 "kind" P_kind d_kind) : OkDef P w K mg base 2 "shown_sign" P_shown_sign d_shown_sign := by
  unfold d_shown_sign
  exact okdef (k := 1) (W := W_shown_sign) (b := b_shown_sign) h sc_shown_sign (by decide) (fun _ _ _ _ _ _ us hl => match us, hl with | [_, _], _ => rfl) fun fA cdv A outer s H E hr =>
  (ass_cons (as_set (i := 2) sc_shown_sign.nd rfl (by first | exact Or.inl rfl | exact Or.inr rfl) (ae_cV c_kind (hr.mono (by decide)) (by rfl) (aa_cons (ae_var 0) (aa_cons (ae_var 1) aa_nil))))
  (ass_cons (as_if (at_cmp (opr_eq (hu64 hr)) gd_eq (ae_var 2) (ae_str (s := [101, 110, 100])) (nomark _))
  (ass_one (as_ret (ae_str (s := [10]))))
  ass_nil)
  (ass_one (as_ret (ae_ifx (at_cmp (opr_eq (hu64 hr)) gd_eq (ae_var 2) (ae_str (s := [102, 101, 101, 100])) (nomark _)) (ae_str (s := [32])) (ae_var 1))))))
theorem ok_shown (h : HasDef K mg "shown" s_shown) (c_shown_sign : OkDef P w K mg base 2 "shown_sign" P_shown_sign d_shown_sign) (c_counting : OkDef P w K mg base 3 "counting" P_counting d_counting) (c_units : OkDef P w K mg base 1 "units" P_units d_units) : OkDef P w K mg base 4 "shown" P_shown d_shown := by
  unfold d_shown
  exact okdef (k := 3) (W := W_shown) (b := b_shown) h sc_shown (by decide) (fun _ _ _ _ _ _ us hl => match us, hl with | [_], _ => rfl) fun fA cdv A outer s H E hr =>
  (ass_cons (as_set (i := 1) sc_shown.nd rfl (by first | exact Or.inl rfl | exact Or.inr rfl) (ae_cV c_units (hr.mono (by decide)) (by rfl) (aa_cons (ae_var 0) aa_nil)))
  (ass_cons (as_set (i := 2) sc_shown.nd rfl (by first | exact Or.inl rfl | exact Or.inr rfl) (ae_cV c_counting (hr.mono (by decide)) (by rfl) (aa_cons (ae_var 1) (aa_cons (ae_str (s := [101, 110, 100])) aa_nil))))
  (ass_cons (as_setLc (i := 3) (own := [("number", 4)]) rfl sc_shown.nd rfl rfl (sw_true rfl rfl rfl (by decide +kernel)) (ai_a (ae_var 2)) (blkOk_by (N := N_shown) (sc := defScope s_shown) (by decide +kernel)) (fun _ _ _ _ _ => (ag_n (i := 4) sc_shown.nd rfl (by first | exact Or.inl rfl | exact Or.inr rfl))) bts_nil (fun _ _ _ _ _ => (ae_ix ix_seq gd_ix (ae_var 1) (ae_var 4))))
  (ass_one (as_ret (ae_tup (aa_cons (ae_bm PySem.F.plainAttrs_str PySem.F.slot_str_join PySem.F.type_str_join mt_join gm_join (ae_str (s := [])) (aa_cons (ae_fz (ae_lc (own := [("mode", 5), ("sign", 6)]) rfl sc_shown.nd (ai_a (ae_var 3)) (blkOk_by (N := N_shown) (sc := defScope s_shown) (by decide +kernel)) (fun _ _ _ _ _ => (ag_a rfl (ags_cons (ag_n (i := 5) sc_shown.nd rfl (by first | exact Or.inl rfl | exact Or.inr rfl)) (ags_cons (ag_n (i := 6) sc_shown.nd rfl (by first | exact Or.inl rfl | exact Or.inr rfl)) ags_nil)))) bts_nil (fun _ _ _ _ _ => (ae_cV c_shown_sign (hr.mono (by decide)) (by rfl) (aa_cons (ae_var 5) (aa_cons (ae_var 6) aa_nil)))))) aa_nil)) (aa_cons (ae_var 2) aa_nil))))))))
theorem ok_shortened (h : HasDef K mg "shortened" s_shortened) (c_tidy : OkDef P w K mg base 1 "tidy" P_tidy d_tidy) (c_counting : OkDef P w K mg base 3 "counting" P_counting d_counting) (c_units : OkDef P w K mg base 1 "units" P_units d_units) : OkDef P w K mg base 4 "shortened" P_shortened d_shortened := by
  unfold d_shortened
  exact okdef (k := 3) (W := W_shortened) (b := b_shortened) h sc_shortened (by decide) (fun _ _ _ _ _ _ us hl => match us, hl with | [_], _ => rfl) fun fA cdv A outer s H E hr =>
  (ass_cons (as_set (i := 1) sc_shortened.nd rfl (by first | exact Or.inl rfl | exact Or.inr rfl) (ae_cV c_units (hr.mono (by decide)) (by rfl) (aa_cons (ae_var 0) aa_nil)))
  (ass_one (as_ret (ae_cV c_tidy (hr.mono (by decide)) (by rfl) (aa_cons (ae_fz (ae_lc (own := [("number", 2)]) rfl sc_shortened.nd (ai_a (ae_cV c_counting (hr.mono (by decide)) (by rfl) (aa_cons (ae_var 1) (aa_cons ae_non aa_nil)))) (blkOk_by (N := N_shortened) (sc := defScope s_shortened) (by decide +kernel)) (fun _ _ _ _ _ => (ag_n (i := 2) sc_shortened.nd rfl (by first | exact Or.inl rfl | exact Or.inr rfl))) bts_nil (fun _ _ _ _ _ => (ae_ix ix_seq gd_ix (ae_var 1) (ae_var 2))))) aa_nil)))))
theorem ok_marks (h : HasDef K mg "marks" s_marks)  : OkDef P w K mg base 1 "marks" P_marks d_marks := by
  unfold d_marks
  exact okdefT (k := 0) (W := W_marks) (b := b_marks) h sc_marks (by decide) (by decide) (by decide +kernel) (fun _ _ _ _ _ _ us hl => match us, hl with | [_], _ => rfl) fun fA cdv A outer s H E hr =>
  (asst_one (ast_ret (aet_repl (y := (⟨([10] : List Nat).toArray⟩ : Str)) (z := (⟨([] : List Nat).toArray⟩ : Str)) (aet_repl (y := (⟨([32] : List Nat).toArray⟩ : Str)) (z := (⟨([] : List Nat).toArray⟩ : Str)) (aet_of (ae_var 0))))))
theorem ok_gap_form (h : HasDef K mg "gap_form" s_gap_form) (c_marks : OkDef P w K mg base 1 "marks" P_marks d_marks) (c_white : OkDef P w K mg base 2 "white" P_white d_white) : OkDef P w K mg base 3 "gap_form" P_gap_form d_gap_form := by
  unfold d_gap_form
  exact okdef (k := 2) (W := W_gap_form) (b := b_gap_form) h sc_gap_form (by decide) (fun _ _ _ _ _ _ us hl => match us, hl with | [_, _, _], _ => rfl) fun fA cdv A outer s H E hr =>
  (ass_cons (as_set (i := 3) sc_gap_form.nd rfl (by first | exact Or.inl rfl | exact Or.inr rfl) (ae_cV c_white (hr.mono (by decide)) (by rfl) (aa_cons (ae_var 0) (aa_cons (ae_var 1) (aa_cons (ae_var 2) aa_nil)))))
  (ass_cons (as_if (at_cmp op_lt gd_lt (ae_var 3) ae_int (nomark _))
  (ass_one (as_ret (ae_cV c_marks (hr.mono (by decide)) (by rfl) (aa_cons (ae_var 0) aa_nil))))
  ass_nil)
  (ass_cons (as_set (i := 4) sc_gap_form.nd rfl (by first | exact Or.inl rfl | exact Or.inr rfl) (ae_cV c_marks (hr.mono (by decide)) (by rfl) (aa_cons (ae_sl slr_a gd_sl (ae_var 0) ao_no (ao_some (ae_var 3))) aa_nil)))
  (ass_cons (as_set (i := 5) sc_gap_form.nd rfl (by first | exact Or.inl rfl | exact Or.inr rfl) (ae_cV c_marks (hr.mono (by decide)) (by rfl) (aa_cons (ae_sl slr_a gd_sl (ae_var 0) (ao_some (ae_op opr_add gd_add (ae_var 3) ae_int)) ao_no) aa_nil)))
  (ass_cons (as_if (at_w (aw_and (at_cmp opr_isnot gd_isnot (ae_var 1) ae_non (nomark _)) (aw_and1 (at_cmp opr_isnot gd_isnot (ae_var 2) ae_non (nomark _)))))
  (ass_one (as_ret (ae_op opr_add gd_add (ae_op opr_add gd_add (ae_var 4) (ae_str (s := [32]))) (ae_var 5))))
  ass_nil)
  (ass_cons (as_if (at_w (aw_and (at_cmp (opr_eq (hu64 hr)) gd_eq (ae_ix ix_seq gd_ix (ae_var 0) (ae_var 3)) (ae_str (s := [10])) (nomark _)) (aw_and1 (at_cmp (opr_eq (hu64 hr)) gd_eq (ae_var 2) (ae_str (s := [122, 101, 114, 111])) (nomark _)))))
  (ass_one (as_ret (ae_op opr_add gd_add (ae_op opr_add gd_add (ae_var 4) (ae_var 5)) (ae_str (s := [10])))))
  ass_nil)
  (ass_cons (as_if (at_w (aw_and (at_cmp (opr_eq (hu64 hr)) gd_eq (ae_ix ix_seq gd_ix (ae_var 0) (ae_var 3)) (ae_str (s := [10])) (nomark _)) (aw_and1 (at_cmp (opr_eq (hu64 hr)) gd_eq (ae_var 1) (ae_str (s := [122, 101, 114, 111])) (nomark _)))))
  (ass_one (as_ret (ae_op opr_add gd_add (ae_op opr_add gd_add (ae_str (s := [10])) (ae_var 4)) (ae_var 5))))
  ass_nil)
  (ass_one (as_ret (ae_op opr_add gd_add (ae_op opr_add gd_add (ae_var 4) (ae_ix ix_seq gd_ix (ae_var 0) (ae_var 3))) (ae_var 5)))))))))))
theorem ok_normal_form (h : HasDef K mg "normal_form" s_normal_form) (m_len : mg "len" = none) (c_gaps : OkDef P w K mg base 2 "gaps" P_gaps d_gaps) (c_shown_sign : OkDef P w K mg base 2 "shown_sign" P_shown_sign d_shown_sign) (c_gap_form : OkDef P w K mg base 3 "gap_form" P_gap_form d_gap_form) (c_units : OkDef P w K mg base 1 "units" P_units d_units) : OkDef P w K mg base 4 "normal_form" P_normal_form d_normal_form := by
  unfold d_normal_form
  exact okdef (k := 3) (W := W_normal_form) (b := b_normal_form) h sc_normal_form (by decide) (fun _ _ _ _ _ _ us hl => match us, hl with | [_], _ => rfl) fun fA cdv A outer s H E hr =>
  (ass_cons (as_set (i := 1) sc_normal_form.nd rfl (by first | exact Or.inl rfl | exact Or.inr rfl) (ae_cV c_units (hr.mono (by decide)) (by rfl) (aa_cons (ae_var 0) aa_nil)))
  (ass_cons (as_set (i := 2) sc_normal_form.nd rfl (by first | exact Or.inl rfl | exact Or.inr rfl) (ae_lst aa_nil))
  (ass_cons (as_for PassesOwn.never rfl (ai_a (ae_cV c_gaps (hr.mono (by decide)) (by rfl) (aa_cons (ae_var 1) (aa_cons ae_non aa_nil)))) (ag_a rfl (ags_cons (ag_n (i := 3) sc_normal_form.nd rfl (by first | exact Or.inl rfl | exact Or.inr rfl)) (ags_cons (ag_n (i := 4) sc_normal_form.nd rfl (by first | exact Or.inl rfl | exact Or.inr rfl)) (ags_cons (ag_n (i := 5) sc_normal_form.nd rfl (by first | exact Or.inl rfl | exact Or.inr rfl)) (ags_cons (ag_n (i := 6) sc_normal_form.nd rfl (by first | exact Or.inl rfl | exact Or.inr rfl)) ags_nil)))))
  (ass_cons (as_expr (ae_app (i := 2) (ae_cV c_gap_form (hr.mono (by decide)) (by rfl) (aa_cons (ae_var 4) (aa_cons (ae_var 5) (aa_cons (ae_var 6) aa_nil))))))
  (ass_one (as_if (at_cmp opr_isnot gd_isnot (ae_var 6) ae_non (nomark _))
  (ass_cons (as_asg (ae_ix ix_seq gd_ix (ae_var 1) (ae_op opr_add gd_add (ae_var 3) (ae_cb call_len gc_len (by rfl) m_len (by decide +kernel) (aa_cons (ae_var 4) aa_nil)))) (ag_a rfl (ags_cons (ag_n (i := 7) sc_normal_form.nd rfl (by first | exact Or.inl rfl | exact Or.inr rfl)) (ags_cons (ag_n (i := 8) sc_normal_form.nd rfl (by first | exact Or.inl rfl | exact Or.inr rfl)) ags_nil))))
  (ass_one (as_expr (ae_app (i := 2) (ae_cV c_shown_sign (hr.mono (by decide)) (by rfl) (aa_cons (ae_var 7) (aa_cons (ae_var 8) aa_nil)))))))
  ass_nil))))
  (ass_cons (as_if (at_cmp (opr_eq (hu64 hr)) gd_eq (ae_cb call_len gc_len (by rfl) m_len (by decide +kernel) (aa_cons (ae_var 2) aa_nil)) ae_int (nomark _))
  (ass_one (as_ret (ae_tup (aa_cons (ae_ix ix_seq gd_ix (ae_var 2) ae_int) (aa_cons (ae_str (s := [])) (aa_cons (ae_str (s := [])) aa_nil))))))
  ass_nil)
  (ass_one (as_ret (ae_tup (aa_cons (ae_ix ix_seq gd_ix (ae_var 2) ae_int) (aa_cons (ae_bm PySem.F.plainAttrs_str PySem.F.slot_str_join PySem.F.type_str_join mt_join gm_join (ae_str (s := [])) (aa_cons (ae_sl slr_a gd_sl (ae_fz (ae_var 2)) (ao_some ae_int) (ao_some (ae_un un_neg gd_neg ae_int))) aa_nil)) (aa_cons (ae_ix ix_seq gd_ix (ae_var 2) (ae_un un_neg gd_neg ae_int)) aa_nil))))))))))
theorem ok_stands_for (h : HasDef K mg "stands_for" s_stands_for) (c_tidy : OkDef P w K mg base 1 "tidy" P_tidy d_tidy) (c_units : OkDef P w K mg base 1 "units" P_units d_units) : OkDef P w K mg base 2 "stands_for" P_stands_for d_stands_for := by
  unfold d_stands_for
  exact okdef (k := 1) (W := W_stands_for) (b := b_stands_for) h sc_stands_for (by decide) (fun _ _ _ _ _ _ us hl => match us, hl with | [_], _ => rfl) fun fA cdv A outer s H E hr =>
  (ass_cons (as_asg (ae_var 0) (ag_a rfl (ags_cons (ag_n (i := 1) sc_stands_for.nd rfl (by first | exact Or.inl rfl | exact Or.inr rfl)) (ags_cons (ag_n (i := 2) sc_stands_for.nd rfl (by first | exact Or.inl rfl | exact Or.inr rfl)) (ags_cons (ag_n (i := 3) sc_stands_for.nd rfl (by first | exact Or.inl rfl | exact Or.inr rfl)) ags_nil)))))
  (ass_one (as_ret (ae_cV c_tidy (hr.mono (by decide)) (by rfl) (aa_cons (ae_cV c_units (hr.mono (by decide)) (by rfl) (aa_cons (ae_fz (ae_lst (aa_cons (ae_tup (aa_cons (ae_str (s := [99, 111, 108, 108, 97, 112, 115, 101])) (aa_cons (ae_var 1) aa_nil))) (aa_cons (ae_tup (aa_cons (ae_str (s := [112, 114, 101, 115, 101, 114, 118, 101])) (aa_cons (ae_var 2) aa_nil))) (aa_cons (ae_tup (aa_cons (ae_str (s := [99, 111, 108, 108, 97, 112, 115, 101])) (aa_cons (ae_var 3) aa_nil))) aa_nil))))) aa_nil)) aa_nil)))))
theorem ok_are_alike (h : HasDef K mg "are_alike" s_are_alike) (c_normal_form : OkDef P w K mg base 4 "normal_form" P_normal_form d_normal_form) : OkDef P w K mg base 5 "are_alike" P_are_alike d_are_alike := by
  unfold d_are_alike
  exact okdef (k := 4) (W := W_are_alike) (b := b_are_alike) h sc_are_alike (by decide) (fun _ _ _ _ _ _ us hl => match us, hl with | [_, _], _ => rfl) fun fA cdv A outer s H E hr =>
  (ass_one (as_ret (ae_cmp (opr_eq (hu64 hr)) gd_eq (ae_cV c_normal_form (hr.mono (by decide)) (by rfl) (aa_cons (ae_var 0) aa_nil)) (ae_cV c_normal_form (hr.mono (by decide)) (by rfl) (aa_cons (ae_var 1) aa_nil)) (nomark _))))
theorem ok_is_telling (h : HasDef K mg "is_telling" s_is_telling) (c_shown : OkDef P w K mg base 4 "shown" P_shown d_shown) : OkDef P w K mg base 5 "is_telling" P_is_telling d_is_telling := by
  unfold d_is_telling
  exact okdef (k := 4) (W := W_is_telling) (b := b_is_telling) h sc_is_telling (by decide) (fun _ _ _ _ _ _ us hl => match us, hl with | [_, _, _], _ => rfl) fun fA cdv A outer s H E hr =>
  (ass_cons (as_asg (ae_var 2) (ag_a rfl (ags_cons (ag_n (i := 3) sc_is_telling.nd rfl (by first | exact Or.inl rfl | exact Or.inr rfl)) (ags_cons (ag_n (i := 4) sc_is_telling.nd rfl (by first | exact Or.inl rfl | exact Or.inr rfl)) ags_nil))))
  (ass_cons (as_set (i := 5) sc_is_telling.nd rfl (by first | exact Or.inl rfl | exact Or.inr rfl) (ae_fz (ae_lst (aa_cons (ae_tup (aa_cons (ae_str (s := [99, 111, 108, 108, 97, 112, 115, 101])) (aa_cons (ae_var 3) aa_nil))) aa_nil))))
  (ass_cons (as_set (i := 6) sc_is_telling.nd rfl (by first | exact Or.inl rfl | exact Or.inr rfl) (ae_fz (ae_lst (aa_cons (ae_tup (aa_cons (ae_str (s := [99, 111, 108, 108, 97, 112, 115, 101])) (aa_cons (ae_var 4) aa_nil))) aa_nil))))
  (ass_one (as_ret (ae_cmp (opr_ne (hu64 hr)) gd_ne (ae_ix ix_seq gd_ix (ae_cV c_shown (hr.mono (by decide)) (by rfl) (aa_cons (ae_op opr_add gd_add (ae_op opr_add gd_add (ae_var 5) (ae_var 0)) (ae_var 6)) aa_nil)) ae_int) (ae_ix ix_seq gd_ix (ae_cV c_shown (hr.mono (by decide)) (by rfl) (aa_cons (ae_op opr_add gd_add (ae_op opr_add gd_add (ae_var 5) (ae_var 1)) (ae_var 6)) aa_nil)) ae_int) (nomark _)))))))
theorem ok_telling (h : HasDef K mg "telling" s_telling) {a_CONTEXTS : Addr} (m_CONTEXTS : mg "CONTEXTS" = some (.ref a_CONTEXTS)) (k_CONTEXTS : ∀ G H, Rep K G H (.tup [(.tup [(.str []), (.str [])]), (.tup [(.str [97]), (.str [])]), (.tup [(.str [94]), (.str [])]), (.tup [(.str [97, 32]), (.str [])]), (.tup [(.str []), (.str [97])]), (.tup [(.str []), (.str [94])]), (.tup [(.str []), (.str [32, 97])]), (.tup [(.str [97]), (.str [97])]), (.tup [(.str [94]), (.str [97])])]) (.ref a_CONTEXTS) Em) (c_is_telling : OkDef P w K mg base 5 "is_telling" P_is_telling d_is_telling) : OkDef P w K mg base 6 "telling" P_telling d_telling := by
  unfold d_telling
  exact okdef (k := 5) (W := W_telling) (b := b_telling) h sc_telling (by decide) (fun _ _ _ _ _ _ us hl => match us, hl with | [_, _], _ => rfl) fun fA cdv A outer s H E hr =>
  (ass_cons (as_for PassesOwn.never rfl (ai_a (ae_gl m_CONTEXTS k_CONTEXTS rfl (by rfl))) (ag_n (i := 2) sc_telling.nd rfl (by first | exact Or.inl rfl | exact Or.inr rfl))
  (ass_one (as_if (at_tru (ae_cV c_is_telling (hr.mono (by decide)) (by rfl) (aa_cons (ae_var 0) (aa_cons (ae_var 1) (aa_cons (ae_var 2) aa_nil)))))
  (ass_one (as_ret (ae_var 2)))
  ass_nil)))
  (ass_one (as_ret ae_non)))
theorem ok_law_cell (h : HasDef K mg "_law_cell" s_law_cell) (m_len : mg "len" = none) : OkDef P w K mg base 1 "_law_cell" P_law_cell d_law_cell := by
  unfold d_law_cell
  exact okdef (k := 0) (W := W_law_cell) (b := b_law_cell) h sc_law_cell (by decide) (fun _ _ _ _ _ _ us hl => match us, hl with | [_, _], _ => rfl) fun fA cdv A outer s H E hr =>
  (ass_cons (as_if (at_cmp op_lt gd_lt (ae_var 1) (ae_cb call_len gc_len (by rfl) m_len (by decide +kernel) (aa_cons (ae_var 0) aa_nil)) (nomark _))
  (ass_one (as_ret (ae_ix ix_seq gd_ix (ae_var 0) (ae_var 1))))
  ass_nil)
  (ass_one (as_ret ae_int)))
theorem ok_law_row (h : HasDef K mg "_law_row" s_law_row) (m_range : mg "range" = none) (m_int : mg "int" = none) (m_abs : mg "abs" = none) (c_law_cell : OkDef P w K mg base 1 "_law_cell" P_law_cell d_law_cell) : OkDef P w K mg base 2 "_law_row" P_law_row d_law_row := by
  unfold d_law_row
  exact okdef (k := 1) (W := W_law_row) (b := b_law_row) h sc_law_row (by decide) (fun _ _ _ _ _ _ us hl => match us, hl with | [_, _, _], _ => rfl) fun fA cdv A outer s H E hr =>
  (ass_cons (as_set (i := 3) sc_law_row.nd rfl (by first | exact Or.inl rfl | exact Or.inr rfl) (ae_lst aa_nil))
  (ass_cons (as_for PassesOwn.never rfl (ai_r2 (by rfl) m_range (aa_cons (ae_var 1) (aa_cons (ae_var 2) aa_nil))) (ag_n (i := 4) sc_law_row.nd rfl (by first | exact Or.inl rfl | exact Or.inr rfl))
  (ass_cons (as_set (i := 5) sc_law_row.nd rfl (by first | exact Or.inl rfl | exact Or.inr rfl) (ae_cV c_law_cell (hr.mono (by decide)) (by rfl) (aa_cons (ae_var 0) (aa_cons (ae_var 4) aa_nil))))
  (ass_cons (as_set (i := 5) sc_law_row.nd rfl (by first | exact Or.inl rfl | exact Or.inr rfl) (ae_op opr_add gd_add (ae_cb call_abs gc_abs (by rfl) m_abs (by decide +kernel) (aa_cons (ae_op opr_mul gd_mul ae_int (ae_var 5)) aa_nil)) (ae_ct call_int1 gc_int (by rfl) m_int (by decide +kernel) (aa_cons (ae_cmp op_lt gd_lt (ae_var 5) ae_int (nomark _)) aa_nil))))
  (ass_one (as_if (at_cmp op_gt gd_gt (ae_var 5) (ae_op op_pow gd_pow ae_int ae_int) (nomark _))
  (ass_one (as_for PassesOwn.never rfl (ai_r1 (by rfl) m_range (aa_cons ae_int aa_nil)) (ag_n (i := 6) sc_law_row.nd rfl (by first | exact Or.inl rfl | exact Or.inr rfl))
  (ass_one (as_if (at_cmp op_gt gd_gt (ae_var 5) ae_int (nomark _))
  (ass_cons (as_expr (ae_app (i := 3) (ae_op op_mod gd_mod (ae_ct call_int1 gc_int (by rfl) m_int (by decide +kernel) (aa_cons (ae_var 5) aa_nil)) ae_int)))
  (ass_one (as_set (i := 5) sc_law_row.nd rfl (by first | exact Or.inl rfl | exact Or.inr rfl) (ae_op op_fdiv gd_div (ae_var 5) ae_int))))
  ass_nil))))
  (ass_one (as_for PassesOwn.never rfl (ai_r1 (by rfl) m_range (aa_cons ae_int aa_nil)) (ag_n (i := 6) sc_law_row.nd rfl (by first | exact Or.inl rfl | exact Or.inr rfl))
  (ass_cons (as_set (i := 5) sc_law_row.nd rfl (by first | exact Or.inl rfl | exact Or.inr rfl) (ae_op op_mod gd_mod (ae_ct call_int1 gc_int (by rfl) m_int (by decide +kernel) (aa_cons (ae_op opr_add gd_add (ae_op opr_add gd_add (ae_op opr_mul gd_mul (ae_var 5) ae_int) (ae_op opr_mul gd_mul ae_int (ae_op opr_add gd_add (ae_var 4) (ae_var 6)))) ae_int) aa_nil)) ae_int))
  (ass_one (as_expr (ae_app (i := 3) (ae_op op_mod gd_mod (ae_ct call_int1 gc_int (by rfl) m_int (by decide +kernel) (aa_cons (ae_op op_fdiv gd_div (ae_var 5) ae_int) aa_nil)) ae_int))))))))))))
  (ass_one (as_ret (ae_fz (ae_var 3))))))
theorem ok_law_draw (h : HasDef K mg "_law_draw" s_law_draw) (m_int : mg "int" = none) (m_len : mg "len" = none) : OkDef P w K mg base 1 "_law_draw" P_law_draw d_law_draw := by
  unfold d_law_draw
  exact okdef (k := 0) (W := W_law_draw) (b := b_law_draw) h sc_law_draw (by decide) (fun _ _ _ _ _ _ us hl => match us, hl with | [_, _], _ => rfl) fun fA cdv A outer s H E hr =>
  (ass_cons (as_set (i := 2) sc_law_draw.nd rfl (by first | exact Or.inl rfl | exact Or.inr rfl) (ae_ix ix_seq gd_ix (ae_var 0) ae_int))
  (ass_cons (as_sto (ae_op opr_add gd_add (ae_var 2) ae_int) (al_v 0) ak_c)
  (ass_cons (as_if (at_cmp op_lt gd_lt (ae_var 2) (ae_cb call_len gc_len (by rfl) m_len (by decide +kernel) (aa_cons (ae_ix ix_seq gd_ix (ae_var 0) ae_int) aa_nil)) (nomark _))
  (ass_one (as_ret (ae_op op_mod gd_mod (ae_ct call_int1 gc_int (by rfl) m_int (by decide +kernel) (aa_cons (ae_ix ix_seq gd_ix (ae_ix ix_seq gd_ix (ae_var 0) ae_int) (ae_var 2)) aa_nil)) (ae_var 1))))
  ass_nil)
  (ass_one (as_ret (ae_op op_mod gd_mod (ae_ct call_int1 gc_int (by rfl) m_int (by decide +kernel) (aa_cons (ae_op opr_add gd_add (ae_op opr_mul gd_mul (ae_var 2) ae_int) ae_int) aa_nil)) (ae_var 1)))))))
theorem ok_law_fragment (h : HasDef K mg "_law_fragment" s_law_fragment) (m_range : mg "range" = none) (c_law_draw : OkDef P w K mg base 1 "_law_draw" P_law_draw d_law_draw) : OkDef P w K mg base 2 "_law_fragment" P_law_fragment d_law_fragment := by
  unfold d_law_fragment
  exact okdef (k := 1) (W := W_law_fragment) (b := b_law_fragment) h sc_law_fragment (by decide) (fun _ _ _ _ _ _ us hl => match us, hl with | [_, _], _ => rfl) fun fA cdv A outer s H E hr =>
  (ass_cons (as_set (i := 2) sc_law_fragment.nd rfl (by first | exact Or.inl rfl | exact Or.inr rfl) (ae_lst aa_nil))
  (ass_cons (as_for PassesOwn.never rfl (ai_r1 (by rfl) m_range (aa_cons (ae_cL 0 c_law_draw (hr.mono (by decide)) (by rfl) (aa_cons ae_int aa_nil)) aa_nil)) (ag_n (i := 3) sc_law_fragment.nd rfl (by first | exact Or.inl rfl | exact Or.inr rfl))
  (ass_cons (as_set (i := 4) sc_law_fragment.nd rfl (by first | exact Or.inl rfl | exact Or.inr rfl) (ae_ix ix_seq gd_ix (ae_fz (ae_lst (aa_cons (ae_str (s := [99, 111, 108, 108, 97, 112, 115, 101])) (aa_cons (ae_str (s := [99, 111, 108, 108, 97, 112, 115, 101])) (aa_cons (ae_str (s := [98, 114, 101, 97, 107, 115])) (aa_cons (ae_str (s := [112, 114, 101, 115, 101, 114, 118, 101])) aa_nil)))))) (ae_cL 0 c_law_draw (hr.mono (by decide)) (by rfl) (aa_cons ae_int aa_nil))))
  (ass_cons (as_set (i := 5) sc_law_fragment.nd rfl (by first | exact Or.inl rfl | exact Or.inr rfl) (ae_str (s := [])))
  (ass_cons (as_for PassesOwn.never rfl (ai_r1 (by rfl) m_range (aa_cons (ae_cL 0 c_law_draw (hr.mono (by decide)) (by rfl) (aa_cons (ae_var 1) aa_nil)) aa_nil)) (ag_n (i := 6) sc_law_fragment.nd rfl (by first | exact Or.inl rfl | exact Or.inr rfl))
  (ass_one (as_set (i := 5) sc_law_fragment.nd rfl (by first | exact Or.inl rfl | exact Or.inr rfl) (ae_op opr_add gd_add (ae_var 5) (ae_ix ix_seq gd_ix (ae_str (s := [32, 32, 10, 10, 124, 124, 94, 94, 60, 62, 65, 65, 66, 98, 97, 120, 55])) (ae_cL 0 c_law_draw (hr.mono (by decide)) (by rfl) (aa_cons ae_int aa_nil)))))))
  (ass_one (as_expr (ae_app (i := 2) (ae_tup (aa_cons (ae_var 4) (aa_cons (ae_var 5) aa_nil))))))))))
  (ass_one (as_ret (ae_fz (ae_var 2))))))
theorem ok_law_units (h : HasDef K mg "_law_units" s_law_units)  : OkDef P w K mg base 1 "_law_units" P_law_units d_law_units := by
  unfold d_law_units
  exact okdef (k := 0) (W := W_law_units) (b := b_law_units) h sc_law_units (by decide) (fun _ _ _ _ _ _ us hl => match us, hl with | [_], _ => rfl) fun fA cdv A outer s H E hr =>
  (ass_cons (as_set (i := 1) sc_law_units.nd rfl (by first | exact Or.inl rfl | exact Or.inr rfl) (ae_lst aa_nil))
  (ass_cons (as_for PassesOwn.never rfl (ai_a (ae_var 0)) (ag_a rfl (ags_cons (ag_n (i := 2) sc_law_units.nd rfl (by first | exact Or.inl rfl | exact Or.inr rfl)) (ags_cons (ag_n (i := 3) sc_law_units.nd rfl (by first | exact Or.inl rfl | exact Or.inr rfl)) ags_nil)))
  (ass_one (as_expr (ae_ext (i := 1) (ae_fz (ae_lc (own := [("sign", 4)]) rfl sc_law_units.nd (ai_a (ae_var 3)) (blkOk_by (N := N_law_units) (sc := defScope s_law_units) (by decide +kernel)) (fun _ _ _ _ _ => (ag_n (i := 4) sc_law_units.nd rfl (by first | exact Or.inl rfl | exact Or.inr rfl))) bts_nil (fun _ _ _ _ _ => (ae_tup (aa_cons (ae_var 2) (aa_cons (ae_var 4) aa_nil))))))))))
  (ass_one (as_ret (ae_fz (ae_var 1))))))
theorem ok_law_tidy (h : HasDef K mg "_law_tidy" s_law_tidy) (m_len : mg "len" = none) : OkDef P w K mg base 1 "_law_tidy" P_law_tidy d_law_tidy := by
  unfold d_law_tidy
  exact okdef (k := 0) (W := W_law_tidy) (b := b_law_tidy) h sc_law_tidy (by decide) (fun _ _ _ _ _ _ us hl => match us, hl with | [_], _ => rfl) fun fA cdv A outer s H E hr =>
  (ass_cons (as_set (i := 1) sc_law_tidy.nd rfl (by first | exact Or.inl rfl | exact Or.inr rfl) (ae_lst aa_nil))
  (ass_cons (as_for PassesOwn.never rfl (ai_a (ae_var 0)) (ag_a rfl (ags_cons (ag_n (i := 2) sc_law_tidy.nd rfl (by first | exact Or.inl rfl | exact Or.inr rfl)) (ags_cons (ag_n (i := 3) sc_law_tidy.nd rfl (by first | exact Or.inl rfl | exact Or.inr rfl)) ags_nil)))
  (ass_one (as_if (at_w (aw_and (at_cmp op_gt gd_gt (ae_cb call_len gc_len (by rfl) m_len (by decide +kernel) (aa_cons (ae_var 1) aa_nil)) ae_int (nomark _)) (aw_and1 (at_cmp (opr_eq (hu64 hr)) gd_eq (ae_ix ix_seq gd_ix (ae_ix ix_seq gd_ix (ae_var 1) (ae_un un_neg gd_neg ae_int)) ae_int) (ae_var 2) (nomark _)))))
  (ass_one (as_sto (ae_tup (aa_cons (ae_var 2) (aa_cons (ae_op opr_add gd_add (ae_ix ix_seq gd_ix (ae_ix ix_seq gd_ix (ae_var 1) (ae_un un_neg gd_neg ae_int)) ae_int) (ae_var 3)) aa_nil))) (al_v 1) ak_n))
  (ass_one (as_expr (ae_app (i := 1) (ae_tup (aa_cons (ae_var 2) (aa_cons (ae_var 3) aa_nil)))))))))
  (ass_one (as_ret (ae_fz (ae_var 1))))))
theorem ok_law_kind (h : HasDef K mg "_law_kind" s_law_kind) (m_int : mg "int" = none) : OkDef P w K mg base 1 "_law_kind" P_law_kind d_law_kind := by
  unfold d_law_kind
  exact okdef (k := 0) (W := W_law_kind) (b := b_law_kind) h sc_law_kind (by decide) (fun _ _ _ _ _ _ us hl => match us, hl with | [_], _ => rfl) fun fA cdv A outer s H E hr =>
  (ass_cons (as_set (i := 1) sc_law_kind.nd rfl (by first | exact Or.inl rfl | exact Or.inr rfl) (ae_ix ix_seq gd_ix (ae_var 0) ae_int))
  (ass_cons (as_set (i := 2) sc_law_kind.nd rfl (by first | exact Or.inl rfl | exact Or.inr rfl) (ae_ix ix_seq gd_ix (ae_var 0) ae_int))
  (ass_cons (as_if (at_cmp (opr_eq (hu64 hr)) gd_eq (ae_var 2) (ae_str (s := [32])) (nomark _))
  (ass_one (as_ret (ae_ix ix_seq gd_ix (ae_fz (ae_lst (aa_cons (ae_str (s := [115, 112, 97, 99, 101])) (aa_cons (ae_str (s := [111, 116, 104, 101, 114])) aa_nil)))) (ae_ct call_int1 gc_int (by rfl) m_int (by decide +kernel) (aa_cons (ae_cmp (opr_eq (hu64 hr)) gd_eq (ae_var 1) (ae_str (s := [112, 114, 101, 115, 101, 114, 118, 101])) (nomark _)) aa_nil)))))
  ass_nil)
  (ass_cons (as_if (at_cmp (opr_eq (hu64 hr)) gd_eq (ae_var 2) (ae_str (s := [10])) (nomark _))
  (ass_one (as_ret (ae_ix ix_seq gd_ix (ae_fz (ae_lst (aa_cons (ae_str (s := [101, 110, 100])) (aa_cons (ae_str (s := [102, 101, 101, 100])) aa_nil)))) (ae_ct call_int1 gc_int (by rfl) m_int (by decide +kernel) (aa_cons (ae_cmp (opr_eq (hu64 hr)) gd_eq (ae_var 1) (ae_str (s := [99, 111, 108, 108, 97, 112, 115, 101])) (nomark _)) aa_nil)))))
  ass_nil)
  (ass_cons (as_if (at_cmp (opr_in (hu65 hr)) gd_in (ae_var 2) (ae_str (s := [124, 94, 60, 62])) (by with_unfolding_all rfl))
  (ass_one (as_ret (ae_disp (tab := [([124], [101, 110, 100]), ([94], [122, 101, 114, 111]), ([60], [109, 97, 114, 107]), ([62], [109, 97, 114, 107])]) (hu1 hr) (pps_cons pe_str pe_str (pps_cons pe_str pe_str (pps_cons pe_str pe_str (pps_cons pe_str pe_str pps_nil)))) rfl (ae_var 2) (by decide))))
  ass_nil)
  (ass_one (as_ret (ae_ix ix_seq gd_ix (ae_fz (ae_lst (aa_cons (ae_str (s := [111, 116, 104, 101, 114])) (aa_cons (ae_str (s := [119, 105, 100, 101])) aa_nil)))) (ae_ct call_int1 gc_int (by rfl) m_int (by decide +kernel) (aa_cons (ae_cmp (opr_in (hu65 hr)) gd_in (ae_var 2) (ae_str (s := [65, 66, 67, 68, 69, 70, 71, 72, 73, 74, 75, 76, 77, 78, 79, 80, 81, 82, 83, 84, 85, 86, 87, 88, 89, 90])) (by with_unfolding_all rfl)) aa_nil))))))))))
theorem ok_law_gaps (h : HasDef K mg "_law_gaps" s_law_gaps) (m_range : mg "range" = none) (m_len : mg "len" = none) (c_law_kind : OkDef P w K mg base 1 "_law_kind" P_law_kind d_law_kind) : OkDef P w K mg base 2 "_law_gaps" P_law_gaps d_law_gaps := by
  unfold d_law_gaps
  exact okdef (k := 1) (W := W_law_gaps) (b := b_law_gaps) h sc_law_gaps (by decide) (fun _ _ _ _ _ _ us hl => match us, hl with | [_], _ => rfl) fun fA cdv A outer s H E hr =>
  (ass_cons (as_setLc (i := 1) (own := [("unit", 4)]) rfl sc_law_gaps.nd rfl rfl (sw_true rfl rfl rfl (by decide +kernel)) (ai_a (ae_var 0)) (blkOk_by (N := N_law_gaps) (sc := defScope s_law_gaps) (by decide +kernel)) (fun _ _ _ _ _ => (ag_n (i := 4) sc_law_gaps.nd rfl (by first | exact Or.inl rfl | exact Or.inr rfl))) bts_nil (fun _ _ _ _ _ => (ae_cV c_law_kind (hr.mono (by decide)) (by rfl) (aa_cons (ae_var 4) aa_nil))))
  (ass_cons (as_set (i := 2) sc_law_gaps.nd rfl (by first | exact Or.inl rfl | exact Or.inr rfl) (ae_lst (aa_cons (ae_lst (aa_cons (ae_lst aa_nil) (aa_cons ae_non (aa_cons ae_non aa_nil)))) aa_nil)))
  (ass_cons (as_for PassesOwn.never rfl (ai_r1 (by rfl) m_range (aa_cons (ae_cb call_len gc_len (by rfl) m_len (by decide +kernel) (aa_cons (ae_var 0) aa_nil)) aa_nil)) (ag_n (i := 3) sc_law_gaps.nd rfl (by first | exact Or.inl rfl | exact Or.inr rfl))
  (ass_one (as_if (at_cmp (opr_in (hu65 hr)) gd_in (ae_ix ix_seq gd_ix (ae_var 1) (ae_var 3)) (ae_tup (aa_cons (ae_str (s := [115, 112, 97, 99, 101])) (aa_cons (ae_str (s := [102, 101, 101, 100])) (aa_cons (ae_str (s := [109, 97, 114, 107])) aa_nil)))) (by with_unfolding_all rfl))
  (ass_one (as_expr (ae_appP (al_ix (al_ix (al_v 2) ak_n) ak_c) (ap_v 3))))
  (ass_cons (as_sto (ae_ix ix_seq gd_ix (ae_var 1) (ae_var 3)) (al_ix (al_v 2) ak_n) ak_c)
  (ass_one (as_expr (ae_app (i := 2) (ae_lst (aa_cons (ae_lst aa_nil) (aa_cons (ae_ix ix_seq gd_ix (ae_var 1) (ae_var 3)) (aa_cons ae_non aa_nil)))))))))))
  (ass_one (as_ret (ae_mv 2))))))
theorem ok_law_join (h : HasDef K mg "_law_join" s_law_join)  : OkDef P w K mg base 1 "_law_join" P_law_join d_law_join := by
  unfold d_law_join
  exact okdef (k := 0) (W := W_law_join) (b := b_law_join) h sc_law_join (by decide) (fun _ _ _ _ _ _ us hl => match us, hl with | [_, _], _ => rfl) fun fA cdv A outer s H E hr =>
  (ass_one (as_ret (ae_or (ae_cmp (opr_eq (hu64 hr)) gd_eq (ae_var 0) (ae_str (s := [122, 101, 114, 111])) (nomark _)) (ae_or (ae_cmp (opr_eq (hu64 hr)) gd_eq (ae_var 1) (ae_str (s := [122, 101, 114, 111])) (nomark _)) (ae_one (ae_and (ae_cmp (opr_eq (hu64 hr)) gd_eq (ae_var 0) (ae_str (s := [119, 105, 100, 101])) (nomark _)) (ae_one (ae_cmp (opr_eq (hu64 hr)) gd_eq (ae_var 1) (ae_str (s := [119, 105, 100, 101])) (nomark _)))))))))
theorem ok_law_kept (h : HasDef K mg "_law_kept" s_law_kept) (c_law_join : OkDef P w K mg base 1 "_law_join" P_law_join d_law_join) (c_law_kind : OkDef P w K mg base 1 "_law_kind" P_law_kind d_law_kind) : OkDef P w K mg base 2 "_law_kept" P_law_kept d_law_kept := by
  unfold d_law_kept
  exact okdef (k := 1) (W := W_law_kept) (b := b_law_kept) h sc_law_kept (by decide) (fun _ _ _ _ _ _ us hl => match us, hl with | [_, _], _ => rfl) fun fA cdv A outer s H E hr =>
  (ass_cons (as_setLc (i := 2) (own := [("k", 3)]) rfl sc_law_kept.nd rfl rfl (sw_true rfl rfl rfl (by decide +kernel)) (ai_a (ae_ix ix_seq gd_ix (ae_var 1) ae_int)) (blkOk_by (N := N_law_kept) (sc := defScope s_law_kept) (by decide +kernel)) (fun _ _ _ _ _ => (ag_n (i := 3) sc_law_kept.nd rfl (by first | exact Or.inl rfl | exact Or.inr rfl))) bts_nil (fun _ _ _ _ _ => (ae_cV c_law_kind (hr.mono (by decide)) (by rfl) (aa_cons (ae_ix ix_seq gd_ix (ae_var 0) (ae_var 3)) aa_nil))))
  (ass_cons (as_if (at_w (aw_or (at_cmp (opr_eq (hu64 hr)) gd_eq (ae_ix ix_seq gd_ix (ae_var 1) ae_int) (ae_str (s := [101, 110, 100])) (nomark _)) (aw_or1 (at_cmp (opr_eq (hu64 hr)) gd_eq (ae_ix ix_seq gd_ix (ae_var 1) ae_int) (ae_str (s := [101, 110, 100])) (nomark _)))))
  (ass_one (as_ret (ae_un un_neg gd_neg ae_int)))
  ass_nil)
  (ass_cons (as_if (at_cmp (opr_in (hu65 hr)) gd_in (ae_str (s := [102, 101, 101, 100])) (ae_var 2) (by with_unfolding_all rfl))
  (ass_cons (as_if (at_w (aw_and (at_cmp opr_isnot gd_isnot (ae_ix ix_seq gd_ix (ae_var 1) ae_int) ae_non (nomark _)) (aw_and (at_cmp opr_isnot gd_isnot (ae_ix ix_seq gd_ix (ae_var 1) ae_int) ae_non (nomark _)) (aw_and1 (at_tru (ae_cV c_law_join (hr.mono (by decide)) (by rfl) (aa_cons (ae_ix ix_seq gd_ix (ae_var 1) ae_int) (aa_cons (ae_ix ix_seq gd_ix (ae_var 1) ae_int) aa_nil))))))))
  (ass_one (as_ret (ae_un un_neg gd_neg ae_int)))
  ass_nil)
  (ass_one (as_ret (ae_ix ix_seq gd_ix (ae_ix ix_seq gd_ix (ae_var 1) ae_int) (ae_bm PySem.F.plainAttrs_list PySem.F.slot_list_index PySem.F.type_list_index mt_index gm_index (ae_var 2) (aa_cons (ae_str (s := [102, 101, 101, 100])) aa_nil))))))
  ass_nil)
  (ass_cons (as_if (at_cmp (opr_in (hu65 hr)) gd_in (ae_str (s := [115, 112, 97, 99, 101])) (ae_var 2) (by with_unfolding_all rfl))
  (ass_one (as_ret (ae_ix ix_seq gd_ix (ae_ix ix_seq gd_ix (ae_var 1) ae_int) (ae_bm PySem.F.plainAttrs_list PySem.F.slot_list_index PySem.F.type_list_index mt_index gm_index (ae_var 2) (aa_cons (ae_str (s := [115, 112, 97, 99, 101])) aa_nil)))))
  ass_nil)
  (ass_one (as_ret (ae_un un_neg gd_neg ae_int)))))))
theorem ok_law_sign (h : HasDef K mg "_law_sign" s_law_sign) (c_law_kind : OkDef P w K mg base 1 "_law_kind" P_law_kind d_law_kind) : OkDef P w K mg base 2 "_law_sign" P_law_sign d_law_sign := by
  unfold d_law_sign
  exact okdef (k := 1) (W := W_law_sign) (b := b_law_sign) h sc_law_sign (by decide) (fun _ _ _ _ _ _ us hl => match us, hl with | [_], _ => rfl) fun fA cdv A outer s H E hr =>
  (ass_cons (as_set (i := 1) sc_law_sign.nd rfl (by first | exact Or.inl rfl | exact Or.inr rfl) (ae_cV c_law_kind (hr.mono (by decide)) (by rfl) (aa_cons (ae_var 0) aa_nil)))
  (ass_cons (as_if (at_cmp (opr_eq (hu64 hr)) gd_eq (ae_var 1) (ae_str (s := [101, 110, 100])) (nomark _))
  (ass_one (as_ret (ae_str (s := [10]))))
  ass_nil)
  (ass_cons (as_if (at_cmp (opr_in (hu65 hr)) gd_in (ae_var 1) (ae_tup (aa_cons (ae_str (s := [115, 112, 97, 99, 101])) (aa_cons (ae_str (s := [102, 101, 101, 100])) aa_nil))) (by with_unfolding_all rfl))
  (ass_one (as_ret (ae_str (s := [32]))))
  ass_nil)
  (ass_one (as_ret (ae_ix ix_seq gd_ix (ae_var 0) ae_int))))))
theorem ok_law_shown (h : HasDef K mg "_law_shown" s_law_shown) (c_law_sign : OkDef P w K mg base 2 "_law_sign" P_law_sign d_law_sign) (m_range : mg "range" = none) (m_len : mg "len" = none) (c_law_kind : OkDef P w K mg base 1 "_law_kind" P_law_kind d_law_kind) (c_law_kept : OkDef P w K mg base 2 "_law_kept" P_law_kept d_law_kept) (c_law_gaps : OkDef P w K mg base 2 "_law_gaps" P_law_gaps d_law_gaps) : OkDef P w K mg base 3 "_law_shown" P_law_shown d_law_shown := by
  unfold d_law_shown
  exact okdef (k := 2) (W := W_law_shown) (b := b_law_shown) h sc_law_shown (by decide) (fun _ _ _ _ _ _ us hl => match us, hl with | [_], _ => rfl) fun fA cdv A outer s H E hr =>
  (ass_cons (as_set (i := 1) sc_law_shown.nd rfl (by first | exact Or.inl rfl | exact Or.inr rfl) (ae_cV c_law_gaps (hr.mono (by decide)) (by rfl) (aa_cons (ae_var 0) aa_nil)))
  (ass_cons (as_sto (ae_str (s := [101, 110, 100])) (al_ix (al_v 1) ak_c) ak_c)
  (ass_cons (as_sto (ae_str (s := [101, 110, 100])) (al_ix (al_v 1) ak_n) ak_c)
  (ass_cons (as_set (i := 2) sc_law_shown.nd rfl (by first | exact Or.inl rfl | exact Or.inr rfl) (ae_fz (ae_lc (own := [("gap", 4)]) rfl sc_law_shown.nd (ai_a (ae_fz (ae_var 1))) (blkOk_by (N := N_law_shown) (sc := defScope s_law_shown) (by decide +kernel)) (fun _ _ _ _ _ => (ag_n (i := 4) sc_law_shown.nd rfl (by first | exact Or.inl rfl | exact Or.inr rfl))) bts_nil (fun _ _ _ _ _ => (ae_cV c_law_kept (hr.mono (by decide)) (by rfl) (aa_cons (ae_var 0) (aa_cons (ae_var 4) aa_nil)))))))
  (ass_cons (as_setLc (i := 3) (own := [("k", 5)]) rfl sc_law_shown.nd rfl rfl (sw_true rfl rfl rfl (by decide +kernel)) (ai_r1 (by rfl) m_range (aa_cons (ae_cb call_len gc_len (by rfl) m_len (by decide +kernel) (aa_cons (ae_var 0) aa_nil)) aa_nil)) (blkOk_by (N := N_law_shown) (sc := defScope s_law_shown) (by decide +kernel)) (fun _ _ _ _ _ => (ag_n (i := 5) sc_law_shown.nd rfl (by first | exact Or.inl rfl | exact Or.inr rfl))) (bts_one (fun _ _ _ _ _ => (at_w (aw_or (at_cmp (opr_in (hu65 hr)) gd_in (ae_var 5) (ae_var 2) (by with_unfolding_all rfl)) (aw_or1 (at_cmp (opr_notin (hu65 hr)) gd_notin (ae_cV c_law_kind (hr.mono (by decide)) (by rfl) (aa_cons (ae_ix ix_seq gd_ix (ae_var 0) (ae_var 5)) aa_nil)) (ae_tup (aa_cons (ae_str (s := [115, 112, 97, 99, 101])) (aa_cons (ae_str (s := [102, 101, 101, 100])) aa_nil))) (by with_unfolding_all rfl))))))) (fun _ _ _ _ _ => (ae_var 5)))
  (ass_one (as_ret (ae_fz (ae_lst (aa_cons (ae_bm PySem.F.plainAttrs_str PySem.F.slot_str_join PySem.F.type_str_join mt_join gm_join (ae_str (s := [])) (aa_cons (ae_fz (ae_lc (own := [("k", 5)]) rfl sc_law_shown.nd (ai_a (ae_var 3)) (blkOk_by (N := N_law_shown) (sc := defScope s_law_shown) (by decide +kernel)) (fun _ _ _ _ _ => (ag_n (i := 5) sc_law_shown.nd rfl (by first | exact Or.inl rfl | exact Or.inr rfl))) bts_nil (fun _ _ _ _ _ => (ae_cV c_law_sign (hr.mono (by decide)) (by rfl) (aa_cons (ae_ix ix_seq gd_ix (ae_var 0) (ae_var 5)) aa_nil))))) aa_nil)) (aa_cons (ae_var 3) aa_nil)))))))))))
theorem ok_law_within (h : HasDef K mg "_law_within" s_law_within) (c_law_shown : OkDef P w K mg base 3 "_law_shown" P_law_shown d_law_shown) : OkDef P w K mg base 4 "_law_within" P_law_within d_law_within := by
  unfold d_law_within
  exact okdef (k := 3) (W := W_law_within) (b := b_law_within) h sc_law_within (by decide) (fun _ _ _ _ _ _ us hl => match us, hl with | [_, _], _ => rfl) fun fA cdv A outer s H E hr =>
  (ass_one (as_ret (ae_ix ix_seq gd_ix (ae_cV c_law_shown (hr.mono (by decide)) (by rfl) (aa_cons (ae_op opr_add gd_add (ae_op opr_add gd_add (ae_fz (ae_lc (own := [("sign", 2)]) rfl sc_law_within.nd (ai_a (ae_ix ix_seq gd_ix (ae_var 1) ae_int)) (blkOk_by (N := N_law_within) (sc := defScope s_law_within) (by decide +kernel)) (fun _ _ _ _ _ => (ag_n (i := 2) sc_law_within.nd rfl (by first | exact Or.inl rfl | exact Or.inr rfl))) bts_nil (fun _ _ _ _ _ => (ae_tup (aa_cons (ae_str (s := [99, 111, 108, 108, 97, 112, 115, 101])) (aa_cons (ae_var 2) aa_nil)))))) (ae_var 0)) (ae_fz (ae_lc (own := [("sign", 2)]) rfl sc_law_within.nd (ai_a (ae_ix ix_seq gd_ix (ae_var 1) ae_int)) (blkOk_by (N := N_law_within) (sc := defScope s_law_within) (by decide +kernel)) (fun _ _ _ _ _ => (ag_n (i := 2) sc_law_within.nd rfl (by first | exact Or.inl rfl | exact Or.inr rfl))) bts_nil (fun _ _ _ _ _ => (ae_tup (aa_cons (ae_str (s := [99, 111, 108, 108, 97, 112, 115, 101])) (aa_cons (ae_var 2) aa_nil))))))) aa_nil)) ae_int)))
theorem ok_law_near (h : HasDef K mg "_law_near" s_law_near) (m_range : mg "range" = none) (c_law_draw : OkDef P w K mg base 1 "_law_draw" P_law_draw d_law_draw) (m_int : mg "int" = none) (m_len : mg "len" = none) (m_list : mg "list" = none) : OkDef P w K mg base 2 "_law_near" P_law_near d_law_near := by
  unfold d_law_near
  exact okdef (k := 1) (W := W_law_near) (b := b_law_near) h sc_law_near (by decide) (fun _ _ _ _ _ _ us hl => match us, hl with | [_, _], _ => rfl) fun fA cdv A outer s H E hr =>
  (ass_cons (as_set (i := 2) sc_law_near.nd rfl (by first | exact Or.inl rfl | exact Or.inr rfl) (ae_ct call_list_of gc_list (by rfl) m_list (by decide +kernel) (aa_cons (ae_var 1) aa_nil)))
  (ass_cons (as_for PassesOwn.never rfl (ai_r1 (by rfl) m_range (aa_cons (ae_cL 0 c_law_draw (hr.mono (by decide)) (by rfl) (aa_cons ae_int aa_nil)) aa_nil)) (ag_n (i := 3) sc_law_near.nd rfl (by first | exact Or.inl rfl | exact Or.inr rfl))
  (ass_cons (as_set (i := 4) sc_law_near.nd rfl (by first | exact Or.inl rfl | exact Or.inr rfl) (ae_op op_mod gd_mod (ae_ct call_int1 gc_int (by rfl) m_int (by decide +kernel) (aa_cons (ae_cL 0 c_law_draw (hr.mono (by decide)) (by rfl) (aa_cons ae_int aa_nil)) aa_nil)) (ae_op opr_add gd_add (ae_cb call_len gc_len (by rfl) m_len (by decide +kernel) (aa_cons (ae_var 2) aa_nil)) ae_int)))
  (ass_cons (as_set (i := 5) sc_law_near.nd rfl (by first | exact Or.inl rfl | exact Or.inr rfl) (ae_tup (aa_cons (ae_ix ix_seq gd_ix (ae_fz (ae_lst (aa_cons (ae_str (s := [99, 111, 108, 108, 97, 112, 115, 101])) (aa_cons (ae_str (s := [99, 111, 108, 108, 97, 112, 115, 101])) (aa_cons (ae_str (s := [98, 114, 101, 97, 107, 115])) (aa_cons (ae_str (s := [112, 114, 101, 115, 101, 114, 118, 101])) aa_nil)))))) (ae_cL 0 c_law_draw (hr.mono (by decide)) (by rfl) (aa_cons ae_int aa_nil))) (aa_cons (ae_ix ix_seq gd_ix (ae_str (s := [32, 32, 10, 10, 124, 124, 94, 60, 65, 97])) (ae_cL 0 c_law_draw (hr.mono (by decide)) (by rfl) (aa_cons ae_int aa_nil))) aa_nil))))
  (ass_one (as_set (i := 2) sc_law_near.nd rfl (by first | exact Or.inl rfl | exact Or.inr rfl) (ae_op opr_add gd_add (ae_op opr_add gd_add (ae_sl slr_a gd_sl (ae_var 2) ao_no (ao_some (ae_var 4))) (ae_op opr_mul gd_mul (ae_fz (ae_lst (aa_cons (ae_var 5) aa_nil))) (ae_cL 0 c_law_draw (hr.mono (by decide)) (by rfl) (aa_cons ae_int aa_nil)))) (ae_sl slr_a gd_sl (ae_var 2) (ao_some (ae_op opr_add gd_add (ae_var 4) (ae_cL 0 c_law_draw (hr.mono (by decide)) (by rfl) (aa_cons ae_int aa_nil)))) ao_no)))))))
  (ass_one (as_ret (ae_var 2)))))
theorem ok_law_part (h : HasDef K mg "_law_part" s_law_part) (c_law_tidy : OkDef P w K mg base 1 "_law_tidy" P_law_tidy d_law_tidy) (c_law_units : OkDef P w K mg base 1 "_law_units" P_law_units d_law_units) (c_law_fragment : OkDef P w K mg base 2 "_law_fragment" P_law_fragment d_law_fragment) : OkDef P w K mg base 3 "_law_part" P_law_part d_law_part := by
  unfold d_law_part
  exact okdef (k := 2) (W := W_law_part) (b := b_law_part) h sc_law_part (by decide) (fun _ _ _ _ _ _ us hl => match us, hl with | [_], _ => rfl) fun fA cdv A outer s H E hr =>
  (ass_one (as_ret (ae_cV c_law_tidy (hr.mono (by decide)) (by rfl) (aa_cons (ae_cV c_law_units (hr.mono (by decide)) (by rfl) (aa_cons (ae_cL 0 c_law_fragment (hr.mono (by decide)) (by rfl) (aa_cons ae_int aa_nil)) aa_nil)) aa_nil))))
theorem ok_law_short_part (h : HasDef K mg "_law_short_part" s_law_short_part) (c_law_draw : OkDef P w K mg base 1 "_law_draw" P_law_draw d_law_draw) (m_range : mg "range" = none) : OkDef P w K mg base 2 "_law_short_part" P_law_short_part d_law_short_part := by
  unfold d_law_short_part
  exact okdef (k := 1) (W := W_law_short_part) (b := b_law_short_part) h sc_law_short_part (by decide) (fun _ _ _ _ _ _ us hl => match us, hl with | [_], _ => rfl) fun fA cdv A outer s H E hr =>
  (ass_cons (as_set (i := 1) sc_law_short_part.nd rfl (by first | exact Or.inl rfl | exact Or.inr rfl) (ae_bm PySem.F.plainAttrs_str PySem.F.slot_str_join PySem.F.type_str_join mt_join gm_join (ae_str (s := [])) (aa_cons (ae_fz (ae_lc (own := [("k", 2)]) rfl sc_law_short_part.nd (ai_r1 (by rfl) m_range (aa_cons (ae_cL 0 c_law_draw (hr.mono (by decide)) (by rfl) (aa_cons ae_int aa_nil)) aa_nil)) (blkOk_by (N := N_law_short_part) (sc := defScope s_law_short_part) (by decide +kernel)) (fun _ _ _ _ _ => (ag_n (i := 2) sc_law_short_part.nd rfl (by first | exact Or.inl rfl | exact Or.inr rfl))) bts_nil (fun _ _ _ _ _ => (ae_ix ix_seq gd_ix (ae_str (s := [32, 32, 10, 10, 124, 94, 60, 65, 97])) (ae_cL 0 c_law_draw (hr.mono (by decide)) (by rfl) (aa_cons ae_int aa_nil)))))) aa_nil)))
  (ass_one (as_ret (ae_fz (ae_lst (aa_cons (ae_tup (aa_cons (ae_ix ix_seq gd_ix (ae_fz (ae_lst (aa_cons (ae_str (s := [99, 111, 108, 108, 97, 112, 115, 101])) (aa_cons (ae_str (s := [99, 111, 108, 108, 97, 112, 115, 101])) (aa_cons (ae_str (s := [99, 111, 108, 108, 97, 112, 115, 101])) (aa_cons (ae_str (s := [98, 114, 101, 97, 107, 115])) (aa_cons (ae_str (s := [112, 114, 101, 115, 101, 114, 118, 101])) aa_nil))))))) (ae_cL 0 c_law_draw (hr.mono (by decide)) (by rfl) (aa_cons ae_int aa_nil))) (aa_cons (ae_var 1) aa_nil))) aa_nil))))))
theorem ok_law_pair (h : HasDef K mg "_law_pair" s_law_pair) (c_law_tidy : OkDef P w K mg base 1 "_law_tidy" P_law_tidy d_law_tidy) (c_law_near : OkDef P w K mg base 2 "_law_near" P_law_near d_law_near) (c_law_units : OkDef P w K mg base 1 "_law_units" P_law_units d_law_units) (c_law_part : OkDef P w K mg base 3 "_law_part" P_law_part d_law_part) (c_stands_for : OkDef P w K mg base 2 "stands_for" P_stands_for d_stands_for) (c_normal_form : OkDef P w K mg base 4 "normal_form" P_normal_form d_normal_form) (c_shortened : OkDef P w K mg base 4 "shortened" P_shortened d_shortened) (c_law_draw : OkDef P w K mg base 1 "_law_draw" P_law_draw d_law_draw) : OkDef P w K mg base 5 "_law_pair" P_law_pair d_law_pair := by
  unfold d_law_pair
  exact okdef (k := 4) (W := W_law_pair) (b := b_law_pair) h sc_law_pair (by decide) (fun _ _ _ _ _ _ us hl => match us, hl with | [_], _ => rfl) fun fA cdv A outer s H E hr =>
  (ass_cons (as_set (i := 1) sc_law_pair.nd rfl (by first | exact Or.inl rfl | exact Or.inr rfl) (ae_cL 0 c_law_part (hr.mono (by decide)) (by rfl) aa_nil))
  (ass_cons (as_set (i := 2) sc_law_pair.nd rfl (by first | exact Or.inl rfl | exact Or.inr rfl) (ae_cL 0 c_law_draw (hr.mono (by decide)) (by rfl) (aa_cons ae_int aa_nil)))
  (ass_cons (as_if (at_cmp (opr_eq (hu64 hr)) gd_eq (ae_var 2) ae_int (nomark _))
  (ass_one (as_ret (ae_fz (ae_lst (aa_cons (ae_var 1) (aa_cons (ae_cV c_shortened (hr.mono (by decide)) (by rfl) (aa_cons (ae_var 1) aa_nil)) aa_nil))))))
  ass_nil)
  (ass_cons (as_if (at_cmp (opr_eq (hu64 hr)) gd_eq (ae_var 2) ae_int (nomark _))
  (ass_one (as_ret (ae_fz (ae_lst (aa_cons (ae_var 1) (aa_cons (ae_cV c_stands_for (hr.mono (by decide)) (by rfl) (aa_cons (ae_cV c_normal_form (hr.mono (by decide)) (by rfl) (aa_cons (ae_var 1) aa_nil)) aa_nil)) aa_nil))))))
  ass_nil)
  (ass_cons (as_if (at_cmp (opr_eq (hu64 hr)) gd_eq (ae_var 2) ae_int (nomark _))
  (ass_one (as_ret (ae_fz (ae_lst (aa_cons (ae_var 1) (aa_cons (ae_cL 0 c_law_part (hr.mono (by decide)) (by rfl) aa_nil) aa_nil))))))
  ass_nil)
  (ass_one (as_ret (ae_fz (ae_lst (aa_cons (ae_var 1) (aa_cons (ae_cV c_law_tidy (hr.mono (by decide)) (by rfl) (aa_cons (ae_cL 0 c_law_near (hr.mono (by decide)) (by rfl) (aa_cons (ae_cV c_law_units (hr.mono (by decide)) (by rfl) (aa_cons (ae_var 1) aa_nil)) aa_nil)) aa_nil)) aa_nil)))))))))))
theorem ok_law {fA : Addr} {fd : FuncData} (h : Fun K "law" "law" s_law fA fd) (m_range : mg "range" = none) (m_len : mg "len" = none) (c_law_units : OkDef P w K mg base 1 "_law_units" P_law_units d_law_units) (c_are_alike : OkDef P w K mg base 5 "are_alike" P_are_alike d_are_alike) (c_stands_for : OkDef P w K mg base 2 "stands_for" P_stands_for d_stands_for) (c_normal_form : OkDef P w K mg base 4 "normal_form" P_normal_form d_normal_form) (c_shortened : OkDef P w K mg base 4 "shortened" P_shortened d_shortened) (c_shown : OkDef P w K mg base 4 "shown" P_shown d_shown) (c_law_shown : OkDef P w K mg base 3 "_law_shown" P_law_shown d_law_shown) (c_law_short_part : OkDef P w K mg base 2 "_law_short_part" P_law_short_part d_law_short_part) (c_law_within : OkDef P w K mg base 4 "_law_within" P_law_within d_law_within) (m_isinstance : mg "isinstance" = none) (m_bool : mg "bool" = none) (c_telling : OkDef P w K mg base 6 "telling" P_telling d_telling) (c_law_pair : OkDef P w K mg base 5 "_law_pair" P_law_pair d_law_pair) (c_law_row : OkDef P w K mg base 2 "_law_row" P_law_row d_law_row) : FnOk P w K mg base CX0 7 fA fd P_law (spOf K P_law.length d_law) := by
  unfold d_law
  exact def_ok (k := 6) (W := W_law) (b := b_law) h sc_law (by decide) fun cdv A outer s H E hr =>
  (ass_cons (as_set (i := 1) sc_law.nd rfl (by first | exact Or.inl rfl | exact Or.inr rfl) (ae_lst (aa_cons (ae_cV c_law_row (hr.mono (by decide)) (by rfl) (aa_cons (ae_var 0) (aa_cons ae_int (aa_cons ae_int aa_nil)))) (aa_cons ae_int aa_nil))))
  (ass_cons (as_for PassesOwn.never rfl (ai_r1 (by rfl) m_range (aa_cons ae_int aa_nil)) (ag_n (i := 2) sc_law.nd rfl (by first | exact Or.inl rfl | exact Or.inr rfl))
  (ass_cons (as_asg (ae_cL 1 c_law_pair (hr.mono (by decide)) (by rfl) aa_nil) (ag_a rfl (ags_cons (ag_n (i := 3) sc_law.nd rfl (by first | exact Or.inl rfl | exact Or.inr rfl)) (ags_cons (ag_n (i := 4) sc_law.nd rfl (by first | exact Or.inl rfl | exact Or.inr rfl)) ags_nil))))
  (ass_cons (as_set (i := 5) sc_law.nd rfl (by first | exact Or.inl rfl | exact Or.inr rfl) (ae_cV c_are_alike (hr.mono (by decide)) (by rfl) (aa_cons (ae_var 3) (aa_cons (ae_var 4) aa_nil))))
  (ass_cons (as_set (i := 6) sc_law.nd rfl (by first | exact Or.inl rfl | exact Or.inr rfl) (ae_cV c_telling (hr.mono (by decide)) (by rfl) (aa_cons (ae_var 3) (aa_cons (ae_var 4) aa_nil))))
  (ass_cons (as_if (at_w (aw_or (at_not (at_tru (ae_cb call_isi gc_isi (by rfl) m_isinstance (by decide +kernel) (aa_cons (ae_var 5) (aa_cons (ae_ty (by rfl) m_bool (by decide +kernel)) aa_nil))))) (aw_or1 (at_cmp (opr_ne (hu64 hr)) gd_ne (ae_var 5) (ae_cmp opr_is gd_is (ae_var 6) ae_non (nomark _)) (nomark _)))))
  (ass_one (as_ret ae_bl))
  ass_nil)
  (ass_cons (as_if (at_w (aw_and (at_cmp opr_isnot gd_isnot (ae_var 6) ae_non (nomark _)) (aw_and1 (at_cmp (opr_eq (hu64 hr)) gd_eq (ae_cV c_law_within (hr.mono (by decide)) (by rfl) (aa_cons (ae_cV c_law_units (hr.mono (by decide)) (by rfl) (aa_cons (ae_var 3) aa_nil)) (aa_cons (ae_var 6) aa_nil))) (ae_cV c_law_within (hr.mono (by decide)) (by rfl) (aa_cons (ae_cV c_law_units (hr.mono (by decide)) (by rfl) (aa_cons (ae_var 4) aa_nil)) (aa_cons (ae_var 6) aa_nil))) (nomark _)))))
  (ass_one (as_ret ae_bl))
  ass_nil)
  (ass_cons (as_for PassesOwn.never rfl (ai_r1 (by rfl) m_range (aa_cons ae_int aa_nil)) (ag_n (i := 7) sc_law.nd rfl (by first | exact Or.inl rfl | exact Or.inr rfl))
  (ass_cons (as_set (i := 8) sc_law.nd rfl (by first | exact Or.inl rfl | exact Or.inr rfl) (ae_cL 1 c_law_short_part (hr.mono (by decide)) (by rfl) aa_nil))
  (ass_cons (as_set (i := 9) sc_law.nd rfl (by first | exact Or.inl rfl | exact Or.inr rfl) (ae_cL 1 c_law_short_part (hr.mono (by decide)) (by rfl) aa_nil))
  (ass_cons (as_setLc (i := 10) (own := [("part", 13)]) rfl sc_law.nd rfl rfl (sw_true rfl rfl rfl (by decide +kernel)) (ai_a (ae_fz (ae_lst (aa_cons (ae_var 3) (aa_cons (ae_var 4) aa_nil))))) (blkOk_by (N := N_law) (sc := defScope s_law) (by decide +kernel)) (fun _ _ _ _ _ => (ag_n (i := 13) sc_law.nd rfl (by first | exact Or.inl rfl | exact Or.inr rfl))) bts_nil (fun _ _ _ _ _ => (ae_ix ix_seq gd_ix (ae_cV c_law_shown (hr.mono (by decide)) (by rfl) (aa_cons (ae_cV c_law_units (hr.mono (by decide)) (by rfl) (aa_cons (ae_op opr_add gd_add (ae_op opr_add gd_add (ae_var 8) (ae_var 13)) (ae_var 9)) aa_nil)) aa_nil)) ae_int)))
  (ass_one (as_if (at_w (aw_or (at_w (aw_and (at_tru (ae_var 5)) (aw_and1 (at_cmp (opr_ne (hu64 hr)) gd_ne (ae_ix ix_seq gd_ix (ae_var 10) ae_int) (ae_ix ix_seq gd_ix (ae_var 10) ae_int) (nomark _))))) (aw_or1 (at_cmp (opr_ne (hu64 hr)) gd_ne (ae_ix ix_seq gd_ix (ae_cV c_shown (hr.mono (by decide)) (by rfl) (aa_cons (ae_op opr_add gd_add (ae_op opr_add gd_add (ae_var 8) (ae_var 3)) (ae_var 9)) aa_nil)) ae_int) (ae_ix ix_seq gd_ix (ae_var 10) ae_int) (nomark _)))))
  (ass_one (as_ret ae_bl))
  ass_nil))))))
  (ass_cons (as_set (i := 11) sc_law.nd rfl (by first | exact Or.inl rfl | exact Or.inr rfl) (ae_cV c_shortened (hr.mono (by decide)) (by rfl) (aa_cons (ae_var 3) aa_nil)))
  (ass_cons (as_set (i := 12) sc_law.nd rfl (by first | exact Or.inl rfl | exact Or.inr rfl) (ae_cV c_stands_for (hr.mono (by decide)) (by rfl) (aa_cons (ae_cV c_normal_form (hr.mono (by decide)) (by rfl) (aa_cons (ae_var 3) aa_nil)) aa_nil)))
  (ass_cons (as_if (at_w (aw_or (at_not (at_tru (ae_cV c_are_alike (hr.mono (by decide)) (by rfl) (aa_cons (ae_var 3) (aa_cons (ae_var 11) aa_nil))))) (aw_or (at_not (at_tru (ae_cV c_are_alike (hr.mono (by decide)) (by rfl) (aa_cons (ae_var 12) (aa_cons (ae_var 3) aa_nil))))) (aw_or1 (at_cmp op_gt gd_gt (ae_cb call_len gc_len (by rfl) m_len (by decide +kernel) (aa_cons (ae_cV c_law_units (hr.mono (by decide)) (by rfl) (aa_cons (ae_var 11) aa_nil)) aa_nil)) (ae_cb call_len gc_len (by rfl) m_len (by decide +kernel) (aa_cons (ae_cV c_law_units (hr.mono (by decide)) (by rfl) (aa_cons (ae_var 3) aa_nil)) aa_nil)) (nomark _))))))
  (ass_one (as_ret ae_bl))
  ass_nil)
  (ass_one (as_if (at_cmp (opr_ne (hu64 hr)) gd_ne (ae_cb call_len gc_len (by rfl) m_len (by decide +kernel) (aa_cons (ae_cV c_law_units (hr.mono (by decide)) (by rfl) (aa_cons (ae_var 12) aa_nil)) aa_nil)) (ae_cb call_len gc_len (by rfl) m_len (by decide +kernel) (aa_cons (ae_cV c_law_units (hr.mono (by decide)) (by rfl) (aa_cons (ae_var 11) aa_nil)) aa_nil)) (nomark _))
  (ass_one (as_ret ae_bl))
  ass_nil))))))))))))
  (ass_one (as_ret ae_bl))))
theorem all_mk {h : Heap} (pb : ∀ ns : List Int, ns.length ≤ 63 → ∃ es, d_law [.rd (ns.map D.int)] = some (.v (.bl true), es)) (X : K.In h) (G : h.Ns mainGlobals mg) {fa : Addr} (hfa : mg "law" = some (.ref fa))
    {f_units : Addr} {od_units an_units : Option Addr} {sl_units : Array (Option Value)} {oc_units kV_units dc_units pm_units cd_units ct_units : Value}
    {f_tidy : Addr} {od_tidy an_tidy : Option Addr} {sl_tidy : Array (Option Value)} {oc_tidy kV_tidy dc_tidy pm_tidy cd_tidy ct_tidy : Value}
    {f_kind : Addr} {od_kind an_kind : Option Addr} {sl_kind : Array (Option Value)} {oc_kind kV_kind dc_kind pm_kind cd_kind ct_kind : Value}
    {f_gaps : Addr} {od_gaps an_gaps : Option Addr} {sl_gaps : Array (Option Value)} {oc_gaps kV_gaps dc_gaps pm_gaps cd_gaps ct_gaps : Value}
    {f_are_joining : Addr} {od_are_joining an_are_joining : Option Addr} {sl_are_joining : Array (Option Value)} {oc_are_joining kV_are_joining dc_are_joining pm_are_joining cd_are_joining ct_are_joining : Value}
    {f_white : Addr} {od_white an_white : Option Addr} {sl_white : Array (Option Value)} {oc_white kV_white dc_white pm_white cd_white ct_white : Value}
    {f_counting : Addr} {od_counting an_counting : Option Addr} {sl_counting : Array (Option Value)} {oc_counting kV_counting dc_counting pm_counting cd_counting ct_counting : Value}
    {f_shown_sign : Addr} {od_shown_sign an_shown_sign : Option Addr} {sl_shown_sign : Array (Option Value)} {oc_shown_sign kV_shown_sign dc_shown_sign pm_shown_sign cd_shown_sign ct_shown_sign : Value}
    {f_shown : Addr} {od_shown an_shown : Option Addr} {sl_shown : Array (Option Value)} {oc_shown kV_shown dc_shown pm_shown cd_shown ct_shown : Value}
    {f_shortened : Addr} {od_shortened an_shortened : Option Addr} {sl_shortened : Array (Option Value)} {oc_shortened kV_shortened dc_shortened pm_shortened cd_shortened ct_shortened : Value}
    {f_marks : Addr} {od_marks an_marks : Option Addr} {sl_marks : Array (Option Value)} {oc_marks kV_marks dc_marks pm_marks cd_marks ct_marks : Value}
    {f_gap_form : Addr} {od_gap_form an_gap_form : Option Addr} {sl_gap_form : Array (Option Value)} {oc_gap_form kV_gap_form dc_gap_form pm_gap_form cd_gap_form ct_gap_form : Value}
    {f_normal_form : Addr} {od_normal_form an_normal_form : Option Addr} {sl_normal_form : Array (Option Value)} {oc_normal_form kV_normal_form dc_normal_form pm_normal_form cd_normal_form ct_normal_form : Value}
    {f_stands_for : Addr} {od_stands_for an_stands_for : Option Addr} {sl_stands_for : Array (Option Value)} {oc_stands_for kV_stands_for dc_stands_for pm_stands_for cd_stands_for ct_stands_for : Value}
    {f_are_alike : Addr} {od_are_alike an_are_alike : Option Addr} {sl_are_alike : Array (Option Value)} {oc_are_alike kV_are_alike dc_are_alike pm_are_alike cd_are_alike ct_are_alike : Value}
    {f_is_telling : Addr} {od_is_telling an_is_telling : Option Addr} {sl_is_telling : Array (Option Value)} {oc_is_telling kV_is_telling dc_is_telling pm_is_telling cd_is_telling ct_is_telling : Value}
    {f_telling : Addr} {od_telling an_telling : Option Addr} {sl_telling : Array (Option Value)} {oc_telling kV_telling dc_telling pm_telling cd_telling ct_telling : Value}
    {f_law_cell : Addr} {od_law_cell an_law_cell : Option Addr} {sl_law_cell : Array (Option Value)} {oc_law_cell kV_law_cell dc_law_cell pm_law_cell cd_law_cell ct_law_cell : Value}
    {f_law_row : Addr} {od_law_row an_law_row : Option Addr} {sl_law_row : Array (Option Value)} {oc_law_row kV_law_row dc_law_row pm_law_row cd_law_row ct_law_row : Value}
    {f_law_draw : Addr} {od_law_draw an_law_draw : Option Addr} {sl_law_draw : Array (Option Value)} {oc_law_draw kV_law_draw dc_law_draw pm_law_draw cd_law_draw ct_law_draw : Value}
    {f_law_fragment : Addr} {od_law_fragment an_law_fragment : Option Addr} {sl_law_fragment : Array (Option Value)} {oc_law_fragment kV_law_fragment dc_law_fragment pm_law_fragment cd_law_fragment ct_law_fragment : Value}
    {f_law_units : Addr} {od_law_units an_law_units : Option Addr} {sl_law_units : Array (Option Value)} {oc_law_units kV_law_units dc_law_units pm_law_units cd_law_units ct_law_units : Value}
    {f_law_tidy : Addr} {od_law_tidy an_law_tidy : Option Addr} {sl_law_tidy : Array (Option Value)} {oc_law_tidy kV_law_tidy dc_law_tidy pm_law_tidy cd_law_tidy ct_law_tidy : Value}
    {f_law_kind : Addr} {od_law_kind an_law_kind : Option Addr} {sl_law_kind : Array (Option Value)} {oc_law_kind kV_law_kind dc_law_kind pm_law_kind cd_law_kind ct_law_kind : Value}
    {f_law_gaps : Addr} {od_law_gaps an_law_gaps : Option Addr} {sl_law_gaps : Array (Option Value)} {oc_law_gaps kV_law_gaps dc_law_gaps pm_law_gaps cd_law_gaps ct_law_gaps : Value}
    {f_law_join : Addr} {od_law_join an_law_join : Option Addr} {sl_law_join : Array (Option Value)} {oc_law_join kV_law_join dc_law_join pm_law_join cd_law_join ct_law_join : Value}
    {f_law_kept : Addr} {od_law_kept an_law_kept : Option Addr} {sl_law_kept : Array (Option Value)} {oc_law_kept kV_law_kept dc_law_kept pm_law_kept cd_law_kept ct_law_kept : Value}
    {f_law_sign : Addr} {od_law_sign an_law_sign : Option Addr} {sl_law_sign : Array (Option Value)} {oc_law_sign kV_law_sign dc_law_sign pm_law_sign cd_law_sign ct_law_sign : Value}
    {f_law_shown : Addr} {od_law_shown an_law_shown : Option Addr} {sl_law_shown : Array (Option Value)} {oc_law_shown kV_law_shown dc_law_shown pm_law_shown cd_law_shown ct_law_shown : Value}
    {f_law_within : Addr} {od_law_within an_law_within : Option Addr} {sl_law_within : Array (Option Value)} {oc_law_within kV_law_within dc_law_within pm_law_within cd_law_within ct_law_within : Value}
    {f_law_near : Addr} {od_law_near an_law_near : Option Addr} {sl_law_near : Array (Option Value)} {oc_law_near kV_law_near dc_law_near pm_law_near cd_law_near ct_law_near : Value}
    {f_law_part : Addr} {od_law_part an_law_part : Option Addr} {sl_law_part : Array (Option Value)} {oc_law_part kV_law_part dc_law_part pm_law_part cd_law_part ct_law_part : Value}
    {f_law_short_part : Addr} {od_law_short_part an_law_short_part : Option Addr} {sl_law_short_part : Array (Option Value)} {oc_law_short_part kV_law_short_part dc_law_short_part pm_law_short_part cd_law_short_part ct_law_short_part : Value}
    {f_law_pair : Addr} {od_law_pair an_law_pair : Option Addr} {sl_law_pair : Array (Option Value)} {oc_law_pair kV_law_pair dc_law_pair pm_law_pair cd_law_pair ct_law_pair : Value}
    {f_law : Addr} {od_law an_law : Option Addr} {sl_law : Array (Option Value)} {oc_law kV_law dc_law pm_law cd_law ct_law : Value}
    {f_IN_GAPS : Addr} {dd_IN_GAPS : Option Addr} {its_IN_GAPS : Array Value} {n_IN_GAPS : Nat} {sl_IN_GAPS : Array (Option Value)}
    {f_CONTEXTS : Addr} {dd_CONTEXTS : Option Addr} {its_CONTEXTS : Array Value} {n_CONTEXTS : Nat} {sl_CONTEXTS : Array (Option Value)}
    {f_CONTEXTS_0 : Addr} {dd_CONTEXTS_0 : Option Addr} {its_CONTEXTS_0 : Array Value} {n_CONTEXTS_0 : Nat} {sl_CONTEXTS_0 : Array (Option Value)}
    {f_CONTEXTS_1 : Addr} {dd_CONTEXTS_1 : Option Addr} {its_CONTEXTS_1 : Array Value} {n_CONTEXTS_1 : Nat} {sl_CONTEXTS_1 : Array (Option Value)}
    {f_CONTEXTS_2 : Addr} {dd_CONTEXTS_2 : Option Addr} {its_CONTEXTS_2 : Array Value} {n_CONTEXTS_2 : Nat} {sl_CONTEXTS_2 : Array (Option Value)}
    {f_CONTEXTS_3 : Addr} {dd_CONTEXTS_3 : Option Addr} {its_CONTEXTS_3 : Array Value} {n_CONTEXTS_3 : Nat} {sl_CONTEXTS_3 : Array (Option Value)}
    {f_CONTEXTS_4 : Addr} {dd_CONTEXTS_4 : Option Addr} {its_CONTEXTS_4 : Array Value} {n_CONTEXTS_4 : Nat} {sl_CONTEXTS_4 : Array (Option Value)}
    {f_CONTEXTS_5 : Addr} {dd_CONTEXTS_5 : Option Addr} {its_CONTEXTS_5 : Array Value} {n_CONTEXTS_5 : Nat} {sl_CONTEXTS_5 : Array (Option Value)}
    {f_CONTEXTS_6 : Addr} {dd_CONTEXTS_6 : Option Addr} {its_CONTEXTS_6 : Array Value} {n_CONTEXTS_6 : Nat} {sl_CONTEXTS_6 : Array (Option Value)}
    {f_CONTEXTS_7 : Addr} {dd_CONTEXTS_7 : Option Addr} {its_CONTEXTS_7 : Array Value} {n_CONTEXTS_7 : Nat} {sl_CONTEXTS_7 : Array (Option Value)}
    {f_CONTEXTS_8 : Addr} {dd_CONTEXTS_8 : Option Addr} {its_CONTEXTS_8 : Array Value} {n_CONTEXTS_8 : Nat} {sl_CONTEXTS_8 : Array (Option Value)}
    {f_STAND_INS : Addr} {es_STAND_INS : Array DictEntry} {n_STAND_INS : Nat}
    (a_units : PySem.W.nsIn K mainGlobals "units" = some (some (.ref f_units))) (l_units : K.lookup f_units = some ⟨oc_units, od_units, .func (PySem.W.fnOf "units" "units" (defArgs s_units) (defBody s_units) (defScope s_units) .none kV_units dc_units pm_units an_units cd_units ct_units), sl_units⟩) (q_units : PySem.W.codeIn K cd_units "units" = true) (k_units : PySem.W.keepIn K (.ref f_units) = true)
    (a_tidy : PySem.W.nsIn K mainGlobals "tidy" = some (some (.ref f_tidy))) (l_tidy : K.lookup f_tidy = some ⟨oc_tidy, od_tidy, .func (PySem.W.fnOf "tidy" "tidy" (defArgs s_tidy) (defBody s_tidy) (defScope s_tidy) .none kV_tidy dc_tidy pm_tidy an_tidy cd_tidy ct_tidy), sl_tidy⟩) (q_tidy : PySem.W.codeIn K cd_tidy "tidy" = true) (k_tidy : PySem.W.keepIn K (.ref f_tidy) = true)
    (a_kind : PySem.W.nsIn K mainGlobals "kind" = some (some (.ref f_kind))) (l_kind : K.lookup f_kind = some ⟨oc_kind, od_kind, .func (PySem.W.fnOf "kind" "kind" (defArgs s_kind) (defBody s_kind) (defScope s_kind) .none kV_kind dc_kind pm_kind an_kind cd_kind ct_kind), sl_kind⟩) (q_kind : PySem.W.codeIn K cd_kind "kind" = true) (k_kind : PySem.W.keepIn K (.ref f_kind) = true)
    (a_gaps : PySem.W.nsIn K mainGlobals "gaps" = some (some (.ref f_gaps))) (l_gaps : K.lookup f_gaps = some ⟨oc_gaps, od_gaps, .func (PySem.W.fnOf "gaps" "gaps" (defArgs s_gaps) (defBody s_gaps) (defScope s_gaps) .none kV_gaps dc_gaps pm_gaps an_gaps cd_gaps ct_gaps), sl_gaps⟩) (q_gaps : PySem.W.codeIn K cd_gaps "gaps" = true) (k_gaps : PySem.W.keepIn K (.ref f_gaps) = true)
    (a_are_joining : PySem.W.nsIn K mainGlobals "are_joining" = some (some (.ref f_are_joining))) (l_are_joining : K.lookup f_are_joining = some ⟨oc_are_joining, od_are_joining, .func (PySem.W.fnOf "are_joining" "are_joining" (defArgs s_are_joining) (defBody s_are_joining) (defScope s_are_joining) .none kV_are_joining dc_are_joining pm_are_joining an_are_joining cd_are_joining ct_are_joining), sl_are_joining⟩) (q_are_joining : PySem.W.codeIn K cd_are_joining "are_joining" = true) (k_are_joining : PySem.W.keepIn K (.ref f_are_joining) = true)
    (a_white : PySem.W.nsIn K mainGlobals "white" = some (some (.ref f_white))) (l_white : K.lookup f_white = some ⟨oc_white, od_white, .func (PySem.W.fnOf "white" "white" (defArgs s_white) (defBody s_white) (defScope s_white) .none kV_white dc_white pm_white an_white cd_white ct_white), sl_white⟩) (q_white : PySem.W.codeIn K cd_white "white" = true) (k_white : PySem.W.keepIn K (.ref f_white) = true)
    (a_counting : PySem.W.nsIn K mainGlobals "counting" = some (some (.ref f_counting))) (l_counting : K.lookup f_counting = some ⟨oc_counting, od_counting, .func (PySem.W.fnOf "counting" "counting" (defArgs s_counting) (defBody s_counting) (defScope s_counting) .none kV_counting dc_counting pm_counting an_counting cd_counting ct_counting), sl_counting⟩) (q_counting : PySem.W.codeIn K cd_counting "counting" = true) (k_counting : PySem.W.keepIn K (.ref f_counting) = true)
    (a_shown_sign : PySem.W.nsIn K mainGlobals "shown_sign" = some (some (.ref f_shown_sign))) (l_shown_sign : K.lookup f_shown_sign = some ⟨oc_shown_sign, od_shown_sign, .func (PySem.W.fnOf "shown_sign" "shown_sign" (defArgs s_shown_sign) (defBody s_shown_sign) (defScope s_shown_sign) .none kV_shown_sign dc_shown_sign pm_shown_sign an_shown_sign cd_shown_sign ct_shown_sign), sl_shown_sign⟩) (q_shown_sign : PySem.W.codeIn K cd_shown_sign "shown_sign" = true) (k_shown_sign : PySem.W.keepIn K (.ref f_shown_sign) = true)
    (a_shown : PySem.W.nsIn K mainGlobals "shown" = some (some (.ref f_shown))) (l_shown : K.lookup f_shown = some ⟨oc_shown, od_shown, .func (PySem.W.fnOf "shown" "shown" (defArgs s_shown) (defBody s_shown) (defScope s_shown) .none kV_shown dc_shown pm_shown an_shown cd_shown ct_shown), sl_shown⟩) (q_shown : PySem.W.codeIn K cd_shown "shown" = true) (k_shown : PySem.W.keepIn K (.ref f_shown) = true)
    (a_shortened : PySem.W.nsIn K mainGlobals "shortened" = some (some (.ref f_shortened))) (l_shortened : K.lookup f_shortened = some ⟨oc_shortened, od_shortened, .func (PySem.W.fnOf "shortened" "shortened" (defArgs s_shortened) (defBody s_shortened) (defScope s_shortened) .none kV_shortened dc_shortened pm_shortened an_shortened cd_shortened ct_shortened), sl_shortened⟩) (q_shortened : PySem.W.codeIn K cd_shortened "shortened" = true) (k_shortened : PySem.W.keepIn K (.ref f_shortened) = true)
    (a_marks : PySem.W.nsIn K mainGlobals "marks" = some (some (.ref f_marks))) (l_marks : K.lookup f_marks = some ⟨oc_marks, od_marks, .func (PySem.W.fnOf "marks" "marks" (defArgs s_marks) (defBody s_marks) (defScope s_marks) .none kV_marks dc_marks pm_marks an_marks cd_marks ct_marks), sl_marks⟩) (q_marks : PySem.W.codeIn K cd_marks "marks" = true) (k_marks : PySem.W.keepIn K (.ref f_marks) = true)
    (a_gap_form : PySem.W.nsIn K mainGlobals "gap_form" = some (some (.ref f_gap_form))) (l_gap_form : K.lookup f_gap_form = some ⟨oc_gap_form, od_gap_form, .func (PySem.W.fnOf "gap_form" "gap_form" (defArgs s_gap_form) (defBody s_gap_form) (defScope s_gap_form) .none kV_gap_form dc_gap_form pm_gap_form an_gap_form cd_gap_form ct_gap_form), sl_gap_form⟩) (q_gap_form : PySem.W.codeIn K cd_gap_form "gap_form" = true) (k_gap_form : PySem.W.keepIn K (.ref f_gap_form) = true)
    (a_normal_form : PySem.W.nsIn K mainGlobals "normal_form" = some (some (.ref f_normal_form))) (l_normal_form : K.lookup f_normal_form = some ⟨oc_normal_form, od_normal_form, .func (PySem.W.fnOf "normal_form" "normal_form" (defArgs s_normal_form) (defBody s_normal_form) (defScope s_normal_form) .none kV_normal_form dc_normal_form pm_normal_form an_normal_form cd_normal_form ct_normal_form), sl_normal_form⟩) (q_normal_form : PySem.W.codeIn K cd_normal_form "normal_form" = true) (k_normal_form : PySem.W.keepIn K (.ref f_normal_form) = true)
    (a_stands_for : PySem.W.nsIn K mainGlobals "stands_for" = some (some (.ref f_stands_for))) (l_stands_for : K.lookup f_stands_for = some ⟨oc_stands_for, od_stands_for, .func (PySem.W.fnOf "stands_for" "stands_for" (defArgs s_stands_for) (defBody s_stands_for) (defScope s_stands_for) .none kV_stands_for dc_stands_for pm_stands_for an_stands_for cd_stands_for ct_stands_for), sl_stands_for⟩) (q_stands_for : PySem.W.codeIn K cd_stands_for "stands_for" = true) (k_stands_for : PySem.W.keepIn K (.ref f_stands_for) = true)
    (a_are_alike : PySem.W.nsIn K mainGlobals "are_alike" = some (some (.ref f_are_alike))) (l_are_alike : K.lookup f_are_alike = some ⟨oc_are_alike, od_are_alike, .func (PySem.W.fnOf "are_alike" "are_alike" (defArgs s_are_alike) (defBody s_are_alike) (defScope s_are_alike) .none kV_are_alike dc_are_alike pm_are_alike an_are_alike cd_are_alike ct_are_alike), sl_are_alike⟩) (q_are_alike : PySem.W.codeIn K cd_are_alike "are_alike" = true) (k_are_alike : PySem.W.keepIn K (.ref f_are_alike) = true)
    (a_is_telling : PySem.W.nsIn K mainGlobals "is_telling" = some (some (.ref f_is_telling))) (l_is_telling : K.lookup f_is_telling = some ⟨oc_is_telling, od_is_telling, .func (PySem.W.fnOf "is_telling" "is_telling" (defArgs s_is_telling) (defBody s_is_telling) (defScope s_is_telling) .none kV_is_telling dc_is_telling pm_is_telling an_is_telling cd_is_telling ct_is_telling), sl_is_telling⟩) (q_is_telling : PySem.W.codeIn K cd_is_telling "is_telling" = true) (k_is_telling : PySem.W.keepIn K (.ref f_is_telling) = true)
    (a_telling : PySem.W.nsIn K mainGlobals "telling" = some (some (.ref f_telling))) (l_telling : K.lookup f_telling = some ⟨oc_telling, od_telling, .func (PySem.W.fnOf "telling" "telling" (defArgs s_telling) (defBody s_telling) (defScope s_telling) .none kV_telling dc_telling pm_telling an_telling cd_telling ct_telling), sl_telling⟩) (q_telling : PySem.W.codeIn K cd_telling "telling" = true) (k_telling : PySem.W.keepIn K (.ref f_telling) = true)
    (a_law_cell : PySem.W.nsIn K mainGlobals "_law_cell" = some (some (.ref f_law_cell))) (l_law_cell : K.lookup f_law_cell = some ⟨oc_law_cell, od_law_cell, .func (PySem.W.fnOf "_law_cell" "_law_cell" (defArgs s_law_cell) (defBody s_law_cell) (defScope s_law_cell) .none kV_law_cell dc_law_cell pm_law_cell an_law_cell cd_law_cell ct_law_cell), sl_law_cell⟩) (q_law_cell : PySem.W.codeIn K cd_law_cell "_law_cell" = true) (k_law_cell : PySem.W.keepIn K (.ref f_law_cell) = true)
    (a_law_row : PySem.W.nsIn K mainGlobals "_law_row" = some (some (.ref f_law_row))) (l_law_row : K.lookup f_law_row = some ⟨oc_law_row, od_law_row, .func (PySem.W.fnOf "_law_row" "_law_row" (defArgs s_law_row) (defBody s_law_row) (defScope s_law_row) .none kV_law_row dc_law_row pm_law_row an_law_row cd_law_row ct_law_row), sl_law_row⟩) (q_law_row : PySem.W.codeIn K cd_law_row "_law_row" = true) (k_law_row : PySem.W.keepIn K (.ref f_law_row) = true)
    (a_law_draw : PySem.W.nsIn K mainGlobals "_law_draw" = some (some (.ref f_law_draw))) (l_law_draw : K.lookup f_law_draw = some ⟨oc_law_draw, od_law_draw, .func (PySem.W.fnOf "_law_draw" "_law_draw" (defArgs s_law_draw) (defBody s_law_draw) (defScope s_law_draw) .none kV_law_draw dc_law_draw pm_law_draw an_law_draw cd_law_draw ct_law_draw), sl_law_draw⟩) (q_law_draw : PySem.W.codeIn K cd_law_draw "_law_draw" = true) (k_law_draw : PySem.W.keepIn K (.ref f_law_draw) = true)
    (a_law_fragment : PySem.W.nsIn K mainGlobals "_law_fragment" = some (some (.ref f_law_fragment))) (l_law_fragment : K.lookup f_law_fragment = some ⟨oc_law_fragment, od_law_fragment, .func (PySem.W.fnOf "_law_fragment" "_law_fragment" (defArgs s_law_fragment) (defBody s_law_fragment) (defScope s_law_fragment) .none kV_law_fragment dc_law_fragment pm_law_fragment an_law_fragment cd_law_fragment ct_law_fragment), sl_law_fragment⟩) (q_law_fragment : PySem.W.codeIn K cd_law_fragment "_law_fragment" = true) (k_law_fragment : PySem.W.keepIn K (.ref f_law_fragment) = true)
    (a_law_units : PySem.W.nsIn K mainGlobals "_law_units" = some (some (.ref f_law_units))) (l_law_units : K.lookup f_law_units = some ⟨oc_law_units, od_law_units, .func (PySem.W.fnOf "_law_units" "_law_units" (defArgs s_law_units) (defBody s_law_units) (defScope s_law_units) .none kV_law_units dc_law_units pm_law_units an_law_units cd_law_units ct_law_units), sl_law_units⟩) (q_law_units : PySem.W.codeIn K cd_law_units "_law_units" = true) (k_law_units : PySem.W.keepIn K (.ref f_law_units) = true)
    (a_law_tidy : PySem.W.nsIn K mainGlobals "_law_tidy" = some (some (.ref f_law_tidy))) (l_law_tidy : K.lookup f_law_tidy = some ⟨oc_law_tidy, od_law_tidy, .func (PySem.W.fnOf "_law_tidy" "_law_tidy" (defArgs s_law_tidy) (defBody s_law_tidy) (defScope s_law_tidy) .none kV_law_tidy dc_law_tidy pm_law_tidy an_law_tidy cd_law_tidy ct_law_tidy), sl_law_tidy⟩) (q_law_tidy : PySem.W.codeIn K cd_law_tidy "_law_tidy" = true) (k_law_tidy : PySem.W.keepIn K (.ref f_law_tidy) = true)
    (a_law_kind : PySem.W.nsIn K mainGlobals "_law_kind" = some (some (.ref f_law_kind))) (l_law_kind : K.lookup f_law_kind = some ⟨oc_law_kind, od_law_kind, .func (PySem.W.fnOf "_law_kind" "_law_kind" (defArgs s_law_kind) (defBody s_law_kind) (defScope s_law_kind) .none kV_law_kind dc_law_kind pm_law_kind an_law_kind cd_law_kind ct_law_kind), sl_law_kind⟩) (q_law_kind : PySem.W.codeIn K cd_law_kind "_law_kind" = true) (k_law_kind : PySem.W.keepIn K (.ref f_law_kind) = true)
    (a_law_gaps : PySem.W.nsIn K mainGlobals "_law_gaps" = some (some (.ref f_law_gaps))) (l_law_gaps : K.lookup f_law_gaps = some ⟨oc_law_gaps, od_law_gaps, .func (PySem.W.fnOf "_law_gaps" "_law_gaps" (defArgs s_law_gaps) (defBody s_law_gaps) (defScope s_law_gaps) .none kV_law_gaps dc_law_gaps pm_law_gaps an_law_gaps cd_law_gaps ct_law_gaps), sl_law_gaps⟩) (q_law_gaps : PySem.W.codeIn K cd_law_gaps "_law_gaps" = true) (k_law_gaps : PySem.W.keepIn K (.ref f_law_gaps) = true)
    (a_law_join : PySem.W.nsIn K mainGlobals "_law_join" = some (some (.ref f_law_join))) (l_law_join : K.lookup f_law_join = some ⟨oc_law_join, od_law_join, .func (PySem.W.fnOf "_law_join" "_law_join" (defArgs s_law_join) (defBody s_law_join) (defScope s_law_join) .none kV_law_join dc_law_join pm_law_join an_law_join cd_law_join ct_law_join), sl_law_join⟩) (q_law_join : PySem.W.codeIn K cd_law_join "_law_join" = true) (k_law_join : PySem.W.keepIn K (.ref f_law_join) = true)
    (a_law_kept : PySem.W.nsIn K mainGlobals "_law_kept" = some (some (.ref f_law_kept))) (l_law_kept : K.lookup f_law_kept = some ⟨oc_law_kept, od_law_kept, .func (PySem.W.fnOf "_law_kept" "_law_kept" (defArgs s_law_kept) (defBody s_law_kept) (defScope s_law_kept) .none kV_law_kept dc_law_kept pm_law_kept an_law_kept cd_law_kept ct_law_kept), sl_law_kept⟩) (q_law_kept : PySem.W.codeIn K cd_law_kept "_law_kept" = true) (k_law_kept : PySem.W.keepIn K (.ref f_law_kept) = true)
    (a_law_sign : PySem.W.nsIn K mainGlobals "_law_sign" = some (some (.ref f_law_sign))) (l_law_sign : K.lookup f_law_sign = some ⟨oc_law_sign, od_law_sign, .func (PySem.W.fnOf "_law_sign" "_law_sign" (defArgs s_law_sign) (defBody s_law_sign) (defScope s_law_sign) .none kV_law_sign dc_law_sign pm_law_sign an_law_sign cd_law_sign ct_law_sign), sl_law_sign⟩) (q_law_sign : PySem.W.codeIn K cd_law_sign "_law_sign" = true) (k_law_sign : PySem.W.keepIn K (.ref f_law_sign) = true)
    (a_law_shown : PySem.W.nsIn K mainGlobals "_law_shown" = some (some (.ref f_law_shown))) (l_law_shown : K.lookup f_law_shown = some ⟨oc_law_shown, od_law_shown, .func (PySem.W.fnOf "_law_shown" "_law_shown" (defArgs s_law_shown) (defBody s_law_shown) (defScope s_law_shown) .none kV_law_shown dc_law_shown pm_law_shown an_law_shown cd_law_shown ct_law_shown), sl_law_shown⟩) (q_law_shown : PySem.W.codeIn K cd_law_shown "_law_shown" = true) (k_law_shown : PySem.W.keepIn K (.ref f_law_shown) = true)
    (a_law_within : PySem.W.nsIn K mainGlobals "_law_within" = some (some (.ref f_law_within))) (l_law_within : K.lookup f_law_within = some ⟨oc_law_within, od_law_within, .func (PySem.W.fnOf "_law_within" "_law_within" (defArgs s_law_within) (defBody s_law_within) (defScope s_law_within) .none kV_law_within dc_law_within pm_law_within an_law_within cd_law_within ct_law_within), sl_law_within⟩) (q_law_within : PySem.W.codeIn K cd_law_within "_law_within" = true) (k_law_within : PySem.W.keepIn K (.ref f_law_within) = true)
    (a_law_near : PySem.W.nsIn K mainGlobals "_law_near" = some (some (.ref f_law_near))) (l_law_near : K.lookup f_law_near = some ⟨oc_law_near, od_law_near, .func (PySem.W.fnOf "_law_near" "_law_near" (defArgs s_law_near) (defBody s_law_near) (defScope s_law_near) .none kV_law_near dc_law_near pm_law_near an_law_near cd_law_near ct_law_near), sl_law_near⟩) (q_law_near : PySem.W.codeIn K cd_law_near "_law_near" = true) (k_law_near : PySem.W.keepIn K (.ref f_law_near) = true)
    (a_law_part : PySem.W.nsIn K mainGlobals "_law_part" = some (some (.ref f_law_part))) (l_law_part : K.lookup f_law_part = some ⟨oc_law_part, od_law_part, .func (PySem.W.fnOf "_law_part" "_law_part" (defArgs s_law_part) (defBody s_law_part) (defScope s_law_part) .none kV_law_part dc_law_part pm_law_part an_law_part cd_law_part ct_law_part), sl_law_part⟩) (q_law_part : PySem.W.codeIn K cd_law_part "_law_part" = true) (k_law_part : PySem.W.keepIn K (.ref f_law_part) = true)
    (a_law_short_part : PySem.W.nsIn K mainGlobals "_law_short_part" = some (some (.ref f_law_short_part))) (l_law_short_part : K.lookup f_law_short_part = some ⟨oc_law_short_part, od_law_short_part, .func (PySem.W.fnOf "_law_short_part" "_law_short_part" (defArgs s_law_short_part) (defBody s_law_short_part) (defScope s_law_short_part) .none kV_law_short_part dc_law_short_part pm_law_short_part an_law_short_part cd_law_short_part ct_law_short_part), sl_law_short_part⟩) (q_law_short_part : PySem.W.codeIn K cd_law_short_part "_law_short_part" = true) (k_law_short_part : PySem.W.keepIn K (.ref f_law_short_part) = true)
    (a_law_pair : PySem.W.nsIn K mainGlobals "_law_pair" = some (some (.ref f_law_pair))) (l_law_pair : K.lookup f_law_pair = some ⟨oc_law_pair, od_law_pair, .func (PySem.W.fnOf "_law_pair" "_law_pair" (defArgs s_law_pair) (defBody s_law_pair) (defScope s_law_pair) .none kV_law_pair dc_law_pair pm_law_pair an_law_pair cd_law_pair ct_law_pair), sl_law_pair⟩) (q_law_pair : PySem.W.codeIn K cd_law_pair "_law_pair" = true) (k_law_pair : PySem.W.keepIn K (.ref f_law_pair) = true)
    (a_law : PySem.W.nsIn K mainGlobals "law" = some (some (.ref f_law))) (l_law : K.lookup f_law = some ⟨oc_law, od_law, .func (PySem.W.fnOf "law" "law" (defArgs s_law) (defBody s_law) (defScope s_law) .none kV_law dc_law pm_law an_law cd_law ct_law), sl_law⟩) (q_law : PySem.W.codeIn K cd_law "law" = true) (k_law : PySem.W.keepIn K (.ref f_law) = true)
    (z_zip : PySem.W.nsIn K mainGlobals "zip" = some none)
    (z_len : PySem.W.nsIn K mainGlobals "len" = some none)
    (z_enumerate : PySem.W.nsIn K mainGlobals "enumerate" = some none)
    (z_range : PySem.W.nsIn K mainGlobals "range" = some none)
    (z_int : PySem.W.nsIn K mainGlobals "int" = some none)
    (z_abs : PySem.W.nsIn K mainGlobals "abs" = some none)
    (z_list : PySem.W.nsIn K mainGlobals "list" = some none)
    (z_isinstance : PySem.W.nsIn K mainGlobals "isinstance" = some none)
    (z_bool : PySem.W.nsIn K mainGlobals "bool" = some none)
    (a_IN_GAPS : PySem.W.nsIn K mainGlobals "IN_GAPS" = some (some (.ref f_IN_GAPS)))
    (l_IN_GAPS : K.lookup f_IN_GAPS = some ⟨.type "tuple", dd_IN_GAPS, .seq its_IN_GAPS n_IN_GAPS, sl_IN_GAPS⟩) (y_IN_GAPS : its_IN_GAPS.size ≤ sizeLine) (v_IN_GAPS : Vals [V.str ⟨([115, 112, 97, 99, 101] : List Nat).toArray⟩, V.str ⟨([102, 101, 101, 100] : List Nat).toArray⟩, V.str ⟨([109, 97, 114, 107] : List Nat).toArray⟩] its_IN_GAPS.toList)
    (a_CONTEXTS : PySem.W.nsIn K mainGlobals "CONTEXTS" = some (some (.ref f_CONTEXTS)))
    (l_CONTEXTS : K.lookup f_CONTEXTS = some ⟨.type "tuple", dd_CONTEXTS, .seq its_CONTEXTS n_CONTEXTS, sl_CONTEXTS⟩) (y_CONTEXTS : its_CONTEXTS.size ≤ sizeLine) (v_CONTEXTS : Vals [V.ref f_CONTEXTS_0, V.ref f_CONTEXTS_1, V.ref f_CONTEXTS_2, V.ref f_CONTEXTS_3, V.ref f_CONTEXTS_4, V.ref f_CONTEXTS_5, V.ref f_CONTEXTS_6, V.ref f_CONTEXTS_7, V.ref f_CONTEXTS_8] its_CONTEXTS.toList)
    (l_CONTEXTS_0 : K.lookup f_CONTEXTS_0 = some ⟨.type "tuple", dd_CONTEXTS_0, .seq its_CONTEXTS_0 n_CONTEXTS_0, sl_CONTEXTS_0⟩) (y_CONTEXTS_0 : its_CONTEXTS_0.size ≤ sizeLine) (v_CONTEXTS_0 : Vals [V.str ⟨([] : List Nat).toArray⟩, V.str ⟨([] : List Nat).toArray⟩] its_CONTEXTS_0.toList)
    (l_CONTEXTS_1 : K.lookup f_CONTEXTS_1 = some ⟨.type "tuple", dd_CONTEXTS_1, .seq its_CONTEXTS_1 n_CONTEXTS_1, sl_CONTEXTS_1⟩) (y_CONTEXTS_1 : its_CONTEXTS_1.size ≤ sizeLine) (v_CONTEXTS_1 : Vals [V.str ⟨([97] : List Nat).toArray⟩, V.str ⟨([] : List Nat).toArray⟩] its_CONTEXTS_1.toList)
    (l_CONTEXTS_2 : K.lookup f_CONTEXTS_2 = some ⟨.type "tuple", dd_CONTEXTS_2, .seq its_CONTEXTS_2 n_CONTEXTS_2, sl_CONTEXTS_2⟩) (y_CONTEXTS_2 : its_CONTEXTS_2.size ≤ sizeLine) (v_CONTEXTS_2 : Vals [V.str ⟨([94] : List Nat).toArray⟩, V.str ⟨([] : List Nat).toArray⟩] its_CONTEXTS_2.toList)
    (l_CONTEXTS_3 : K.lookup f_CONTEXTS_3 = some ⟨.type "tuple", dd_CONTEXTS_3, .seq its_CONTEXTS_3 n_CONTEXTS_3, sl_CONTEXTS_3⟩) (y_CONTEXTS_3 : its_CONTEXTS_3.size ≤ sizeLine) (v_CONTEXTS_3 : Vals [V.str ⟨([97, 32] : List Nat).toArray⟩, V.str ⟨([] : List Nat).toArray⟩] its_CONTEXTS_3.toList)
    (l_CONTEXTS_4 : K.lookup f_CONTEXTS_4 = some ⟨.type "tuple", dd_CONTEXTS_4, .seq its_CONTEXTS_4 n_CONTEXTS_4, sl_CONTEXTS_4⟩) (y_CONTEXTS_4 : its_CONTEXTS_4.size ≤ sizeLine) (v_CONTEXTS_4 : Vals [V.str ⟨([] : List Nat).toArray⟩, V.str ⟨([97] : List Nat).toArray⟩] its_CONTEXTS_4.toList)
    (l_CONTEXTS_5 : K.lookup f_CONTEXTS_5 = some ⟨.type "tuple", dd_CONTEXTS_5, .seq its_CONTEXTS_5 n_CONTEXTS_5, sl_CONTEXTS_5⟩) (y_CONTEXTS_5 : its_CONTEXTS_5.size ≤ sizeLine) (v_CONTEXTS_5 : Vals [V.str ⟨([] : List Nat).toArray⟩, V.str ⟨([94] : List Nat).toArray⟩] its_CONTEXTS_5.toList)
    (l_CONTEXTS_6 : K.lookup f_CONTEXTS_6 = some ⟨.type "tuple", dd_CONTEXTS_6, .seq its_CONTEXTS_6 n_CONTEXTS_6, sl_CONTEXTS_6⟩) (y_CONTEXTS_6 : its_CONTEXTS_6.size ≤ sizeLine) (v_CONTEXTS_6 : Vals [V.str ⟨([] : List Nat).toArray⟩, V.str ⟨([32, 97] : List Nat).toArray⟩] its_CONTEXTS_6.toList)
    (l_CONTEXTS_7 : K.lookup f_CONTEXTS_7 = some ⟨.type "tuple", dd_CONTEXTS_7, .seq its_CONTEXTS_7 n_CONTEXTS_7, sl_CONTEXTS_7⟩) (y_CONTEXTS_7 : its_CONTEXTS_7.size ≤ sizeLine) (v_CONTEXTS_7 : Vals [V.str ⟨([97] : List Nat).toArray⟩, V.str ⟨([97] : List Nat).toArray⟩] its_CONTEXTS_7.toList)
    (l_CONTEXTS_8 : K.lookup f_CONTEXTS_8 = some ⟨.type "tuple", dd_CONTEXTS_8, .seq its_CONTEXTS_8 n_CONTEXTS_8, sl_CONTEXTS_8⟩) (y_CONTEXTS_8 : its_CONTEXTS_8.size ≤ sizeLine) (v_CONTEXTS_8 : Vals [V.str ⟨([94] : List Nat).toArray⟩, V.str ⟨([97] : List Nat).toArray⟩] its_CONTEXTS_8.toList)
    (a_STAND_INS : PySem.W.nsIn K mainGlobals "STAND_INS" = some (some (.ref f_STAND_INS))) (l_STAND_INS : K.lookup f_STAND_INS = some ⟨.type "dict", none, .dict es_STAND_INS n_STAND_INS, #[]⟩) (g_STAND_INS : PySem.W.KeysLit w.params es_STAND_INS.toList) (y_STAND_INS : (f_STAND_INS == sysModules) = false) (v_STAND_INS : Paired (fun (p : List Nat × List Nat) (e : DictEntry) => (∃ t, e.key = .str ⟨p.1.toArray⟩ t) ∧ ∃ t, e.val = .str ⟨p.2.toArray⟩ t) tab_STAND_INS es_STAND_INS.toList) :
    ∃ fd : FuncData, (∀ (s : Shared) (v : Value), BindsTo s fd ⟨[v], []⟩ [("script", v)]) ∧ ∀ base : Heap, K.In base → base.Ns mainGlobals mg → FnOk P w K mg base CX0 7 fa fd ["script"] (spLaw K) := by
  have e := hfa.symm.trans (PySem.W.mg_of X G a_law)
  cases e
  have h_units : HasDef K mg "units" s_units := hasDef_of X G a_units l_units q_units k_units
  have h_tidy : HasDef K mg "tidy" s_tidy := hasDef_of X G a_tidy l_tidy q_tidy k_tidy
  have h_kind : HasDef K mg "kind" s_kind := hasDef_of X G a_kind l_kind q_kind k_kind
  have h_gaps : HasDef K mg "gaps" s_gaps := hasDef_of X G a_gaps l_gaps q_gaps k_gaps
  have h_are_joining : HasDef K mg "are_joining" s_are_joining := hasDef_of X G a_are_joining l_are_joining q_are_joining k_are_joining
  have h_white : HasDef K mg "white" s_white := hasDef_of X G a_white l_white q_white k_white
  have h_counting : HasDef K mg "counting" s_counting := hasDef_of X G a_counting l_counting q_counting k_counting
  have h_shown_sign : HasDef K mg "shown_sign" s_shown_sign := hasDef_of X G a_shown_sign l_shown_sign q_shown_sign k_shown_sign
  have h_shown : HasDef K mg "shown" s_shown := hasDef_of X G a_shown l_shown q_shown k_shown
  have h_shortened : HasDef K mg "shortened" s_shortened := hasDef_of X G a_shortened l_shortened q_shortened k_shortened
  have h_marks : HasDef K mg "marks" s_marks := hasDef_of X G a_marks l_marks q_marks k_marks
  have h_gap_form : HasDef K mg "gap_form" s_gap_form := hasDef_of X G a_gap_form l_gap_form q_gap_form k_gap_form
  have h_normal_form : HasDef K mg "normal_form" s_normal_form := hasDef_of X G a_normal_form l_normal_form q_normal_form k_normal_form
  have h_stands_for : HasDef K mg "stands_for" s_stands_for := hasDef_of X G a_stands_for l_stands_for q_stands_for k_stands_for
  have h_are_alike : HasDef K mg "are_alike" s_are_alike := hasDef_of X G a_are_alike l_are_alike q_are_alike k_are_alike
  have h_is_telling : HasDef K mg "is_telling" s_is_telling := hasDef_of X G a_is_telling l_is_telling q_is_telling k_is_telling
  have h_telling : HasDef K mg "telling" s_telling := hasDef_of X G a_telling l_telling q_telling k_telling
  have h_law_cell : HasDef K mg "_law_cell" s_law_cell := hasDef_of X G a_law_cell l_law_cell q_law_cell k_law_cell
  have h_law_row : HasDef K mg "_law_row" s_law_row := hasDef_of X G a_law_row l_law_row q_law_row k_law_row
  have h_law_draw : HasDef K mg "_law_draw" s_law_draw := hasDef_of X G a_law_draw l_law_draw q_law_draw k_law_draw
  have h_law_fragment : HasDef K mg "_law_fragment" s_law_fragment := hasDef_of X G a_law_fragment l_law_fragment q_law_fragment k_law_fragment
  have h_law_units : HasDef K mg "_law_units" s_law_units := hasDef_of X G a_law_units l_law_units q_law_units k_law_units
  have h_law_tidy : HasDef K mg "_law_tidy" s_law_tidy := hasDef_of X G a_law_tidy l_law_tidy q_law_tidy k_law_tidy
  have h_law_kind : HasDef K mg "_law_kind" s_law_kind := hasDef_of X G a_law_kind l_law_kind q_law_kind k_law_kind
  have h_law_gaps : HasDef K mg "_law_gaps" s_law_gaps := hasDef_of X G a_law_gaps l_law_gaps q_law_gaps k_law_gaps
  have h_law_join : HasDef K mg "_law_join" s_law_join := hasDef_of X G a_law_join l_law_join q_law_join k_law_join
  have h_law_kept : HasDef K mg "_law_kept" s_law_kept := hasDef_of X G a_law_kept l_law_kept q_law_kept k_law_kept
  have h_law_sign : HasDef K mg "_law_sign" s_law_sign := hasDef_of X G a_law_sign l_law_sign q_law_sign k_law_sign
  have h_law_shown : HasDef K mg "_law_shown" s_law_shown := hasDef_of X G a_law_shown l_law_shown q_law_shown k_law_shown
  have h_law_within : HasDef K mg "_law_within" s_law_within := hasDef_of X G a_law_within l_law_within q_law_within k_law_within
  have h_law_near : HasDef K mg "_law_near" s_law_near := hasDef_of X G a_law_near l_law_near q_law_near k_law_near
  have h_law_part : HasDef K mg "_law_part" s_law_part := hasDef_of X G a_law_part l_law_part q_law_part k_law_part
  have h_law_short_part : HasDef K mg "_law_short_part" s_law_short_part := hasDef_of X G a_law_short_part l_law_short_part q_law_short_part k_law_short_part
  have h_law_pair : HasDef K mg "_law_pair" s_law_pair := hasDef_of X G a_law_pair l_law_pair q_law_pair k_law_pair
  have m_zip : mg "zip" = none := PySem.W.mg_none_of X G z_zip
  have m_len : mg "len" = none := PySem.W.mg_none_of X G z_len
  have m_enumerate : mg "enumerate" = none := PySem.W.mg_none_of X G z_enumerate
  have m_range : mg "range" = none := PySem.W.mg_none_of X G z_range
  have m_int : mg "int" = none := PySem.W.mg_none_of X G z_int
  have m_abs : mg "abs" = none := PySem.W.mg_none_of X G z_abs
  have m_list : mg "list" = none := PySem.W.mg_none_of X G z_list
  have m_isinstance : mg "isinstance" = none := PySem.W.mg_none_of X G z_isinstance
  have m_bool : mg "bool" = none := PySem.W.mg_none_of X G z_bool
  have k_IN_GAPS : ∀ G H, Rep K G H (.tup [(.str [115, 112, 97, 99, 101]), (.str [102, 101, 101, 100]), (.str [109, 97, 114, 107])]) (.ref f_IN_GAPS) Em := repK_tup l_IN_GAPS rfl rfl y_IN_GAPS v_IN_GAPS fun _ _ => ⟨_, _, Em, Em, rfl, fun _ z => z, fun _ z => z, fun _ z _ => z, rfl, ⟨_, _, Em, Em, rfl, fun _ z => z, fun _ z => z, fun _ z _ => z, rfl, ⟨_, _, Em, Em, rfl, fun _ z => z, fun _ z => z, fun _ z _ => z, rfl, rfl⟩⟩⟩
  have m_IN_GAPS : mg "IN_GAPS" = some (.ref f_IN_GAPS) := PySem.W.mg_of X G a_IN_GAPS
  have k_CONTEXTS_0 : ∀ G H, Rep K G H (.tup [(.str []), (.str [])]) (.ref f_CONTEXTS_0) Em := repK_tup l_CONTEXTS_0 rfl rfl y_CONTEXTS_0 v_CONTEXTS_0 fun _ _ => ⟨_, _, Em, Em, rfl, fun _ z => z, fun _ z => z, fun _ z _ => z, rfl, ⟨_, _, Em, Em, rfl, fun _ z => z, fun _ z => z, fun _ z _ => z, rfl, rfl⟩⟩
  have k_CONTEXTS_1 : ∀ G H, Rep K G H (.tup [(.str [97]), (.str [])]) (.ref f_CONTEXTS_1) Em := repK_tup l_CONTEXTS_1 rfl rfl y_CONTEXTS_1 v_CONTEXTS_1 fun _ _ => ⟨_, _, Em, Em, rfl, fun _ z => z, fun _ z => z, fun _ z _ => z, rfl, ⟨_, _, Em, Em, rfl, fun _ z => z, fun _ z => z, fun _ z _ => z, rfl, rfl⟩⟩
  have k_CONTEXTS_2 : ∀ G H, Rep K G H (.tup [(.str [94]), (.str [])]) (.ref f_CONTEXTS_2) Em := repK_tup l_CONTEXTS_2 rfl rfl y_CONTEXTS_2 v_CONTEXTS_2 fun _ _ => ⟨_, _, Em, Em, rfl, fun _ z => z, fun _ z => z, fun _ z _ => z, rfl, ⟨_, _, Em, Em, rfl, fun _ z => z, fun _ z => z, fun _ z _ => z, rfl, rfl⟩⟩
  have k_CONTEXTS_3 : ∀ G H, Rep K G H (.tup [(.str [97, 32]), (.str [])]) (.ref f_CONTEXTS_3) Em := repK_tup l_CONTEXTS_3 rfl rfl y_CONTEXTS_3 v_CONTEXTS_3 fun _ _ => ⟨_, _, Em, Em, rfl, fun _ z => z, fun _ z => z, fun _ z _ => z, rfl, ⟨_, _, Em, Em, rfl, fun _ z => z, fun _ z => z, fun _ z _ => z, rfl, rfl⟩⟩
  have k_CONTEXTS_4 : ∀ G H, Rep K G H (.tup [(.str []), (.str [97])]) (.ref f_CONTEXTS_4) Em := repK_tup l_CONTEXTS_4 rfl rfl y_CONTEXTS_4 v_CONTEXTS_4 fun _ _ => ⟨_, _, Em, Em, rfl, fun _ z => z, fun _ z => z, fun _ z _ => z, rfl, ⟨_, _, Em, Em, rfl, fun _ z => z, fun _ z => z, fun _ z _ => z, rfl, rfl⟩⟩
  have k_CONTEXTS_5 : ∀ G H, Rep K G H (.tup [(.str []), (.str [94])]) (.ref f_CONTEXTS_5) Em := repK_tup l_CONTEXTS_5 rfl rfl y_CONTEXTS_5 v_CONTEXTS_5 fun _ _ => ⟨_, _, Em, Em, rfl, fun _ z => z, fun _ z => z, fun _ z _ => z, rfl, ⟨_, _, Em, Em, rfl, fun _ z => z, fun _ z => z, fun _ z _ => z, rfl, rfl⟩⟩
  have k_CONTEXTS_6 : ∀ G H, Rep K G H (.tup [(.str []), (.str [32, 97])]) (.ref f_CONTEXTS_6) Em := repK_tup l_CONTEXTS_6 rfl rfl y_CONTEXTS_6 v_CONTEXTS_6 fun _ _ => ⟨_, _, Em, Em, rfl, fun _ z => z, fun _ z => z, fun _ z _ => z, rfl, ⟨_, _, Em, Em, rfl, fun _ z => z, fun _ z => z, fun _ z _ => z, rfl, rfl⟩⟩
  have k_CONTEXTS_7 : ∀ G H, Rep K G H (.tup [(.str [97]), (.str [97])]) (.ref f_CONTEXTS_7) Em := repK_tup l_CONTEXTS_7 rfl rfl y_CONTEXTS_7 v_CONTEXTS_7 fun _ _ => ⟨_, _, Em, Em, rfl, fun _ z => z, fun _ z => z, fun _ z _ => z, rfl, ⟨_, _, Em, Em, rfl, fun _ z => z, fun _ z => z, fun _ z _ => z, rfl, rfl⟩⟩
  have k_CONTEXTS_8 : ∀ G H, Rep K G H (.tup [(.str [94]), (.str [97])]) (.ref f_CONTEXTS_8) Em := repK_tup l_CONTEXTS_8 rfl rfl y_CONTEXTS_8 v_CONTEXTS_8 fun _ _ => ⟨_, _, Em, Em, rfl, fun _ z => z, fun _ z => z, fun _ z _ => z, rfl, ⟨_, _, Em, Em, rfl, fun _ z => z, fun _ z => z, fun _ z _ => z, rfl, rfl⟩⟩
  have k_CONTEXTS : ∀ G H, Rep K G H (.tup [(.tup [(.str []), (.str [])]), (.tup [(.str [97]), (.str [])]), (.tup [(.str [94]), (.str [])]), (.tup [(.str [97, 32]), (.str [])]), (.tup [(.str []), (.str [97])]), (.tup [(.str []), (.str [94])]), (.tup [(.str []), (.str [32, 97])]), (.tup [(.str [97]), (.str [97])]), (.tup [(.str [94]), (.str [97])])]) (.ref f_CONTEXTS) Em := repK_tup l_CONTEXTS rfl rfl y_CONTEXTS v_CONTEXTS fun _ _ => ⟨_, _, Em, Em, rfl, fun _ z => z, fun _ z => z, fun _ z _ => z, k_CONTEXTS_0 _ _, ⟨_, _, Em, Em, rfl, fun _ z => z, fun _ z => z, fun _ z _ => z, k_CONTEXTS_1 _ _, ⟨_, _, Em, Em, rfl, fun _ z => z, fun _ z => z, fun _ z _ => z, k_CONTEXTS_2 _ _, ⟨_, _, Em, Em, rfl, fun _ z => z, fun _ z => z, fun _ z _ => z, k_CONTEXTS_3 _ _, ⟨_, _, Em, Em, rfl, fun _ z => z, fun _ z => z, fun _ z _ => z, k_CONTEXTS_4 _ _, ⟨_, _, Em, Em, rfl, fun _ z => z, fun _ z => z, fun _ z _ => z, k_CONTEXTS_5 _ _, ⟨_, _, Em, Em, rfl, fun _ z => z, fun _ z => z, fun _ z _ => z, k_CONTEXTS_6 _ _, ⟨_, _, Em, Em, rfl, fun _ z => z, fun _ z => z, fun _ z _ => z, k_CONTEXTS_7 _ _, ⟨_, _, Em, Em, rfl, fun _ z => z, fun _ z => z, fun _ z _ => z, k_CONTEXTS_8 _ _, rfl⟩⟩⟩⟩⟩⟩⟩⟩⟩
  have m_CONTEXTS : mg "CONTEXTS" = some (.ref f_CONTEXTS) := PySem.W.mg_of X G a_CONTEXTS
  have m_STAND_INS : mg "STAND_INS" = some (.ref f_STAND_INS) := PySem.W.mg_of X G a_STAND_INS
  have k_STAND_INS : TabK K w f_STAND_INS tab_STAND_INS := tabK_of l_STAND_INS g_STAND_INS y_STAND_INS v_STAND_INS
  refine ⟨PySem.W.fnOf "law" "law" (defArgs s_law) (defBody s_law) (defScope s_law) .none kV_law dc_law pm_law an_law cd_law ct_law, fun s v => .of_eq rfl, fun base _ _ => ?_⟩
  have o_units := ok_units (P := P) (w := w) (base := base) h_units 
  have o_tidy := ok_tidy (P := P) (w := w) (base := base) h_tidy m_zip
  have o_kind := ok_kind (P := P) (w := w) (base := base) h_kind m_STAND_INS k_STAND_INS
  have o_gaps := ok_gaps (P := P) (w := w) (base := base) h_gaps m_len m_enumerate m_IN_GAPS k_IN_GAPS o_kind
  have o_are_joining := ok_are_joining (P := P) (w := w) (base := base) h_are_joining 
  have o_white := ok_white (P := P) (w := w) (base := base) h_white o_are_joining
  have o_counting := ok_counting (P := P) (w := w) (base := base) h_counting o_gaps m_len m_enumerate o_kind o_white
  have o_shown_sign := ok_shown_sign (P := P) (w := w) (base := base) h_shown_sign o_kind
  have o_shown := ok_shown (P := P) (w := w) (base := base) h_shown o_shown_sign o_counting o_units
  have o_shortened := ok_shortened (P := P) (w := w) (base := base) h_shortened o_tidy o_counting o_units
  have o_marks := ok_marks (P := P) (w := w) (base := base) h_marks 
  have o_gap_form := ok_gap_form (P := P) (w := w) (base := base) h_gap_form o_marks o_white
  have o_normal_form := ok_normal_form (P := P) (w := w) (base := base) h_normal_form m_len o_gaps o_shown_sign o_gap_form o_units
  have o_stands_for := ok_stands_for (P := P) (w := w) (base := base) h_stands_for o_tidy o_units
  have o_are_alike := ok_are_alike (P := P) (w := w) (base := base) h_are_alike o_normal_form
  have o_is_telling := ok_is_telling (P := P) (w := w) (base := base) h_is_telling o_shown
  have o_telling := ok_telling (P := P) (w := w) (base := base) h_telling m_CONTEXTS k_CONTEXTS o_is_telling
  have o_law_cell := ok_law_cell (P := P) (w := w) (base := base) h_law_cell m_len
  have o_law_row := ok_law_row (P := P) (w := w) (base := base) h_law_row m_range m_int m_abs o_law_cell
  have o_law_draw := ok_law_draw (P := P) (w := w) (base := base) h_law_draw m_int m_len
  have o_law_fragment := ok_law_fragment (P := P) (w := w) (base := base) h_law_fragment m_range o_law_draw
  have o_law_units := ok_law_units (P := P) (w := w) (base := base) h_law_units 
  have o_law_tidy := ok_law_tidy (P := P) (w := w) (base := base) h_law_tidy m_len
  have o_law_kind := ok_law_kind (P := P) (w := w) (base := base) h_law_kind m_int
  have o_law_gaps := ok_law_gaps (P := P) (w := w) (base := base) h_law_gaps m_range m_len o_law_kind
  have o_law_join := ok_law_join (P := P) (w := w) (base := base) h_law_join 
  have o_law_kept := ok_law_kept (P := P) (w := w) (base := base) h_law_kept o_law_join o_law_kind
  have o_law_sign := ok_law_sign (P := P) (w := w) (base := base) h_law_sign o_law_kind
  have o_law_shown := ok_law_shown (P := P) (w := w) (base := base) h_law_shown o_law_sign m_range m_len o_law_kind o_law_kept o_law_gaps
  have o_law_within := ok_law_within (P := P) (w := w) (base := base) h_law_within o_law_shown
  have o_law_near := ok_law_near (P := P) (w := w) (base := base) h_law_near m_range o_law_draw m_int m_len m_list
  have o_law_part := ok_law_part (P := P) (w := w) (base := base) h_law_part o_law_tidy o_law_units o_law_fragment
  have o_law_short_part := ok_law_short_part (P := P) (w := w) (base := base) h_law_short_part o_law_draw m_range
  have o_law_pair := ok_law_pair (P := P) (w := w) (base := base) h_law_pair o_law_tidy o_law_near o_law_units o_law_part o_stands_for o_normal_form o_shortened o_law_draw
  exact law_of (ok_law (fun_mk l_law q_law k_law) m_range m_len o_law_units o_are_alike o_stands_for o_normal_form o_shortened o_shown o_law_shown o_law_short_part o_law_within m_isinstance m_bool o_telling o_law_pair o_law_row) pb
end
end Den

open PySem PySem.W PyProof.Rows
set_option maxHeartbeats 0 in
theorem PySem.Challenge.cw_gapsalike_k80_whole_every_context_holds : PySem.Challenge.rw_gapsalike_k80_whole_every_context.Holds := by
  w_on; o_law; k_head; (case hw => w_witness2)
  k_fill
  refine L2.walk_of (l := PySem.Challenge.rw_gapsalike_k80_whole_every_context) (n := 63) (k := 7) (x := "script") (CX := fun _ => L2.CX0) (sp := fun w => Den.spLaw _) rfl (by decide) rfl ⟨rfl, by decide, by decide⟩ (fun w h Y => PySem.W.kIn_of Y) ?F (fun _ _ a ns hl _ hS => ⟨a, ns, rfl, hS, hl, fun _ => rfl⟩) (fun _ _ _ _ _ h => h)
  case F =>
    intro w mg fa h KX G hmg
    refine' Den.all_mk Den.part_b KX G hmg ?a_units ?l_units ?q_units ?k_units ?a_tidy ?l_tidy ?q_tidy ?k_tidy ?a_kind ?l_kind ?q_kind ?k_kind ?a_gaps ?l_gaps ?q_gaps ?k_gaps ?a_are_joining ?l_are_joining ?q_are_joining ?k_are_joining ?a_white ?l_white ?q_white ?k_white ?a_counting ?l_counting ?q_counting ?k_counting ?a_shown_sign ?l_shown_sign ?q_shown_sign ?k_shown_sign ?a_shown ?l_shown ?q_shown ?k_shown ?a_shortened ?l_shortened ?q_shortened ?k_shortened ?a_marks ?l_marks ?q_marks ?k_marks ?a_gap_form ?l_gap_form ?q_gap_form ?k_gap_form ?a_normal_form ?l_normal_form ?q_normal_form ?k_normal_form ?a_stands_for ?l_stands_for ?q_stands_for ?k_stands_for ?a_are_alike ?l_are_alike ?q_are_alike ?k_are_alike ?a_is_telling ?l_is_telling ?q_is_telling ?k_is_telling ?a_telling ?l_telling ?q_telling ?k_telling ?a_law_cell ?l_law_cell ?q_law_cell ?k_law_cell ?a_law_row ?l_law_row ?q_law_row ?k_law_row ?a_law_draw ?l_law_draw ?q_law_draw ?k_law_draw ?a_law_fragment ?l_law_fragment ?q_law_fragment ?k_law_fragment ?a_law_units ?l_law_units ?q_law_units ?k_law_units ?a_law_tidy ?l_law_tidy ?q_law_tidy ?k_law_tidy ?a_law_kind ?l_law_kind ?q_law_kind ?k_law_kind ?a_law_gaps ?l_law_gaps ?q_law_gaps ?k_law_gaps ?a_law_join ?l_law_join ?q_law_join ?k_law_join ?a_law_kept ?l_law_kept ?q_law_kept ?k_law_kept ?a_law_sign ?l_law_sign ?q_law_sign ?k_law_sign ?a_law_shown ?l_law_shown ?q_law_shown ?k_law_shown ?a_law_within ?l_law_within ?q_law_within ?k_law_within ?a_law_near ?l_law_near ?q_law_near ?k_law_near ?a_law_part ?l_law_part ?q_law_part ?k_law_part ?a_law_short_part ?l_law_short_part ?q_law_short_part ?k_law_short_part ?a_law_pair ?l_law_pair ?q_law_pair ?k_law_pair ?a_law ?l_law ?q_law ?k_law ?z_zip ?z_len ?z_enumerate ?z_range ?z_int ?z_abs ?z_list ?z_isinstance ?z_bool ?a_IN_GAPS ?l_IN_GAPS ?y_IN_GAPS ?v_IN_GAPS ?a_CONTEXTS ?l_CONTEXTS ?y_CONTEXTS ?v_CONTEXTS ?l_CONTEXTS_0 ?y_CONTEXTS_0 ?v_CONTEXTS_0 ?l_CONTEXTS_1 ?y_CONTEXTS_1 ?v_CONTEXTS_1 ?l_CONTEXTS_2 ?y_CONTEXTS_2 ?v_CONTEXTS_2 ?l_CONTEXTS_3 ?y_CONTEXTS_3 ?v_CONTEXTS_3 ?l_CONTEXTS_4 ?y_CONTEXTS_4 ?v_CONTEXTS_4 ?l_CONTEXTS_5 ?y_CONTEXTS_5 ?v_CONTEXTS_5 ?l_CONTEXTS_6 ?y_CONTEXTS_6 ?v_CONTEXTS_6 ?l_CONTEXTS_7 ?y_CONTEXTS_7 ?v_CONTEXTS_7 ?l_CONTEXTS_8 ?y_CONTEXTS_8 ?v_CONTEXTS_8 ?a_STAND_INS ?l_STAND_INS ?g_STAND_INS ?y_STAND_INS ?v_STAND_INS
    (case a_units => k_is)
    (case l_units => k_is)
    (case q_units => k_is)
    (case k_units => k_is)
    (case a_tidy => k_is)
    (case l_tidy => k_is)
    (case q_tidy => k_is)
    (case k_tidy => k_is)
    (case a_kind => k_is)
    (case l_kind => k_is)
    (case q_kind => k_is)
    (case k_kind => k_is)
    (case a_gaps => k_is)
    (case l_gaps => k_is)
    (case q_gaps => k_is)
    (case k_gaps => k_is)
    (case a_are_joining => k_is)
    (case l_are_joining => k_is)
    (case q_are_joining => k_is)
    (case k_are_joining => k_is)
    (case a_white => k_is)
    (case l_white => k_is)
    (case q_white => k_is)
    (case k_white => k_is)
    (case a_counting => k_is)
    (case l_counting => k_is)
    (case q_counting => k_is)
    (case k_counting => k_is)
    (case a_shown_sign => k_is)
    (case l_shown_sign => k_is)
    (case q_shown_sign => k_is)
    (case k_shown_sign => k_is)
    (case a_shown => k_is)
    (case l_shown => k_is)
    (case q_shown => k_is)
    (case k_shown => k_is)
    (case a_shortened => k_is)
    (case l_shortened => k_is)
    (case q_shortened => k_is)
    (case k_shortened => k_is)
    (case a_marks => k_is)
    (case l_marks => k_is)
    (case q_marks => k_is)
    (case k_marks => k_is)
    (case a_gap_form => k_is)
    (case l_gap_form => k_is)
    (case q_gap_form => k_is)
    (case k_gap_form => k_is)
    (case a_normal_form => k_is)
    (case l_normal_form => k_is)
    (case q_normal_form => k_is)
    (case k_normal_form => k_is)
    (case a_stands_for => k_is)
    (case l_stands_for => k_is)
    (case q_stands_for => k_is)
    (case k_stands_for => k_is)
    (case a_are_alike => k_is)
    (case l_are_alike => k_is)
    (case q_are_alike => k_is)
    (case k_are_alike => k_is)
    (case a_is_telling => k_is)
    (case l_is_telling => k_is)
    (case q_is_telling => k_is)
    (case k_is_telling => k_is)
    (case a_telling => k_is)
    (case l_telling => k_is)
    (case q_telling => k_is)
    (case k_telling => k_is)
    (case a_law_cell => k_is)
    (case l_law_cell => k_is)
    (case q_law_cell => k_is)
    (case k_law_cell => k_is)
    (case a_law_row => k_is)
    (case l_law_row => k_is)
    (case q_law_row => k_is)
    (case k_law_row => k_is)
    (case a_law_draw => k_is)
    (case l_law_draw => k_is)
    (case q_law_draw => k_is)
    (case k_law_draw => k_is)
    (case a_law_fragment => k_is)
    (case l_law_fragment => k_is)
    (case q_law_fragment => k_is)
    (case k_law_fragment => k_is)
    (case a_law_units => k_is)
    (case l_law_units => k_is)
    (case q_law_units => k_is)
    (case k_law_units => k_is)
    (case a_law_tidy => k_is)
    (case l_law_tidy => k_is)
    (case q_law_tidy => k_is)
    (case k_law_tidy => k_is)
    (case a_law_kind => k_is)
    (case l_law_kind => k_is)
    (case q_law_kind => k_is)
    (case k_law_kind => k_is)
    (case a_law_gaps => k_is)
    (case l_law_gaps => k_is)
    (case q_law_gaps => k_is)
    (case k_law_gaps => k_is)
    (case a_law_join => k_is)
    (case l_law_join => k_is)
    (case q_law_join => k_is)
    (case k_law_join => k_is)
    (case a_law_kept => k_is)
    (case l_law_kept => k_is)
    (case q_law_kept => k_is)
    (case k_law_kept => k_is)
    (case a_law_sign => k_is)
    (case l_law_sign => k_is)
    (case q_law_sign => k_is)
    (case k_law_sign => k_is)
    (case a_law_shown => k_is)
    (case l_law_shown => k_is)
    (case q_law_shown => k_is)
    (case k_law_shown => k_is)
    (case a_law_within => k_is)
    (case l_law_within => k_is)
    (case q_law_within => k_is)
    (case k_law_within => k_is)
    (case a_law_near => k_is)
    (case l_law_near => k_is)
    (case q_law_near => k_is)
    (case k_law_near => k_is)
    (case a_law_part => k_is)
    (case l_law_part => k_is)
    (case q_law_part => k_is)
    (case k_law_part => k_is)
    (case a_law_short_part => k_is)
    (case l_law_short_part => k_is)
    (case q_law_short_part => k_is)
    (case k_law_short_part => k_is)
    (case a_law_pair => k_is)
    (case l_law_pair => k_is)
    (case q_law_pair => k_is)
    (case k_law_pair => k_is)
    (case a_law => k_is)
    (case l_law => k_is)
    (case q_law => k_is)
    (case k_law => k_is)
    (case z_zip => k_is)
    (case z_len => k_is)
    (case z_enumerate => k_is)
    (case z_range => k_is)
    (case z_int => k_is)
    (case z_abs => k_is)
    (case z_list => k_is)
    (case z_isinstance => k_is)
    (case z_bool => k_is)
    (case a_IN_GAPS => k_is)
    (case l_IN_GAPS => k_is)
    (case y_IN_GAPS => decide +kernel)
    (case v_IN_GAPS => exact (Paired.cons ⟨_, rfl⟩ (Paired.cons ⟨_, rfl⟩ (Paired.cons ⟨_, rfl⟩ Paired.nil))))
    (case a_CONTEXTS => k_is)
    (case l_CONTEXTS => k_is)
    (case y_CONTEXTS => decide +kernel)
    (case v_CONTEXTS => exact (Paired.cons rfl (Paired.cons rfl (Paired.cons rfl (Paired.cons rfl (Paired.cons rfl (Paired.cons rfl (Paired.cons rfl (Paired.cons rfl (Paired.cons rfl Paired.nil))))))))))
    (case l_CONTEXTS_0 => k_is)
    (case y_CONTEXTS_0 => decide +kernel)
    (case v_CONTEXTS_0 => exact (Paired.cons ⟨_, rfl⟩ (Paired.cons ⟨_, rfl⟩ Paired.nil)))
    (case l_CONTEXTS_1 => k_is)
    (case y_CONTEXTS_1 => decide +kernel)
    (case v_CONTEXTS_1 => exact (Paired.cons ⟨_, rfl⟩ (Paired.cons ⟨_, rfl⟩ Paired.nil)))
    (case l_CONTEXTS_2 => k_is)
    (case y_CONTEXTS_2 => decide +kernel)
    (case v_CONTEXTS_2 => exact (Paired.cons ⟨_, rfl⟩ (Paired.cons ⟨_, rfl⟩ Paired.nil)))
    (case l_CONTEXTS_3 => k_is)
    (case y_CONTEXTS_3 => decide +kernel)
    (case v_CONTEXTS_3 => exact (Paired.cons ⟨_, rfl⟩ (Paired.cons ⟨_, rfl⟩ Paired.nil)))
    (case l_CONTEXTS_4 => k_is)
    (case y_CONTEXTS_4 => decide +kernel)
    (case v_CONTEXTS_4 => exact (Paired.cons ⟨_, rfl⟩ (Paired.cons ⟨_, rfl⟩ Paired.nil)))
    (case l_CONTEXTS_5 => k_is)
    (case y_CONTEXTS_5 => decide +kernel)
    (case v_CONTEXTS_5 => exact (Paired.cons ⟨_, rfl⟩ (Paired.cons ⟨_, rfl⟩ Paired.nil)))
    (case l_CONTEXTS_6 => k_is)
    (case y_CONTEXTS_6 => decide +kernel)
    (case v_CONTEXTS_6 => exact (Paired.cons ⟨_, rfl⟩ (Paired.cons ⟨_, rfl⟩ Paired.nil)))
    (case l_CONTEXTS_7 => k_is)
    (case y_CONTEXTS_7 => decide +kernel)
    (case v_CONTEXTS_7 => exact (Paired.cons ⟨_, rfl⟩ (Paired.cons ⟨_, rfl⟩ Paired.nil)))
    (case l_CONTEXTS_8 => k_is)
    (case y_CONTEXTS_8 => decide +kernel)
    (case v_CONTEXTS_8 => exact (Paired.cons ⟨_, rfl⟩ (Paired.cons ⟨_, rfl⟩ Paired.nil)))
    (case a_STAND_INS => k_is)
    (case l_STAND_INS => k_is)
    (case g_STAND_INS => exact ⟨⟨_, _, rfl, rfl⟩, ⟨⟨_, _, rfl, rfl⟩, ⟨⟨_, _, rfl, rfl⟩, ⟨⟨_, _, rfl, rfl⟩, trivial⟩⟩⟩⟩)
    (case y_STAND_INS => decide +kernel)
    (case v_STAND_INS => exact (Paired.cons ⟨⟨_, rfl⟩, _, rfl⟩ (Paired.cons ⟨⟨_, rfl⟩, _, rfl⟩ (Paired.cons ⟨⟨_, rfl⟩, _, rfl⟩ (Paired.cons ⟨⟨_, rfl⟩, _, rfl⟩ Paired.nil)))))
