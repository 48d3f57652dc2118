import PyProof.Rows.All
import Wide.All
import OpenK.AllK
import Wide.FinOn
import HandS.Base
import HandS.Call
import HandS.List
import HandS.Comp
import HandS.Ends
import HandS.Dict
import HandS.Iter
import HandS.Text
import HandS.Words
import HandS.WordsList
import HandS.WordsDict
import HandS.ForMost
import HandS.TupAny
import HandS.TupMul
import HandS.IsInst
import HandS.Wide
import HandS.Deep
import HandS.Flow
import PySem.Challenge.RW_tonguehouse_k02_forms_of_counts
set_option Elab.async false
set_option linter.all false
set_option maxRecDepth 100000
namespace PD
open PySem PySem.Spec PyProof.Rows L2

abbrev D := PyData
structure Dk where
  cells : List Int
  k : Int
inductive Sl where
  | no | val (d : D) | uni (ds : List D) | deck

def keyD : Key → D
  | .inl i => .int i
  | .inr x => .str x

/-- a list, a tuple of the written part -/
def KT (K : PySem.W.Frag) (a : Addr) (xs : List V) : Prop :=
  ∃ (o : Obj) (its : Array Value) (n : Nat), K.lookup a = some o ∧ o.cls = .type "tuple" ∧ o.data = .seq its n ∧ its.size ≤ sizeLine ∧ Vals xs its.toList
def AL (K : PySem.W.Frag) (M : Addr → Prop) (H : Hp) (a : Addr) (xs : List V) : Prop := ¬ M a ∧ H a = some (.lst xs)
def AT (K : PySem.W.Frag) (M : Addr → Prop) (H : Hp) (a : Addr) (xs : List V) : Prop := (¬ M a ∧ Rd H a (.tup xs)) ∨ KT K a xs
theorem AL.sq {K M H a xs} (h : AL K M H a xs) : SqL K H a xs := .inl (.inl h.2)
theorem AT.sq {K M H a xs} (h : AT K M H a xs) : SqT K H a xs := h.elim (fun h => .inl h.2) .inr

mutual
inductive Rep (K : PySem.W.Frag) (M : Addr → Prop) (H : Hp) : V → D → Prop
  | non : Rep K M H .non .none
  | bl (b : Bool) : Rep K M H (.bl b) (.bool b)
  | int (i : Int) : Rep K M H (.int i) (.int i)
  | str (x : Str) : Rep K M H (.str x) (.str x)
  | lst {a : Addr} {xs : List V} {ds : List D} : AL K M H a xs → Reps K M H xs ds → Rep K M H (.ref a) (.list ds)
  | tup {a : Addr} {xs : List V} {ds : List D} : AT K M H a xs → Reps K M H xs ds → Rep K M H (.ref a) (.tuple ds)
  | dic {a : Addr} {kvs : List (Key × V)} {es : List (D × D)} : ¬ M a → H a = some (.dK kvs) → RepK K M H kvs es → Rep K M H (.ref a) (.dict es)
inductive Reps (K : PySem.W.Frag) (M : Addr → Prop) (H : Hp) : List V → List D → Prop
  | nil : Reps K M H [] []
  | cons {v : V} {vs : List V} {d : D} {ds : List D} : Rep K M H v d → Reps K M H vs ds → Reps K M H (v :: vs) (d :: ds)
inductive RepK (K : PySem.W.Frag) (M : Addr → Prop) (H : Hp) : List (Key × V) → List (D × D) → Prop
  | nil : RepK K M H [] []
  | cons {k : Key} {v : V} {kvs : List (Key × V)} {e : D} {es : List (D × D)} : Rep K M H v e → RepK K M H kvs es → RepK K M H ((k, v) :: kvs) ((keyD k, e) :: es)
end

/-- from (M, H) to (M', H'): what is not in M stays, and is not in M' -/
def Mv (M : Addr → Prop) (H : Hp) (M' : Addr → Prop) (H' : Hp) : Prop := ∀ a o, H a = some o → ¬ M a → H' a = some o ∧ ¬ M' a
theorem Mv.refl (M H) : Mv M H M H := fun _ _ h n => ⟨h, n⟩
theorem Mv.trans {M H M1 H1 M2 H2} (h : Mv M H M1 H1) (g : Mv M1 H1 M2 H2) : Mv M H M2 H2 := fun a o e n => g a o (h a o e n).1 (h a o e n).2
theorem Mv.same {M H H'} (h : ∀ a o, H a = some o → H' a = some o) : Mv M H M H' := fun a o e n => ⟨h a o e, n⟩
theorem Mv.rd {M H M' H' a u} (h : Mv M H M' H') (n : ¬ M a) (r : Rd H a u) : ¬ M' a ∧ Rd H' a u := by
  rcases r with r | ⟨o, r⟩
  · exact ⟨(h a _ r n).2, .inl (h a _ r n).1⟩
  · exact ⟨(h a _ r n).2, .inr ⟨o, (h a _ r n).1⟩⟩
theorem AL.mv {K M H M' H' a xs} (h : Mv M H M' H') (x : AL K M H a xs) : AL K M' H' a xs := ⟨(h _ _ x.2 x.1).2, (h _ _ x.2 x.1).1⟩
theorem AT.mv {K M H M' H' a xs} (h : Mv M H M' H') (x : AT K M H a xs) : AT K M' H' a xs := x.elim (fun x => .inl (h.rd x.1 x.2)) .inr
mutual
theorem Rep.mv {K M H M' H'} (h : Mv M H M' H') : ∀ {v d}, Rep K M H v d → Rep K M' H' v d
  | _, _, .non => .non
  | _, _, .bl b => .bl b
  | _, _, .int i => .int i
  | _, _, .str x => .str x
  | _, _, .lst a r => .lst (a.mv h) (Reps.mv h r)
  | _, _, .tup a r => .tup (a.mv h) (Reps.mv h r)
  | _, _, .dic n e r => .dic (h _ _ e n).2 (h _ _ e n).1 (RepK.mv h r)
theorem Reps.mv {K M H M' H'} (h : Mv M H M' H') : ∀ {vs ds}, Reps K M H vs ds → Reps K M' H' vs ds
  | _, _, .nil => .nil
  | _, _, .cons r t => .cons (Rep.mv h r) (Reps.mv h t)
theorem RepK.mv {K M H M' H'} (h : Mv M H M' H') : ∀ {vs ds}, RepK K M H vs ds → RepK K M' H' vs ds
  | _, _, .nil => .nil
  | _, _, .cons r t => .cons (Rep.mv h r) (RepK.mv h t)
end
theorem Reps.length {K M H} : ∀ {vs ds}, Reps K M H vs ds → vs.length = ds.length
  | _, _, .nil => rfl
  | _, _, .cons _ t => by simp only [List.length_cons, Reps.length t]
theorem Reps.get {K M H} : ∀ {vs ds} {i : Nat} {v}, Reps K M H vs ds → vs[i]? = some v → ∃ d, ds[i]? = some d ∧ Rep K M H v d
  | _, _, _, _, .nil, e => by simp at e
  | _, _, 0, _, .cons r _, e => by simp at e; subst e; exact ⟨_, rfl, r⟩
  | _, _, i + 1, v, .cons _ t, e => by simpa using Reps.get (i := i) (v := v) t (by simpa using e)
theorem Reps.get' {K M H} : ∀ {vs ds} {i : Nat} {d}, Reps K M H vs ds → ds[i]? = some d → ∃ v, vs[i]? = some v ∧ Rep K M H v d
  | _, _, _, _, .nil, e => by simp at e
  | _, _, 0, _, .cons r _, e => by simp at e; subst e; exact ⟨_, rfl, r⟩
  | _, _, i + 1, v, .cons _ t, e => by simpa using Reps.get' (i := i) (d := v) t (by simpa using e)
theorem Reps.append {K M H} : ∀ {vs ds ws es}, Reps K M H vs ds → Reps K M H ws es → Reps K M H (vs ++ ws) (ds ++ es)
  | _, _, _, _, .nil, s => s
  | _, _, _, _, .cons r t, s => .cons r (Reps.append t s)
theorem Reps.take {K M H} : ∀ {vs ds} (n : Nat), Reps K M H vs ds → Reps K M H (vs.take n) (ds.take n)
  | _, _, 0, _ => .nil
  | _, _, _ + 1, .nil => .nil
  | _, _, n + 1, .cons r t => .cons r (Reps.take n t)
theorem Reps.drop {K M H} : ∀ {vs ds} (n : Nat), Reps K M H vs ds → Reps K M H (vs.drop n) (ds.drop n)
  | _, _, 0, r => r
  | _, _, _ + 1, .nil => .nil
  | _, _, n + 1, .cons _ t => Reps.drop n t
theorem Reps.ints {K M H} : ∀ ns : List Int, Reps K M H (ns.map V.int) (ns.map PyData.int)
  | [] => .nil
  | n :: r => .cons (.int n) (Reps.ints r)

/-- a frame: what the callers may change (M0), the deck's two addresses, the heap at its entry -/
structure Fr where
  M0 : Addr → Prop
  dk : Option (Addr × Addr)
  H0 : Hp
def Mm (F : Fr) (σ : L2.St) (ρ : List Sl) : Addr → Prop := fun a => F.M0 a ∨ ∃ (i : Nat) (ds : List D), ρ[i]? = some (.uni ds) ∧ σ[i]? = some (some (.ref a))
structure DeckAt (H : Hp) (p : Addr × Addr) (δ : Dk) : Prop where
  ne : p.1 ≠ p.2
  one : H p.1 = some (.lst [.ref p.2, .int δ.k])
  two : H p.2 = some (.lst (δ.cells.map V.int))
structure Good (K : PySem.W.Frag) (F : Fr) (σ : L2.St) (H : Hp) (ρ : List Sl) (δ : Dk) : Prop where
  len : σ.length = ρ.length
  val : ∀ (i : Nat) d, ρ[i]? = some (.val d) → ∃ v, σ[i]? = some (some v) ∧ Rep K (Mm F σ ρ) H v d
  uni : ∀ (i : Nat) ds, ρ[i]? = some (.uni ds) → ∃ a xs, σ[i]? = some (some (.ref a)) ∧ H a = some (.lst xs) ∧ Reps K (Mm F σ ρ) H xs ds ∧ ¬ F.M0 a ∧ F.H0 a = none
  inj : ∀ (i j : Nat) ds es a, ρ[i]? = some (.uni ds) → ρ[j]? = some (.uni es) → σ[i]? = some (some (.ref a)) → σ[j]? = some (some (.ref a)) → i = j
  m0 : ∀ a, F.M0 a → H a ≠ none
  dsl : ∀ (i : Nat), ρ[i]? = some .deck → ∃ p, F.dk = some p ∧ σ[i]? = some (some (.ref p.1))
  dck : ∀ p, F.dk = some p → F.M0 p.1 ∧ F.M0 p.2 ∧ DeckAt H p δ
  fr : ∀ a o, F.H0 a = some o → (∀ p, F.dk = some p → a ≠ p.1 ∧ a ≠ p.2) → H a = some o

theorem upd_keeps {H : Hp} {p : Addr} {o : HO} (h : H p = none) : ∀ a u, H a = some u → upd H p o a = some u := fun a u e => by
  rw [upd_ne (ne_of_none e h)]; exact e
theorem Good.keep {K F σ H H' ρ δ} (G : Good K F σ H ρ δ) (h : ∀ a o, H a = some o → H' a = some o) : Good K F σ H' ρ δ where
  len := G.len
  val := fun i d e => by
    obtain ⟨v, e1, r⟩ := G.val i d e
    exact ⟨v, e1, r.mv (Mv.same h)⟩
  uni := fun i ds e => by
    obtain ⟨a, xs, e1, e2, r, n⟩ := G.uni i ds e
    exact ⟨a, xs, e1, h _ _ e2, r.mv (Mv.same h), n⟩
  inj := G.inj
  m0 := fun a ha => by
    cases e : H a with
    | none => exact absurd e (G.m0 a ha)
    | some o => rw [h a o e]; intro z; cases z
  dsl := G.dsl
  dck := fun p e => by
    obtain ⟨a, b, c⟩ := G.dck p e
    exact ⟨a, b, c.ne, h _ _ c.one, h _ _ c.two⟩
  fr := fun a o e n => h _ _ (G.fr a o e n)
theorem Good.new {K F σ H ρ δ p o} (G : Good K F σ H ρ δ) (h : H p = none) : Good K F σ (upd H p o) ρ δ := G.keep (upd_keeps h)
theorem Good.mfree {K F σ H ρ δ p} (G : Good K F σ H ρ δ) (h : H p = none) : ¬ Mm F σ ρ p := by
  rintro (m | ⟨i, ds, e1, e2⟩)
  · exact G.m0 p m h
  · obtain ⟨a, xs, e3, e4, _⟩ := G.uni i ds e1
    rw [e2] at e3
    cases e3
    rw [h] at e4
    cases e4

/-! ### the mirror's expressions -/
abbrev ME := List Sl → Dk → Option (D × Dk)
abbrev MT := List Sl → Dk → Option (Bool × Dk)
abbrev MA := List Sl → Dk → Option (List D × Dk)
def Snd (K : PySem.W.Frag) (t : TE) (m : ME) : Prop := ∀ F σ H ρ δ d δ', Good K F σ H ρ δ → m ρ δ = some (d, δ') → ∀ Q : VK,
  (∀ v H', Good K F σ H' ρ δ' → Mv (Mm F σ ρ) H (Mm F σ ρ) H' → Rep K (Mm F σ ρ) H' v d → Q v H') → t σ H Q
def SndT (K : PySem.W.Frag) (t : TT) (m : MT) : Prop := ∀ F σ H ρ δ d δ', Good K F σ H ρ δ → m ρ δ = some (d, δ') → ∀ Q : Bool → Hp → Prop,
  (∀ H', Good K F σ H' ρ δ' → Mv (Mm F σ ρ) H (Mm F σ ρ) H' → Q d H') → t σ H Q
def SndA (K : PySem.W.Frag) (t : TA) (m : MA) : Prop := ∀ F σ H ρ δ d δ', Good K F σ H ρ δ → m ρ δ = some (d, δ') → ∀ Q : List V → Hp → Prop,
  (∀ v H', Good K F σ H' ρ δ' → Mv (Mm F σ ρ) H (Mm F σ ρ) H' → Reps K (Mm F σ ρ) H' v d → Q v H') → t σ H Q
structure PD (X : Cx) (e : Expr) (m : ME) : Prop where
  ex : ∃ t, PE X e t ∧ Snd X.K t m
structure PDT (X : Cx) (e : Expr) (m : MT) : Prop where
  ex : ∃ t, PT X e t ∧ SndT X.K t m
structure PDA (X : Cx) (es : List Expr) (m : MA) : Prop where
  ex : ∃ t, PA X es t ∧ SndA X.K t m

/-! names, constants -/
def mVar (i : Nat) : ME := fun ρ δ => match ρ[i]? with
  | some (.val d) => some (d, δ)
  | _ => none
def mC (d : D) : ME := fun _ δ => some (d, δ)
theorem snd_c {K v d} (h : ∀ M H, Rep K M H v d) : Snd K (tC v) (mC d) := fun F σ H ρ δ d' δ' G e Q q => by
  cases e
  exact q v H G (Mv.refl _ _) (h _ _)
theorem snd_var {K i} : Snd K (tVar i) (mVar i) := fun F σ H ρ δ d' δ' G e Q q => by
  unfold mVar at e
  split at e
  · rename_i d h
    cases e
    obtain ⟨v, e1, r⟩ := G.val i _ h
    exact ⟨v, e1, q v H G (Mv.refl _ _) r⟩
  · cases e
section
variable {X : Cx}
theorem pd_int {i j pos} : PD X (.Constant (.int i) j pos) (mC (.int i)) := ⟨_, pe_int, snd_c fun _ _ => .int i⟩
theorem pd_bl {i j pos} : PD X (.Constant (.bool i) j pos) (mC (.bool i)) := ⟨_, pe_bl, snd_c fun _ _ => .bl i⟩
theorem pd_non {j pos} : PD X (.Constant .none j pos) (mC .none) := ⟨_, pe_non, snd_c fun _ _ => .non⟩
theorem pd_str {i j pos} : PD X (.Constant (.str i) j pos) (mC (.str i)) := ⟨_, pe_str, snd_c fun _ _ => .str i⟩
theorem pd_var (i : Nat) {x : Str} {pos : Pos} (hN : X.N[i]? = some x := by rfl) (hv : Vis X.env.scope x := by first | exact Or.inl rfl | exact Or.inr (Or.inl rfl) | exact Or.inr (Or.inr rfl)) (hd : (x == ("__debug__" : Str)) = false := by decide)
    (hcd : (x == ("__classdict__" : Str)) = false := by decide) : PD X (.Name x pos) (mVar i) := ⟨_, pe_var hN hv hd hcd, snd_var⟩
end

/-! operators by values -/
def OpS (K : PySem.W.Frag) (r : R2) (f : D → D → Option D) : Prop := ∀ F σ H ρ δ x y d e z, Good K F σ H ρ δ → Rep K (Mm F σ ρ) H x d → Rep K (Mm F σ ρ) H y e → f d e = some z → ∀ Q : VK,
  (∀ v H', (∀ a o, H a = some o → H' a = some o) → Rep K (Mm F σ ρ) H' v z → Q v H') → r x y H Q
def mBin (f : D → D → Option D) (a b : ME) : ME := fun ρ δ => (a ρ δ).bind fun p => (b ρ p.2).bind fun q => (f p.1 q.1).map fun z => (z, q.2)
theorem snd_bin {K r f ta tb a b} (o : OpS K r f) (ha : Snd K ta a) (hb : Snd K tb b) : Snd K (tOp r ta tb) (mBin f a b) := fun F σ H ρ δ d δ' G e Q q => by
  unfold mBin at e
  obtain ⟨⟨x, δ1⟩, e1, e⟩ := Option.bind_eq_some_iff.mp e
  obtain ⟨⟨y, δ2⟩, e2, e⟩ := Option.bind_eq_some_iff.mp e
  obtain ⟨z, e3, e⟩ := Option.map_eq_some_iff.mp e
  cases e
  refine ha F σ H ρ δ x δ1 G e1 _ fun v H1 G1 M1 R1 => hb F σ H1 ρ δ1 y δ2 G1 e2 _ fun u H2 G2 M2 R2 => ?_
  refine o F σ H2 ρ δ2 v u x y d G2 (R1.mv M2) R2 e3 _ fun w H3 k R3 => q w H3 (G2.keep k) ((M1.trans M2).trans (Mv.same k)) R3
theorem OpR.or {X : Cx} {f : Value → Value → Sem Value} {r r' : R2} (h : OpR X f r) (h' : OpR X f r') : OpR X f (fun x y H Q => r x y H Q ∨ r' x y H Q) := fun pins s σ H x y v u Q I rx ry q =>
  q.elim (fun q => h pins s σ H x y v u Q I rx ry q) (fun q => h' pins s σ H x y v u Q I rx ry q)
end PD

namespace PD
open PySem PySem.Spec PyProof.Rows L2

/-! ### operators -/
theorem OpS.or {K r r' f g} (h : OpS K r f) (h' : OpS K r' g) : OpS K (fun x y H Q => r x y H Q ∨ r' x y H Q) (fun d e => (f d e).orElse fun _ => g d e) := fun F σ H ρ δ x y d e z G rx ry hz Q q => by
  dsimp only at hz
  cases hf : f d e with
  | some w => rw [hf] at hz; cases hz; exact .inl (h F σ H ρ δ x y d e _ G rx ry hf Q q)
  | none => rw [hf] at hz; exact .inr (h' F σ H ρ δ x y d e z G rx ry hz Q q)
/-- ints under C -/
def onI (C : Int → Int → Bool) (g : Int → Int → D) : D → D → Option D
  | .int i, .int j => if C i j then some (g i j) else none
  | _, _ => none
theorem ops_I {K} {C : Int → Int → Prop} {c : Int → Int → Bool} {g : Int → Int → V} {g' : Int → Int → D} (hc : ∀ i j, c i j = true → C i j) (hg : ∀ i j M H, Rep K M H (g i j) (g' i j)) : OpS K (rI C g) (onI c g') := fun F σ H ρ δ x y d e z G rx ry hz Q q => by
  unfold onI at hz
  split at hz
  · rename_i i j
    split at hz
    · rename_i h
      cases hz
      cases rx
      cases ry
      exact ⟨i, j, rfl, rfl, hc i j h, q _ H (fun _ _ h => h) (hg i j _ _)⟩
    · cases hz
  · cases hz
theorem ops_I0 {K} {g : Int → Int → V} {g' : Int → Int → D} (hg : ∀ i j M H, Rep K M H (g i j) (g' i j)) : OpS K (rI0 g) (onI (fun _ _ => true) g') := fun F σ H ρ δ x y d e z G rx ry hz Q q => by
  unfold onI at hz
  split at hz
  · rename_i i j
    simp only [if_true] at hz
    cases hz
    cases rx
    cases ry
    exact ⟨i, j, rfl, rfl, q _ H (fun _ _ h => h) (hg i j _ _)⟩
  · cases hz
def onS (C : Str → Str → Bool) (g : Str → Str → D) : D → D → Option D
  | .str i, .str j => if C i j then some (g i j) else none
  | _, _ => none
theorem ops_addS {K} : OpS K (fun x y H Q => ∃ i j, x = .str i ∧ y = .str j ∧ i.length + j.length ≤ sizeLine ∧ Q (.str (i ++ j)) H) (onS (fun i j => decide (i.length + j.length ≤ sizeLine)) fun i j => .str (i ++ j)) := fun F σ H ρ δ x y d e z G rx ry hz Q q => by
  unfold onS at hz
  split at hz
  · rename_i i j
    split at hz
    · rename_i h
      cases hz
      cases rx
      cases ry
      exact ⟨i, j, rfl, rfl, of_decide_eq_true h, q _ H (fun _ _ h => h) (.str _)⟩
    · cases hz
  · cases hz
theorem ops_cmpS {K} {c : Str → Str → Bool} : OpS K (fun x y H Q => ∃ i j, x = .str i ∧ y = .str j ∧ Q (.bl (c i j)) H) (onS (fun _ _ => true) fun i j => .bool (c i j)) := fun F σ H ρ δ x y d e z G rx ry hz Q q => by
  unfold onS at hz
  split at hz
  · rename_i i j
    simp only [if_true] at hz
    cases hz
    cases rx
    cases ry
    exact ⟨i, j, rfl, rfl, q _ H (fun _ _ h => h) (.bl _)⟩
  · cases hz
def catL : D → D → Option D
  | .list xs, .list ys => if xs.length + ys.length ≤ sizeLine then some (.list (xs ++ ys)) else none
  | _, _ => none
theorem ops_catL {K} : OpS K rCat catL := fun F σ H ρ δ x y d e z G rx ry hz Q q => by
  unfold catL at hz
  split at hz
  · rename_i xs ys
    split at hz
    · rename_i h
      cases hz
      cases rx with
      | @lst a vs _ ha r1 =>
        cases ry with
        | @lst b ws _ hb r2 =>
          refine ⟨_, _, _, _, rfl, rfl, ha.2, hb.2, by rw [r1.length, r2.length]; exact h, fun p hp => ?_⟩
          have k := upd_keeps (o := .lst (vs ++ ws)) hp
          exact q _ _ k (.lst ⟨G.mfree hp, upd_same⟩ ((r1.append r2).mv (Mv.same k)))
    · cases hz
  · cases hz
def catT : D → D → Option D
  | .tuple xs, .tuple ys => if xs.length + ys.length ≤ sizeLine then some (.tuple (xs ++ ys)) else none
  | _, _ => none
theorem ops_catT {K} : OpS K (rCatA K) catT := fun F σ H ρ δ x y d e z G rx ry hz Q q => by
  unfold catT at hz
  split at hz
  · rename_i xs ys
    split at hz
    · rename_i h
      cases hz
      cases rx with
      | @tup a vs _ ha r1 =>
        cases ry with
        | @tup b ws _ hb r2 =>
          refine ⟨_, _, _, _, rfl, rfl, ha.sq, hb.sq, by rw [r1.length, r2.length]; exact h, fun e => ?_, fun _ e => ?_, fun _ _ p hp => ?_⟩
          · subst e
            cases r1
            exact q _ H (fun _ _ h => h) (.tup hb r2)
          · subst e
            cases r2
            rw [List.append_nil] at q
            exact q _ H (fun _ _ h => h) (.tup ha r1)
          · have k := upd_keeps (o := .tup (vs ++ ws)) hp
            exact q _ _ k (.tup (.inl ⟨G.mfree hp, .inl upd_same⟩) ((r1.append r2).mv (Mv.same k)))
    · cases hz
  · cases hz
def addD : D → D → Option D := fun d e => (onI (fun _ _ => true) (fun i j => .int (i + j)) d e).orElse fun _ => (onS (fun i j => decide (i.length + j.length ≤ sizeLine)) (fun i j => .str (i ++ j)) d e).orElse fun _ => (catL d e).orElse fun _ => catT d e
def subD : D → D → Option D := onI (fun _ _ => true) fun i j => .int (i - j)
def mulOk (i j : Int) : Bool := decide (-(2 ^ 64) < i ∧ i < 2 ^ 64) || decide (-(2 ^ 64) < j ∧ j < 2 ^ 64)
def mulI : D → D → Option D := onI mulOk fun i j => .int (i * j)
def mulT : D → D → Option D
  | .tuple xs, .int k => if xs ≠ [] ∧ 2 ≤ k ∧ k ≤ 1000 ∧ xs.length ≤ 1000 then some (.tuple (List.replicate k.toNat xs).flatten) else none
  | _, _ => none
def modD : D → D → Option D := onI (fun _ j => decide (0 < j)) fun i j => .int (i % j)
def fdivD : D → D → Option D := onI (fun _ j => decide (0 < j ∧ j.natAbs.log2 < 9000)) fun i j => .int (i / j)
def powD : D → D → Option D := onI (fun i j => decide (0 ≤ j ∧ j ≤ 1000000 ∧ i.natAbs < 2 ^ 64)) fun i j => .int (i ^ j.toNat)
theorem Reps.flat {K M H} {vs : List V} {ds : List D} (r : Reps K M H vs ds) : ∀ n, Reps K M H (List.replicate n vs).flatten (List.replicate n ds).flatten
  | 0 => .nil
  | n + 1 => by
    rw [List.replicate_succ, List.replicate_succ, List.flatten_cons, List.flatten_cons]
    exact r.append (Reps.flat r n)
theorem ops_mulT {K} : OpS K (rRepT K) mulT := fun F σ H ρ δ x y d e z G rx ry hz Q q => by
  unfold mulT at hz
  split at hz
  · rename_i xs k
    split at hz
    · rename_i h
      cases hz
      cases ry
      cases rx with
      | @tup a vs _ ha r1 =>
        refine ⟨_, _, _, rfl, rfl, ha.sq, fun e => h.1 ?_, h.2.1, h.2.2.1, by rw [r1.length]; exact h.2.2.2, fun p hp => ?_⟩
        · subst e; cases r1; rfl
        · have kk := upd_keeps (o := .tup (List.replicate k.toNat vs).flatten) hp
          exact q _ _ kk (.tup (.inl ⟨G.mfree hp, .inl upd_same⟩) ((r1.flat _).mv (Mv.same kk)))
    · cases hz
  · cases hz
def mulD : D → D → Option D := fun d e => (mulI d e).orElse fun _ => mulT d e

section
variable {X : Cx} {a b : Expr} {ma mb : ME} {pos : Pos}
theorem PD.op {op : Operator} {r : R2} {f : D → D → Option D} (ho : OpR X (binaryOp op) r) (s : OpS X.K r f) (ha : PD X a ma) (hb : PD X b mb) : PD X (.BinOp a op b pos) (mBin f ma mb) := by
  obtain ⟨ta, h1, s1⟩ := ha.ex
  obtain ⟨tb, h2, s2⟩ := hb.ex
  exact ⟨_, pe_op ho h1 h2, snd_bin s s1 s2⟩
theorem pd_add (ha : PD X a ma) (hb : PD X b mb) : PD X (.BinOp a .Add b pos) (mBin addD ma mb) :=
  PD.op (OpR.or op_add (OpR.or op_add_str (OpR.or op_cat op_catA))) (OpS.or (ops_I0 fun _ _ _ _ => .int _) (OpS.or ops_addS (OpS.or ops_catL ops_catT))) ha hb
theorem pd_sub (ha : PD X a ma) (hb : PD X b mb) : PD X (.BinOp a .Sub b pos) (mBin subD ma mb) := PD.op op_sub (ops_I0 fun _ _ _ _ => .int _) ha hb
theorem mulOk_of {i j : Int} (h : mulOk i j = true) : CMul i j := by
  unfold mulOk at h
  rcases Bool.or_eq_true_iff.mp h with h | h
  · exact .inl (of_decide_eq_true h)
  · exact .inr (of_decide_eq_true h)
theorem pd_mul (ha : PD X a ma) (hb : PD X b mb) : PD X (.BinOp a .Mult b pos) (mBin mulD ma mb) :=
  PD.op (OpR.or op_mul op_repT) (OpS.or (ops_I (fun _ _ h => mulOk_of h) fun _ _ _ _ => .int _) ops_mulT) ha hb
theorem pd_mod (ha : PD X a ma) (hb : PD X b mb) : PD X (.BinOp a .Mod b pos) (mBin modD ma mb) := PD.op op_mod (ops_I (fun _ _ h => of_decide_eq_true h) fun _ _ _ _ => .int _) ha hb
theorem pd_fdiv (ha : PD X a ma) (hb : PD X b mb) : PD X (.BinOp a .FloorDiv b pos) (mBin fdivD ma mb) := PD.op op_fdivW (ops_I (fun _ j h => of_decide_eq_true (p := 0 < j ∧ j.natAbs.log2 < 9000) h) fun _ _ _ _ => .int _) ha hb
theorem pd_pow (ha : PD X a ma) (hb : PD X b mb) : PD X (.BinOp a .Pow b pos) (mBin powD ma mb) := PD.op op_pow (ops_I (fun i j h => of_decide_eq_true (p := 0 ≤ j ∧ j ≤ 1000000 ∧ i.natAbs < 2 ^ 64) h) fun _ _ _ _ => .int _) ha hb
def mUn (f : D → Option D) (a : ME) : ME := fun ρ δ => (a ρ δ).bind fun p => (f p.1).map fun z => (z, p.2)
def negD : D → Option D
  | .int i => some (.int (-i))
  | _ => none
theorem pd_neg (ha : PD X a ma) : PD X (.UnaryOp .USub a pos) (mUn negD ma) := by
  obtain ⟨ta, h1, s1⟩ := ha.ex
  refine ⟨_, pe_un un_neg h1, fun F σ H ρ δ d δ' G e Q q => ?_⟩
  obtain ⟨⟨x, δ1⟩, e1, e⟩ := Option.bind_eq_some_iff.mp e
  obtain ⟨z, e3, e⟩ := Option.map_eq_some_iff.mp e
  cases e
  refine s1 F σ H ρ δ x δ1 G e1 _ fun v H1 G1 M1 R1 => ?_
  cases R1 <;> first | (simp [negD] at e3; done) | skip
  simp only [negD, Option.some.injEq] at e3
  subst e3
  exact ⟨_, rfl, q _ _ G1 M1 (.int _)⟩

/-! ### comparisons -/
mutual
theorem Rep.dp {K M H} : ∀ {v d}, Rep K M H v d → d.canLay0 = true → Dp K H v d
  | _, _, .non, _ => .non
  | _, _, .bl b, _ => .bl b
  | _, _, .int i, _ => .int i
  | _, _, .str x, _ => .str x
  | _, _, .lst a r, h => .lst a.sq (Reps.dp r (by simpa [PyData.canLay0] using h))
  | _, _, .tup a r, h => .tup a.sq (Reps.dp r (by simpa [PyData.canLay0] using h))
  | _, _, .dic _ _ _, h => by simp [PyData.canLay0] at h
theorem Reps.dp {K M H} : ∀ {v d}, Reps K M H v d → PyData.canLayAll0 d = true → DpAll K H v d
  | _, _, .nil, _ => .nil
  | _, _, .cons r t, h => by
    simp only [PyData.canLayAll0, Bool.and_eq_true] at h
    exact .cons (Rep.dp r h.1) (Reps.dp t h.2)
end
def eqD (d e : D) : Option D := if SeqAt.shaped d && SeqAt.shaped e then some (.bool (PyData.eqv d e)) else none
def neD (d e : D) : Option D := if SeqAt.shaped d && SeqAt.shaped e then some (.bool (!PyData.eqv d e)) else none
theorem ops_eqD {K} : OpS K (rEqD K) eqD := fun F σ H ρ δ x y d e z G rx ry hz Q q => by
  unfold eqD at hz
  split at hz
  · rename_i h
    rw [Bool.and_eq_true] at h
    cases hz
    exact ⟨d, e, rx.dp (SeqAt.canLay_of_shaped h.1), ry.dp (SeqAt.canLay_of_shaped h.2), h.1, h.2, q _ H (fun _ _ h => h) (.bl _)⟩
  · cases hz
theorem ops_neD {K} : OpS K (rNeD K) neD := fun F σ H ρ δ x y d e z G rx ry hz Q q => by
  unfold neD at hz
  split at hz
  · rename_i h
    rw [Bool.and_eq_true] at h
    cases hz
    exact ⟨d, e, rx.dp (SeqAt.canLay_of_shaped h.1), ry.dp (SeqAt.canLay_of_shaped h.2), h.1, h.2, q _ H (fun _ _ h => h) (.bl _)⟩
  · cases hz
def strLt (i j : Str) : Bool := decide (i.cps.toList < j.cps.toList)
def ltD : D → D → Option D := fun d e => (onI (fun _ _ => true) (fun i j => .bool (decide (i < j))) d e).orElse fun _ => onS (fun _ _ => true) (fun i j => .bool (strLt i j)) d e
def leD : D → D → Option D := fun d e => (onI (fun _ _ => true) (fun i j => .bool (decide (i ≤ j))) d e).orElse fun _ => onS (fun _ _ => true) (fun i j => .bool (!strLt j i)) d e
def gtD : D → D → Option D := fun d e => (onI (fun _ _ => true) (fun i j => .bool (decide (j < i))) d e).orElse fun _ => onS (fun _ _ => true) (fun i j => .bool (strLt j i)) d e
def geD : D → D → Option D := fun d e => (onI (fun _ _ => true) (fun i j => .bool (decide (j ≤ i))) d e).orElse fun _ => onS (fun _ _ => true) (fun i j => .bool (!strLt i j)) d e

/-- a comparison's rule: the operator, its mirror -/
structure CmpS (X : Cx) (op : CmpOp) (f : D → D → Option D) : Prop where
  ex : ∃ r, OpR X (compareOp op) r ∧ OpS X.K r f
theorem cs_eq (hu : X.A.units + 64 < cLine) : CmpS X .Eq eqD := ⟨_, op_eqD hu, ops_eqD⟩
theorem cs_ne (hu : X.A.units + 64 < cLine) : CmpS X .NotEq neD := ⟨_, op_neD hu, ops_neD⟩
theorem cs_lt : CmpS X .Lt ltD := ⟨_, OpR.or op_lt op_lt_str, OpS.or (ops_I0 fun _ _ _ _ => .bl _) ops_cmpS⟩
theorem cs_le : CmpS X .LtE leD := ⟨_, OpR.or op_le op_le_str, OpS.or (ops_I0 fun _ _ _ _ => .bl _) (ops_cmpS (c := fun i j => !strLt j i))⟩
theorem cs_gt : CmpS X .Gt gtD := ⟨_, OpR.or op_gt op_gt_str, OpS.or (ops_I0 fun _ _ _ _ => .bl _) (ops_cmpS (c := fun i j => strLt j i))⟩
theorem cs_ge : CmpS X .GtE geD := ⟨_, OpR.or op_ge op_ge_str, OpS.or (ops_I0 fun _ _ _ _ => .bl _) (ops_cmpS (c := fun i j => !strLt i j))⟩

/-! in, not in: data in a list; flat things in a tuple; a text in a text -/
def flatD : D → Bool
  | .none => true | .bool _ => true | .int _ => true | .str _ => true | _ => false
def inL (neg : Bool) : D → D → Option D
  | d, .list ds => if SeqAt.shaped d && SeqAt.shaped (.list ds) then some (.bool (neg ^^ ds.any fun z => PyData.eqv z d)) else none
  | _, _ => none
theorem ops_inL {K} : OpS K (rInD K) (inL false) := fun F σ H ρ δ x y d e z G rx ry hz Q q => by
  unfold inL at hz
  split at hz
  · split at hz
    · rename_i h
      rw [Bool.and_eq_true] at h
      cases hz
      refine ⟨_, _, rx.dp (SeqAt.canLay_of_shaped h.1), ry.dp (SeqAt.canLay_of_shaped h.2), h.1, h.2, ?_⟩
      rw [Bool.false_xor] at q
      exact q _ H (fun _ _ h => h) (.bl _)
    · cases hz
  · cases hz
theorem ops_notInL {K} : OpS K (rNotInD K) (inL true) := fun F σ H ρ δ x y d e z G rx ry hz Q q => by
  unfold inL at hz
  split at hz
  · split at hz
    · rename_i h
      rw [Bool.and_eq_true] at h
      cases hz
      refine ⟨_, _, rx.dp (SeqAt.canLay_of_shaped h.1), ry.dp (SeqAt.canLay_of_shaped h.2), h.1, h.2, ?_⟩
      rw [Bool.true_xor] at q
      exact q _ H (fun _ _ h => h) (.bl _)
    · cases hz
  · cases hz
theorem Rep.flat {K M H v d} (r : Rep K M H v d) (h : flatD d = true) : flatV v = true := by cases r <;> first | rfl | simp [flatD] at h
theorem Reps.flatAll {K M H} : ∀ {vs ds}, Reps K M H vs ds → ds.all flatD = true → vs.all flatV = true
  | _, _, .nil, _ => rfl
  | _, _, .cons r t, h => by
    simp only [List.all_cons, Bool.and_eq_true] at h ⊢
    exact ⟨r.flat h.1, Reps.flatAll t h.2⟩
theorem Rep.eqv {K M H v w d e} (r : Rep K M H v d) (s : Rep K M H w e) (h : flatD d = true) (h' : flatD e = true) : eqV v w = PyData.eqv d e := by
  cases r <;> first | (simp [flatD] at h; done) | skip
  all_goals (cases s <;> first | (simp [flatD] at h'; done) | skip)
  all_goals simp [eqV, PyData.eqv]
theorem Reps.inV {K M H} {w e} (s : Rep K M H w e) (h' : flatD e = true) : ∀ {vs ds}, Reps K M H vs ds → ds.all flatD = true → L2.inV w vs = ds.any fun z => PyData.eqv z e
  | _, _, .nil, _ => rfl
  | _, _, .cons r t, h => by
    simp only [List.all_cons, Bool.and_eq_true] at h
    unfold L2.inV
    rw [List.any_cons, List.any_cons, r.eqv s h.1 h']
    congr 1
    exact Reps.inV s h' t h.2
def inT (neg : Bool) : D → D → Option D
  | d, .tuple ds => if flatD d && ds.all flatD then some (.bool (neg ^^ ds.any fun z => PyData.eqv z d)) else none
  | _, _ => none
theorem ops_inT {K neg} : OpS K (rIn K neg) (inT neg) := fun F σ H ρ δ x y d e z G rx ry hz Q q => by
  unfold inT at hz
  split at hz
  · split at hz
    · rename_i h
      rw [Bool.and_eq_true] at h
      cases hz
      cases ry with
      | @tup a vs _ ha r =>
        refine ⟨_, _, rfl, .inr ha.sq, rx.flat h.1, r.flatAll h.2, ?_⟩
        rw [r.inV rx h.1 h.2]
        cases neg with
        | true => rw [Bool.true_xor] at q; exact q _ H (fun _ _ h => h) (.bl _)
        | false => rw [Bool.false_xor] at q; exact q _ H (fun _ _ h => h) (.bl _)
    · cases hz
  · cases hz
def strIn (i j : Str) : Bool := !(Builtin.Str.occurrences j i 0 j.length 1).isEmpty
def inD (neg : Bool) : D → D → Option D := fun d e => (inL neg d e).orElse fun _ => (inT neg d e).orElse fun _ => onS (fun _ _ => true) (fun i j => .bool (neg ^^ strIn i j)) d e
theorem cs_in (hu : X.A.units + 65 < cLine) : CmpS X .In (inD false) := ⟨_, OpR.or (op_inD hu) (OpR.or op_in_seq op_in_str), OpS.or ops_inL (OpS.or ops_inT (by
  have := ops_cmpS (K := X.K) (c := fun i j => strIn i j)
  simp only [Bool.false_xor]
  exact this))⟩
theorem cs_notin (hu : X.A.units + 65 < cLine) : CmpS X .NotIn (inD true) := ⟨_, OpR.or (op_notInD hu) (OpR.or op_notIn_seq op_notin_str), OpS.or ops_notInL (OpS.or ops_inT (by
  have := ops_cmpS (K := X.K) (c := fun i j => !strIn i j)
  simp only [Bool.true_xor]
  exact this))⟩
theorem pd_cmp {op : CmpOp} {f : D → D → Option D} (c : CmpS X op f) (ha : PD X a ma) (hb : PD X b mb) (hm : behindInMarks op b = false) : PD X (.Compare a [op] [b] pos) (mBin f ma mb) := by
  obtain ⟨r, o, s⟩ := c.ex
  obtain ⟨ta, h1, s1⟩ := ha.ex
  obtain ⟨tb, h2, s2⟩ := hb.ex
  exact ⟨_, pe_cmpR o h1 h2 hm, snd_bin s s1 s2⟩
end
end PD

namespace PD
open PySem PySem.Spec PyProof.Rows L2
section
variable {X : Cx} {a b c : Expr} {ma mb mc : ME} {na nb : MT} {pos : Pos}

/-! ### a chain of two comparisons -/
def mChain (f g : D → D → Option D) (a b c : ME) : ME := fun ρ δ => (a ρ δ).bind fun p => (b ρ p.2).bind fun q => (f p.1 q.1).bind fun z => match z with
  | .bool true => (c ρ q.2).bind fun w => (g q.1 w.1).map fun y => (y, w.2)
  | .bool false => some (.bool false, q.2)
  | _ => none
theorem snd_chain {K r r' f g ta tb tc a b c} (o : OpS K r f) (o' : OpS K r' g) (ha : Snd K ta a) (hb : Snd K tb b) (hc : Snd K tc c) : Snd K (tChain r r' ta tb tc) (mChain f g a b c) := fun F σ H ρ δ d δ' G e Q q => by
  unfold mChain at e
  obtain ⟨⟨x, δ1⟩, e1, e⟩ := Option.bind_eq_some_iff.mp e
  obtain ⟨⟨y, δ2⟩, e2, e⟩ := Option.bind_eq_some_iff.mp e
  obtain ⟨z, e3, e⟩ := Option.bind_eq_some_iff.mp e
  refine ha F σ H ρ δ x δ1 G e1 _ fun v H1 G1 M1 R1 => hb F σ H1 ρ δ1 y δ2 G1 e2 _ fun u H2 G2 M2 R2 => ?_
  refine o F σ H2 ρ δ2 v u x y z G2 (R1.mv M2) R2 e3 _ fun w H3 k R3 => ?_
  have M3 : Mv (Mm F σ ρ) H (Mm F σ ρ) H3 := (M1.trans M2).trans (Mv.same k)
  split at e
  · cases R3
    refine ⟨true, rfl, iteT ?_⟩
    obtain ⟨⟨w, δ3⟩, e4, e⟩ := Option.bind_eq_some_iff.mp e
    obtain ⟨y', e5, e⟩ := Option.map_eq_some_iff.mp e
    cases e
    refine hc F σ H3 ρ δ2 w δ3 (G2.keep k) e4 _ fun t H4 G4 M4 R4 => ?_
    exact o' F σ H4 ρ δ3 u t y w _ G4 (R2.mv ((Mv.same k).trans M4)) R4 e5 _ fun w' H5 k' R5 => q _ _ (G4.keep k') ((M3.trans M4).trans (Mv.same k')) R5
  · cases R3
    cases e
    exact ⟨false, rfl, iteF (q _ _ (G2.keep k) M3 (.bl _))⟩
  · cases e
theorem pd_chain {op op' : CmpOp} {f g : D → D → Option D} (h : CmpS X op f) (h' : CmpS X op' g) (ha : PD X a ma) (hb : PD X b mb) (hc : PD X c mc) (hm : lastMarks [op, op'] [b, c] = false := by with_unfolding_all rfl) :
    PD X (.Compare a [op, op'] [b, c] pos) (mChain f g ma mb mc) := by
  obtain ⟨r, o, s⟩ := h.ex
  obtain ⟨r', o', s'⟩ := h'.ex
  obtain ⟨ta, h1, s1⟩ := ha.ex
  obtain ⟨tb, h2, s2⟩ := hb.ex
  obtain ⟨tc, h3, s3⟩ := hc.ex
  exact ⟨_, pe_chain o o' h1 h2 h3 hm, snd_chain s s' s1 s2 s3⟩

/-! ### tests -/
def truD : D → Option Bool
  | .none => some false
  | .bool b => some b
  | .int i => some (i != 0)
  | .str x => if x.length ≤ sizeLine then some ((x.length : Int) != 0) else none
  | .list ds => some !ds.isEmpty
  | .tuple ds => some !ds.isEmpty
  | .dict es => some !es.isEmpty
def mTru (m : ME) : MT := fun ρ δ => (m ρ δ).bind fun p => (truD p.1).map fun b => (b, p.2)
/-- a bool alone -/
def mB (m : ME) : MT := fun ρ δ => (m ρ δ).bind fun p => match p.1 with
  | .bool b => some (b, p.2)
  | _ => none
theorem snd_test {K t m} (h : Snd K t m) : SndT K (tTest t) (mB m) := fun F σ H ρ δ d δ' G e Q q => by
  obtain ⟨⟨x, δ1⟩, e1, e⟩ := Option.bind_eq_some_iff.mp e
  refine h F σ H ρ δ x δ1 G e1 _ fun v H1 G1 M1 R1 => ?_
  dsimp only at e
  split at e
  · cases R1; cases e
    exact ⟨_, rfl, q _ G1 M1⟩
  · cases e
theorem Reps.emp {K M H vs ds} (r : Reps K M H vs ds) : vs.isEmpty = ds.isEmpty := by cases r <;> rfl
theorem RepK.emp {K M H vs ds} (r : RepK K M H vs ds) : vs.isEmpty = ds.isEmpty := by cases r <;> rfl
theorem Rep.tru {K M H v d b} (r : Rep K M H v d) (h : truD d = some b) : TruV K v H b := by
  cases r with
  | non => cases h; rfl
  | bl b => cases h; rfl
  | int i => cases h; rfl
  | str x =>
    simp only [truD] at h
    split at h
    · cases h; exact ⟨by assumption, rfl⟩
    · cases h
  | lst a r => cases h; exact .inl ⟨_, a.sq, by rw [r.emp]⟩
  | tup a r => cases h; exact .inr (.inl ⟨_, a.sq, by rw [r.emp]⟩)
  | dic n e r => cases h; exact .inr (.inr ⟨_, e, by rw [r.emp]⟩)
theorem pdt_tru (ha : PD X a ma) (he : ∀ whole, isTrue a X.env whole = (do let v ← whole; standAt a.pos; holding [v] (truthy v)) := by intro _; rfl) : PDT X a (mTru ma) := by
  obtain ⟨ta, h1, s1⟩ := ha.ex
  refine ⟨_, pt_truth h1 he, fun F σ H ρ δ d δ' G e Q q => ?_⟩
  obtain ⟨⟨x, δ1⟩, e1, e⟩ := Option.bind_eq_some_iff.mp e
  obtain ⟨z, e3, e⟩ := Option.map_eq_some_iff.mp e
  cases e
  exact s1 F σ H ρ δ x δ1 G e1 _ fun v H1 G1 M1 R1 => ⟨_, R1.tru e3, q _ G1 M1⟩
theorem pdt_cmp {op : CmpOp} {f : D → D → Option D} (h : CmpS X op f) (ha : PD X a ma) (hb : PD X b mb) (hm : behindInMarks op b = false) : PDT X (.Compare a [op] [b] pos) (mB (mBin f ma mb)) := by
  obtain ⟨r, o, s⟩ := h.ex
  obtain ⟨ta, h1, s1⟩ := ha.ex
  obtain ⟨tb, h2, s2⟩ := hb.ex
  exact ⟨_, pt_cmpR o h1 h2 hm, snd_test (snd_bin s s1 s2)⟩
theorem pdt_chain {op op' : CmpOp} {f g : D → D → Option D} (h : CmpS X op f) (h' : CmpS X op' g) (ha : PD X a ma) (hb : PD X b mb) (hc : PD X c mc) (hm : lastMarks [op, op'] [b, c] = false := by with_unfolding_all rfl) :
    PDT X (.Compare a [op, op'] [b, c] pos) (mB (mChain f g ma mb mc)) := by
  obtain ⟨r, o, s⟩ := h.ex
  obtain ⟨r', o', s'⟩ := h'.ex
  obtain ⟨ta, h1, s1⟩ := ha.ex
  obtain ⟨tb, h2, s2⟩ := hb.ex
  obtain ⟨tc, h3, s3⟩ := hc.ex
  exact ⟨_, pt_chain o o' h1 h2 h3 hm, snd_test (snd_chain s s' s1 s2 s3)⟩
structure PDW (X : Cx) (e : Expr) (m : MT) : Prop where
  ex : ∃ t, PW X e t ∧ SndT X.K t m
theorem PDW.pt {e : Expr} {m : MT} (h : PDW X e m) : PDT X e m := by
  obtain ⟨t, h1, s1⟩ := h.ex
  exact ⟨_, h1.pt, s1⟩
def tAndM (a b : MT) : MT := fun ρ δ => (a ρ δ).bind fun p => if p.1 = true then b ρ p.2 else some (false, p.2)
def tOrM (a b : MT) : MT := fun ρ δ => (a ρ δ).bind fun p => if p.1 = true then some (true, p.2) else b ρ p.2
def tNotM (a : MT) : MT := fun ρ δ => (a ρ δ).map fun p => (!p.1, p.2)
theorem pdw_and1 (ha : PDT X a na) : PDW X (.BoolOp .And [a] pos) na := by
  obtain ⟨t, h1, s1⟩ := ha.ex
  exact ⟨_, pw_and1 h1, s1⟩
theorem pdw_or1 (ha : PDT X a na) : PDW X (.BoolOp .Or [a] pos) na := by
  obtain ⟨t, h1, s1⟩ := ha.ex
  exact ⟨_, pw_or1 h1, s1⟩
theorem pdw_and {rest : List Expr} (ha : PDT X a na) (hb : PDW X (.BoolOp .And (b :: rest) pos) nb) : PDW X (.BoolOp .And (a :: b :: rest) pos) (tAndM na nb) := by
  obtain ⟨t, h1, s1⟩ := ha.ex
  obtain ⟨u, h2, s2⟩ := hb.ex
  refine ⟨_, pw_and h1 h2, fun F σ H ρ δ d δ' G e Q q => ?_⟩
  obtain ⟨⟨x, δ1⟩, e1, e⟩ := Option.bind_eq_some_iff.mp e
  refine s1 F σ H ρ δ x δ1 G e1 _ fun H1 G1 M1 => ?_
  cases x with
  | true => exact iteT (s2 F σ H1 ρ δ1 d δ' G1 e _ fun H2 G2 M2 => q _ G2 (M1.trans M2))
  | false => cases e; exact iteF (q _ G1 M1)
theorem pdw_or {rest : List Expr} (ha : PDT X a na) (hb : PDW X (.BoolOp .Or (b :: rest) pos) nb) : PDW X (.BoolOp .Or (a :: b :: rest) pos) (tOrM na nb) := by
  obtain ⟨t, h1, s1⟩ := ha.ex
  obtain ⟨u, h2, s2⟩ := hb.ex
  refine ⟨_, pw_or h1 h2, fun F σ H ρ δ d δ' G e Q q => ?_⟩
  obtain ⟨⟨x, δ1⟩, e1, e⟩ := Option.bind_eq_some_iff.mp e
  refine s1 F σ H ρ δ x δ1 G e1 _ fun H1 G1 M1 => ?_
  cases x with
  | false => exact iteF (s2 F σ H1 ρ δ1 d δ' G1 e _ fun H2 G2 M2 => q _ G2 (M1.trans M2))
  | true => cases e; exact iteT (q _ G1 M1)
theorem pdt_not (ha : PDT X a na) : PDT X (.UnaryOp .Not a pos) (tNotM na) := by
  obtain ⟨t, h1, s1⟩ := ha.ex
  refine ⟨_, pt_not h1, fun F σ H ρ δ d δ' G e Q q => ?_⟩
  obtain ⟨⟨x, δ1⟩, e1, e⟩ := Option.map_eq_some_iff.mp e
  cases e
  exact s1 F σ H ρ δ x δ1 G e1 _ fun H1 G1 M1 => q _ G1 M1

/-! values of and, or, not; a if t else b -/
def mAnd (a b : ME) : ME := fun ρ δ => (a ρ δ).bind fun p => match p.1 with
  | .bool true => b ρ p.2
  | .bool false => some (.bool false, p.2)
  | _ => none
def mOr (a b : ME) : ME := fun ρ δ => (a ρ δ).bind fun p => match p.1 with
  | .bool true => some (.bool true, p.2)
  | .bool false => b ρ p.2
  | _ => none
def notD : D → Option D
  | .bool b => some (.bool !b)
  | _ => none
theorem pd_one {op} (h : PD X a ma) : PD X (.BoolOp op [a] pos) ma := by
  obtain ⟨t, h1, s1⟩ := h.ex
  exact ⟨_, pe_one h1, s1⟩
theorem pd_and {rest : List Expr} (ha : PD X a ma) (hb : PD X (.BoolOp .And (b :: rest) pos) mb) : PD X (.BoolOp .And (a :: b :: rest) pos) (mAnd ma mb) := by
  obtain ⟨t, h1, s1⟩ := ha.ex
  obtain ⟨u, h2, s2⟩ := hb.ex
  refine ⟨_, pe_and h1 h2, fun F σ H ρ δ d δ' G e Q q => ?_⟩
  obtain ⟨⟨x, δ1⟩, e1, e⟩ := Option.bind_eq_some_iff.mp e
  refine s1 F σ H ρ δ x δ1 G e1 _ fun v H1 G1 M1 R1 => ?_
  dsimp only at e
  split at e
  · cases R1; exact ⟨_, rfl, iteT (s2 F σ H1 ρ δ1 d δ' G1 e _ fun v H2 G2 M2 R2 => q _ _ G2 (M1.trans M2) R2)⟩
  · cases R1; cases e; exact ⟨_, rfl, iteF (q _ _ G1 M1 (.bl _))⟩
  · cases e
theorem pd_or {rest : List Expr} (ha : PD X a ma) (hb : PD X (.BoolOp .Or (b :: rest) pos) mb) : PD X (.BoolOp .Or (a :: b :: rest) pos) (mOr ma mb) := by
  obtain ⟨t, h1, s1⟩ := ha.ex
  obtain ⟨u, h2, s2⟩ := hb.ex
  refine ⟨_, pe_or h1 h2, fun F σ H ρ δ d δ' G e Q q => ?_⟩
  obtain ⟨⟨x, δ1⟩, e1, e⟩ := Option.bind_eq_some_iff.mp e
  refine s1 F σ H ρ δ x δ1 G e1 _ fun v H1 G1 M1 R1 => ?_
  dsimp only at e
  split at e
  · cases R1; cases e; exact ⟨_, rfl, iteT (q _ _ G1 M1 (.bl _))⟩
  · cases R1; exact ⟨_, rfl, iteF (s2 F σ H1 ρ δ1 d δ' G1 e _ fun v H2 G2 M2 R2 => q _ _ G2 (M1.trans M2) R2)⟩
  · cases e
theorem pd_not (ha : PD X a ma) : PD X (.UnaryOp .Not a pos) (mUn notD ma) := by
  obtain ⟨ta, h1, s1⟩ := ha.ex
  refine ⟨_, pe_not h1, fun F σ H ρ δ d δ' G e Q q => ?_⟩
  obtain ⟨⟨x, δ1⟩, e1, e⟩ := Option.bind_eq_some_iff.mp e
  obtain ⟨z, e3, e⟩ := Option.map_eq_some_iff.mp e
  cases e
  refine s1 F σ H ρ δ x δ1 G e1 _ fun v H1 G1 M1 R1 => ?_
  cases R1 <;> first | (simp [notD] at e3; done) | skip
  simp only [notD, Option.some.injEq] at e3
  subst e3
  exact ⟨_, rfl, q _ _ G1 M1 (.bl _)⟩
def mIf (t : MT) (a b : ME) : ME := fun ρ δ => (t ρ δ).bind fun p => if p.1 = true then a ρ p.2 else b ρ p.2
theorem pd_ifExp (hc : PDT X c na) (ha : PD X a ma) (hb : PD X b mb) : PD X (.IfExp c a b pos) (mIf na ma mb) := by
  obtain ⟨t, h0, s0⟩ := hc.ex
  obtain ⟨ta, h1, s1⟩ := ha.ex
  obtain ⟨tb, h2, s2⟩ := hb.ex
  refine ⟨_, pe_ifExp h0 h1 h2, fun F σ H ρ δ d δ' G e Q q => ?_⟩
  obtain ⟨⟨x, δ1⟩, e1, e⟩ := Option.bind_eq_some_iff.mp e
  refine s0 F σ H ρ δ x δ1 G e1 _ fun H1 G1 M1 => ?_
  cases x with
  | true => exact iteT (s1 F σ H1 ρ δ1 d δ' G1 e _ fun v H2 G2 M2 R2 => q _ _ G2 (M1.trans M2) R2)
  | false => exact iteF (s2 F σ H1 ρ δ1 d δ' G1 e _ fun v H2 G2 M2 R2 => q _ _ G2 (M1.trans M2) R2)

/-! ### arguments, displays -/
def mNil : MA := fun _ δ => some ([], δ)
def mCons (a : ME) (r : MA) : MA := fun ρ δ => (a ρ δ).bind fun p => (r ρ p.2).map fun q => (p.1 :: q.1, q.2)
theorem snd_nil {K} : SndA K tNil mNil := fun F σ H ρ δ d δ' G e Q q => by
  cases e
  exact q _ _ G (Mv.refl _ _) .nil
theorem snd_cons {K t u m r} (h : Snd K t m) (g : SndA K u r) : SndA K (tCons t u) (mCons m r) := fun F σ H ρ δ d δ' G e Q q => by
  obtain ⟨⟨x, δ1⟩, e1, e⟩ := Option.bind_eq_some_iff.mp e
  obtain ⟨⟨y, δ2⟩, e2, e⟩ := Option.map_eq_some_iff.mp e
  cases e
  exact h F σ H ρ δ x δ1 G e1 _ fun v H1 G1 M1 R1 => g F σ H1 ρ δ1 y _ G1 e2 _ fun vs H2 G2 M2 R2 => q _ _ G2 (M1.trans M2) (.cons (R1.mv M2) R2)
theorem pda_nil : PDA X [] mNil := ⟨_, pa_nil, snd_nil⟩
theorem pda_cons {e : Expr} {es : List Expr} {m : ME} {r : MA} (h : PD X e m) (g : PDA X es r) (hs : starEach (e :: es) X.env = (false, eval e X.env) :: starEach es X.env := by rfl) : PDA X (e :: es) (mCons m r) := by
  obtain ⟨t, h1, s1⟩ := h.ex
  obtain ⟨u, h2, s2⟩ := g.ex
  exact ⟨_, pa_cons h1 h2 hs, snd_cons s1 s2⟩
def mTup (r : MA) : ME := fun ρ δ => (r ρ δ).bind fun p => if p.1.length ≤ sizeLine then some (.tuple p.1, p.2) else none
def mLst (r : MA) : ME := fun ρ δ => (r ρ δ).bind fun p => if p.1.length ≤ sizeLine then some (.list p.1, p.2) else none
theorem pd_tup {es : List Expr} {r : MA} {k} (h : PDA X es r) : PD X (.Tuple es k pos) (mTup r) := by
  obtain ⟨t, h1, s1⟩ := h.ex
  refine ⟨_, pe_tup h1, fun F σ H ρ δ d δ' G e Q q => ?_⟩
  obtain ⟨⟨x, δ1⟩, e1, e⟩ := Option.bind_eq_some_iff.mp e
  dsimp only at e
  split at e
  · rename_i hl
    cases e
    refine s1 F σ H ρ δ x _ G e1 _ fun vs H1 G1 M1 R1 => ⟨by rw [R1.length]; exact hl, fun p hp => ?_⟩
    have k := upd_keeps (o := .tup vs) hp
    exact q _ _ (G1.keep k) (M1.trans (Mv.same k)) (.tup (.inl ⟨G1.mfree hp, .inl upd_same⟩) (R1.mv (Mv.same k)))
  · cases e
theorem pd_lst {es : List Expr} {r : MA} (h : PDA X es r) : PD X (.List es pos) (mLst r) := by
  obtain ⟨t, h1, s1⟩ := h.ex
  refine ⟨_, pe_lst h1, fun F σ H ρ δ d δ' G e Q q => ?_⟩
  obtain ⟨⟨x, δ1⟩, e1, e⟩ := Option.bind_eq_some_iff.mp e
  dsimp only at e
  split at e
  · rename_i hl
    cases e
    refine s1 F σ H ρ δ x _ G e1 _ fun vs H1 G1 M1 R1 => ⟨by rw [R1.length]; exact hl, fun p hp => ?_⟩
    have k := upd_keeps (o := .lst vs) hp
    exact q _ _ (G1.keep k) (M1.trans (Mv.same k)) (.lst ⟨G1.mfree hp, upd_same⟩ (R1.mv (Mv.same k)))
  · cases e

/-! ### subscripts -/
def ixD : D → D → Option D
  | .list ds, .int i => atI ds i
  | .tuple ds, .int i => atI ds i
  | .str x, .int i => if x.length ≤ sizeLine then (atI x.cps.toList i).map fun c => .str ⟨#[c]⟩ else none
  | _, _ => none
theorem Reps.atI {K M H vs ds i d} (r : Reps K M H vs ds) (h : L2.atI ds i = some d) : ∃ v, L2.atI vs i = some v ∧ Rep K M H v d := by
  unfold L2.atI at h ⊢
  obtain ⟨j, e1, e2⟩ := Option.bind_eq_some_iff.mp h
  rw [r.length, e1]
  exact r.get' e2
theorem ops_ix {K} : OpS K (rIx K) ixD := fun F σ H ρ δ x y d e z G rx ry hz Q q => by
  cases rx with
  | lst a r =>
    cases ry <;> first | (simp [ixD] at hz; done) | skip
    obtain ⟨v, e1, r1⟩ := r.atI hz
    exact .inl ⟨_, _, _, v, rfl, rfl, a.sq, e1, q _ _ (fun _ _ h => h) r1⟩
  | tup a r =>
    cases ry <;> first | (simp [ixD] at hz; done) | skip
    obtain ⟨v, e1, r1⟩ := r.atI hz
    exact .inr (.inl ⟨_, _, _, v, rfl, rfl, a.sq, e1, q _ _ (fun _ _ h => h) r1⟩)
  | str x =>
    cases ry <;> first | (simp [ixD] at hz; done) | skip
    simp only [ixD] at hz
    split at hz
    · rename_i hl
      obtain ⟨c, e1, e2⟩ := Option.map_eq_some_iff.mp hz
      subst e2
      exact .inr (.inr ⟨_, _, c, rfl, rfl, hl, e1, q _ _ (fun _ _ h => h) (.str _)⟩)
    · cases hz
  | _ => simp [ixD] at hz
def lookD : List (D × D) → D → Option D
  | [], _ => none
  | (.int i, v) :: r, .int j => if i = j then some v else lookD r (.int j)
  | (.str i, v) :: r, .str j => if i = j then some v else lookD r (.str j)
  | _ :: r, k => lookD r k
def dgetD : D → D → Option D
  | .dict es, k => lookD es k
  | _, _ => none
theorem valV_cons {κ : Type} [DecidableEq κ] {k j : κ} {v : V} {r : List (κ × V)} : valV ((k, v) :: r) j = if k = j then some v else valV r j := by
  unfold valV
  rw [List.find?_cons]
  by_cases h : k = j
  · simp [h]
  · simp [h]
theorem RepK.look {K M H} : ∀ {kvs es} {k : Key} {z}, RepK K M H kvs es → lookD es (keyD k) = some z → ∃ v, valV kvs k = some v ∧ Rep K M H v z
  | _, _, _, _, .nil, h => by simp [lookD] at h
  | _, _, k, z, .cons (k := k') r t, h => by
    rw [valV_cons]
    cases k' with
    | inl i =>
      cases k with
      | inl j =>
        simp only [keyD, lookD] at h
        by_cases hj : i = j
        · subst hj; rw [if_pos rfl] at h; cases h; exact ⟨_, if_pos rfl, r⟩
        · rw [if_neg hj] at h
          obtain ⟨v, e, r'⟩ := RepK.look (k := .inl j) t h
          exact ⟨v, by rw [if_neg (fun q => hj (Sum.inl.inj q))]; exact e, r'⟩
      | inr j =>
        simp only [keyD, lookD] at h
        obtain ⟨v, e, r'⟩ := RepK.look (k := .inr j) t h
        exact ⟨v, by rw [if_neg (fun q => nomatch q)]; exact e, r'⟩
    | inr i =>
      cases k with
      | inr j =>
        simp only [keyD, lookD] at h
        by_cases hj : i = j
        · subst hj; rw [if_pos rfl] at h; cases h; exact ⟨_, if_pos rfl, r⟩
        · rw [if_neg hj] at h
          obtain ⟨v, e, r'⟩ := RepK.look (k := .inr j) t h
          exact ⟨v, by rw [if_neg (fun q => hj (Sum.inr.inj q))]; exact e, r'⟩
      | inl j =>
        simp only [keyD, lookD] at h
        obtain ⟨v, e, r'⟩ := RepK.look (k := .inl j) t h
        exact ⟨v, by rw [if_neg (fun q => nomatch q)]; exact e, r'⟩
def keyOf : D → Option Key
  | .int i => some (.inl i)
  | .str x => some (.inr x)
  | _ => none
theorem lookD_key : ∀ {es : List (D × D)} {k z : D}, lookD es k = some z → (∀ p ∈ es, ∃ j, p.1 = keyD j) → ∃ j, k = keyD j
  | [], _, _, h, _ => by simp [lookD] at h
  | (e, v) :: r, k, z, h, ha => by
    obtain ⟨j, hj⟩ := ha (e, v) (.head _)
    cases k with
    | int i => exact ⟨.inl i, rfl⟩
    | str i => exact ⟨.inr i, rfl⟩
    | _ =>
      dsimp only at hj
      subst hj
      cases j <;> (simp only [keyD, lookD] at h; exact lookD_key h fun p hp => ha p (.tail _ hp))
theorem RepK.keys {K M H} : ∀ {kvs es}, RepK K M H kvs es → ∀ p ∈ es, ∃ j, p.1 = keyD j
  | _, _, .nil, _, h => by simp at h
  | _, _, .cons (k := k) r t, p, h => by
    rcases List.mem_cons.mp h with h | h
    · subst h; exact ⟨k, rfl⟩
    · exact RepK.keys t p h
theorem kV_rep {K M H v} {k : Key} (r : Rep K M H v (keyD k)) : v = kV k := by cases k <;> (cases r; rfl)
theorem keyOf_rep {K M H v d k} (r : Rep K M H v d) (h : keyOf d = some k) : v = kV k := by
  cases d <;> simp only [keyOf, Option.some.injEq, reduceCtorEq] at h <;> (subst h; cases r; rfl)
def subD' : D → D → Option D := fun d e => (ixD d e).orElse fun _ => dgetD d e
theorem pd_ix (hu : X.A.units + 1 < cLine) (ha : PD X a ma) (hb : PD X b mb) (hs : PlainIx b := by exact fun _ _ => rfl) : PD X (.Subscript a b pos) (mBin subD' ma mb) := by
  obtain ⟨ta, h1, s1⟩ := ha.ex
  obtain ⟨tb, h2, s2⟩ := hb.ex
  have p1 := pe_ix (pos := pos) ix_seq h1 h2 hs
  have p2 := pe_dget (pos := pos) hu h1 h2 hs
  refine ⟨fun σ H Q => tOp (rIx X.K) ta tb σ H Q ∨ tDGet ta tb σ H Q, ⟨fun pins s σ H Q I q => q.elim (fun q => p1.run pins s σ H Q I q) (fun q => p2.run pins s σ H Q I q)⟩, fun F σ H ρ δ d δ' G e Q q => ?_⟩
  unfold mBin at e
  obtain ⟨⟨x, δ1⟩, e1, e⟩ := Option.bind_eq_some_iff.mp e
  obtain ⟨⟨y, δ2⟩, e2, e⟩ := Option.bind_eq_some_iff.mp e
  obtain ⟨z, e3, e⟩ := Option.map_eq_some_iff.mp e
  cases e
  unfold subD' at e3
  cases hx : ixD x y with
  | some w =>
    left
    rw [hx] at e3; cases e3
    exact snd_bin ops_ix s1 s2 F σ H ρ δ _ _ G (by unfold mBin; rw [e1]; simp only [Option.bind_some]; rw [e2]; simp only [Option.bind_some]; rw [hx]; rfl) Q q
  | none =>
    right
    rw [hx] at e3
    refine s1 F σ H ρ δ x δ1 G e1 _ fun v H1 G1 M1 R1 => s2 F σ H1 ρ δ1 y _ G1 e2 _ fun u H2 G2 M2 R2 => ?_
    have R1' := R1.mv M2
    replace e3 : dgetD x y = some d := e3
    unfold dgetD at e3
    split at e3
    · cases R1' with
      | dic n he r =>
        obtain ⟨j, hj⟩ := lookD_key e3 r.keys
        subst hj
        obtain ⟨v', e4, r4⟩ := r.look e3
        have := kV_rep R2
        subst this
        refine ⟨_, v', rfl, ?_, q _ _ G2 (M1.trans M2) r4⟩
        rw [← e4]
        exact DGet.k he
    · cases e3

/-! ### slices -/
def cutD (ds : List D) (lo hi : Option Int) : List D := (ds.drop (HT.sIx ds.length 0 lo)).take (HT.sIx ds.length ds.length hi - HT.sIx ds.length 0 lo)
def slD (lo hi : Option Int) : D → Option D
  | .list ds => some (.list (cutD ds lo hi))
  | .tuple ds => some (.tuple (cutD ds lo hi))
  | .str x => if x.length ≤ sizeLine then some (.str (cutS x lo hi)) else none
  | _ => none
theorem Reps.cut {K M H vs ds lo hi} (r : Reps K M H vs ds) : Reps K M H (cutV vs lo hi) (cutD ds lo hi) := by
  unfold cutV cutD
  rw [r.length]
  exact (r.drop _).take _
theorem Reps.whole {K M H vs ds lo hi} (r : Reps K M H vs ds) (h : HT.sIx vs.length 0 lo = 0 ∧ HT.sIx vs.length vs.length hi = vs.length) : Reps K M H vs (cutD ds lo hi) := by
  unfold cutD
  rw [r.length] at h
  rw [h.1, h.2, List.drop_zero, Nat.sub_zero, List.take_length]
  exact r
abbrev MO := List Sl → Dk → Option (Option Int × Dk)
structure PDO (X : Cx) (e : Option Expr) (m : MO) : Prop where
  ex : ∃ t, PO X e t ∧ ∀ F σ H ρ δ d δ', Good X.K F σ H ρ δ → m ρ δ = some (d, δ') → ∀ Q : Option Int → Hp → Prop, (∀ H', Good X.K F σ H' ρ δ' → Mv (Mm F σ ρ) H (Mm F σ ρ) H' → Q d H') → t σ H Q
def oNo : MO := fun _ δ => some (none, δ)
def oSome (m : ME) : MO := fun ρ δ => (m ρ δ).bind fun p => match p.1 with
  | .int i => some (some i, p.2)
  | _ => none
theorem pdo_no : PDO X none oNo := ⟨_, po_none, fun F σ H ρ δ d δ' G e Q q => by cases e; exact q _ G (Mv.refl _ _)⟩
theorem pdo_some (h : PD X a ma) : PDO X (some a) (oSome ma) := by
  obtain ⟨t, h1, s1⟩ := h.ex
  refine ⟨_, po_some h1, fun F σ H ρ δ d δ' G e Q q => ?_⟩
  obtain ⟨⟨x, δ1⟩, e1, e⟩ := Option.bind_eq_some_iff.mp e
  refine s1 F σ H ρ δ x δ1 G e1 _ fun v H1 G1 M1 R1 => ?_
  dsimp only at e
  split at e
  · cases R1; cases e; exact ⟨_, rfl, q _ G1 M1⟩
  · cases e
def mSl (a : ME) (lo hi : MO) : ME := fun ρ δ => (a ρ δ).bind fun p => (lo ρ p.2).bind fun l => (hi ρ l.2).bind fun h => (slD l.1 h.1 p.1).map fun z => (z, h.2)
theorem pd_sl {lo hi : Option Expr} {ml mh : MO} {p2 : Pos} (ha : PD X a ma) (hl : PDO X lo ml) (hh : PDO X hi mh) : PD X (.Subscript a (.Slice lo hi none p2) pos) (mSl ma ml mh) := by
  obtain ⟨t, h1, s1⟩ := ha.ex
  obtain ⟨tl, h2, s2⟩ := hl.ex
  obtain ⟨th, h3, s3⟩ := hh.ex
  refine ⟨_, pe_slice (sl_list.or (sl_tupA.or sl_str)) h1 h2 h3, fun F σ H ρ δ d δ' G e Q q => ?_⟩
  obtain ⟨⟨x, δ1⟩, e1, e⟩ := Option.bind_eq_some_iff.mp e
  obtain ⟨⟨l, δ2⟩, e2, e⟩ := Option.bind_eq_some_iff.mp e
  obtain ⟨⟨u, δ3⟩, e3, e⟩ := Option.bind_eq_some_iff.mp e
  obtain ⟨z, e4, e⟩ := Option.map_eq_some_iff.mp e
  cases e
  refine s1 F σ H ρ δ x δ1 G e1 _ fun v H1 G1 M1 R1 => s2 F σ H1 ρ δ1 l δ2 G1 e2 _ fun H2 G2 M2 => s3 F σ H2 ρ δ2 u _ G2 e3 _ fun H3 G3 M3 => ?_
  have R := (R1.mv M2).mv M3
  have MM := (M1.trans M2).trans M3
  cases R with
  | @lst a vs _ ha r =>
    cases e4
    refine .inl ⟨_, _, rfl, ha.sq, fun p hp => ?_⟩
    have k := upd_keeps (o := .lst (cutV vs l u)) hp
    exact q _ _ (G3.keep k) (MM.trans (Mv.same k)) (.lst ⟨G3.mfree hp, upd_same⟩ (r.cut.mv (Mv.same k)))
  | @tup a vs _ ha r =>
    cases e4
    refine .inr (.inl ⟨_, _, rfl, ha.sq, fun hw => q _ _ G3 MM (.tup ha (r.whole hw)), fun _ p hp => ?_⟩)
    have k := upd_keeps (o := .tup (cutV vs l u)) hp
    exact q _ _ (G3.keep k) (MM.trans (Mv.same k)) (.tup (.inl ⟨G3.mfree hp, .inl upd_same⟩) (r.cut.mv (Mv.same k)))
  | str x =>
    simp only [slD] at e4
    split at e4
    · rename_i hl
      cases e4
      exact .inr (.inr ⟨_, rfl, hl, q _ _ G3 MM (.str _)⟩)
    · cases e4
  | _ => simp [slD] at e4
end
end PD

namespace PD
open PySem PySem.Spec PyProof.Rows L2
/-! ### built-ins by values -/
def CallS (K : PySem.W.Frag) (r : List V → Hp → VK → Prop) (f : List D → Option D) : Prop := ∀ F σ H ρ δ xs ds z, Good K F σ H ρ δ → Reps K (Mm F σ ρ) H xs ds → f ds = some z → ∀ Q : VK,
  (∀ v H', (∀ a o, H a = some o → H' a = some o) → Rep K (Mm F σ ρ) H' v z → Q v H') → r xs H Q
def mCall (f : List D → Option D) (r : MA) : ME := fun ρ δ => (r ρ δ).bind fun p => (f p.1).map fun z => (z, p.2)
theorem snd_cb {K r f t m} (h : CallS K r f) (ha : SndA K t m) : Snd K (tCB r t) (mCall f m) := fun F σ H ρ δ d δ' G e Q q => by
  obtain ⟨⟨x, δ1⟩, e1, e⟩ := Option.bind_eq_some_iff.mp e
  obtain ⟨z, e3, e⟩ := Option.map_eq_some_iff.mp e
  cases e
  exact ha F σ H ρ δ x _ G e1 _ fun vs H1 G1 M1 R1 => h F σ H1 ρ _ vs x _ G1 R1 e3 Q fun v H2 k R2 => q v H2 (G1.keep k) (M1.trans (Mv.same k)) R2
theorem nokeep {H : Hp} : ∀ a o, H a = some o → H a = some o := fun _ _ h => h
section
variable {X : Cx} {a b c e : Expr} {es : List Expr} {ma mb mc : ME} {r : MA} {p pos : Pos}
theorem pd_cb {x : Str} {id : String} {rr : List V → Hp → VK → Prop} {f : List D → Option D} (hv : bootBuiltins x = some (.builtin id)) (hc : CallR X (.builtin id) rr) (hs : CallS X.K rr f) (ha : PDA X (e :: es) r) (hg : Gl X x) (hm : X.mg x = none) (hn : x ≠ "__name__") (hdb : (x == ("__debug__" : Str)) = false)
    (he : starEach (e :: es) X.env = (false, eval e X.env) :: starEach es X.env) (hpl : (backTo pos (starEach es X.env)).any (·.1) = false) : PD X (.Call (.Name x p) (e :: es) [] pos) (mCall f r) := by
  obtain ⟨t, h1, s1⟩ := ha.ex
  exact ⟨_, pe_callB hc hg hm hv h1 hn hdb he hpl, snd_cb hs s1⟩
theorem pd_ct {x : Str} {T : String} {rr : List V → Hp → VK → Prop} {f : List D → Option D} (hv : bootBuiltins x = some (.type T)) (hc : CallR X (.type T) rr) (hs : CallS X.K rr f) (ha : PDA X (e :: es) r) (hg : Gl X x) (hm : X.mg x = none) (hn : x ≠ "__name__") (hdb : (x == ("__debug__" : Str)) = false)
    (he : starEach (e :: es) X.env = (false, eval e X.env) :: starEach es X.env) (hpl : (backTo pos (starEach es X.env)).any (·.1) = false) : PD X (.Call (.Name x p) (e :: es) [] pos) (mCall f r) := by
  obtain ⟨t, h1, s1⟩ := ha.ex
  exact ⟨_, pe_callTy hc hg hm hv h1 hn hdb he hpl, snd_cb hs s1⟩

def lenD : List D → Option D
  | [.list ds] => some (.int ds.length)
  | [.tuple ds] => some (.int ds.length)
  | [.str x] => if x.length ≤ sizeLine then some (.int x.length) else none
  | _ => none
theorem reps1 {K M H vs d} (r : Reps K M H vs [d]) : ∃ v, vs = [v] ∧ Rep K M H v d := by
  cases r with | cons r t => cases t; exact ⟨_, rfl, r⟩
theorem reps2 {K M H vs d e} (r : Reps K M H vs [d, e]) : ∃ v w, vs = [v, w] ∧ Rep K M H v d ∧ Rep K M H w e := by
  cases r with | cons r t => cases t with | cons r' t => cases t; exact ⟨_, _, rfl, r, r'⟩
theorem cs_len {K} : CallS K (fun xs H Q => ∃ x n, xs = [x] ∧ LenV K x H n ∧ Q (.int n) H) lenD := fun F σ H ρ δ xs ds z G R hz Q q => by
  unfold lenD at hz
  split at hz
  · cases hz
    obtain ⟨v, rfl, r⟩ := reps1 R
    cases r with
    | lst a r => exact ⟨_, _, rfl, .inl ⟨_, a.sq, rfl⟩, by rw [r.length]; exact q _ _ nokeep (.int _)⟩
  · cases hz
    obtain ⟨v, rfl, r⟩ := reps1 R
    cases r with
    | tup a r => exact ⟨_, _, rfl, .inr ⟨_, a.sq, rfl⟩, by rw [r.length]; exact q _ _ nokeep (.int _)⟩
  · split at hz
    · rename_i hl
      cases hz
      obtain ⟨v, rfl, r⟩ := reps1 R
      cases r
      exact ⟨_, _, rfl, ⟨hl, rfl⟩, q _ _ nokeep (.int _)⟩
    · cases hz
  · cases hz
def absD : List D → Option D
  | [.int i] => some (.int (if i < 0 then -i else i))
  | _ => none
theorem cs_abs {K} : CallS K (fun xs H Q => ∃ i, xs = [.int i] ∧ Q (.int (if i < 0 then -i else i)) H) absD := fun F σ H ρ δ xs ds z G R hz Q q => by
  unfold absD at hz
  split at hz
  · cases hz
    obtain ⟨v, rfl, r⟩ := reps1 R
    cases r
    exact ⟨_, rfl, q _ _ nokeep (.int _)⟩
  · cases hz
def maxD : List D → Option D
  | [.int i, .int j] => some (.int (if j > i then j else i))
  | _ => none
def minD : List D → Option D
  | [.int i, .int j] => some (.int (if j < i then j else i))
  | _ => none
theorem cs_max {K} : CallS K (fun xs H Q => ∃ i j, xs = [.int i, .int j] ∧ Q (.int (if j > i then j else i)) H) maxD := fun F σ H ρ δ xs ds z G R hz Q q => by
  unfold maxD at hz
  split at hz
  · cases hz
    obtain ⟨v, w, rfl, r, r'⟩ := reps2 R
    cases r; cases r'
    exact ⟨_, _, rfl, q _ _ nokeep (.int _)⟩
  · cases hz
theorem cs_min {K} : CallS K (fun xs H Q => ∃ i j, xs = [.int i, .int j] ∧ Q (.int (if j < i then j else i)) H) minD := fun F σ H ρ δ xs ds z G R hz Q q => by
  unfold minD at hz
  split at hz
  · cases hz
    obtain ⟨v, w, rfl, r, r'⟩ := reps2 R
    cases r; cases r'
    exact ⟨_, _, rfl, q _ _ nokeep (.int _)⟩
  · cases hz
def intD : List D → Option D
  | [.int i] => some (.int i)
  | [.bool k] => some (.int (if k then 1 else 0))
  | _ => none
theorem cs_int {K} : CallS K (fun xs H Q => (∃ i, xs = [.int i] ∧ Q (.int i) H) ∨ ∃ k, xs = [.bl k] ∧ Q (.int (if k then 1 else 0)) H) intD := fun F σ H ρ δ xs ds z G R hz Q q => by
  unfold intD at hz
  split at hz
  · cases hz
    obtain ⟨v, rfl, r⟩ := reps1 R
    cases r
    exact .inl ⟨_, rfl, q _ _ nokeep (.int _)⟩
  · cases hz
    obtain ⟨v, rfl, r⟩ := reps1 R
    cases r
    exact .inr ⟨_, rfl, q _ _ nokeep (.int _)⟩
  · cases hz
def listD : List D → Option D
  | [.list ds] => some (.list ds)
  | [.tuple ds] => some (.list ds)
  | _ => none
theorem cs_list {K} : CallS K (fun xs H Q => ∃ p ys, xs = [.ref p] ∧ (SqL K H p ys ∨ SqT K H p ys) ∧ ∀ l, H l = none → Q (.ref l) (upd H l (.lst ys))) listD := fun F σ H ρ δ xs ds z G R hz Q q => by
  unfold listD at hz
  split at hz
  · cases hz
    obtain ⟨v, rfl, r⟩ := reps1 R
    cases r with
    | @lst a vs _ ha r =>
      refine ⟨_, _, rfl, .inl ha.sq, fun p hp => ?_⟩
      have k := upd_keeps (o := .lst vs) hp
      exact q _ _ k (.lst ⟨G.mfree hp, upd_same⟩ (r.mv (Mv.same k)))
  · cases hz
    obtain ⟨v, rfl, r⟩ := reps1 R
    cases r with
    | @tup a vs _ ha r =>
      refine ⟨_, _, rfl, .inr ha.sq, fun p hp => ?_⟩
      have k := upd_keeps (o := .lst vs) hp
      exact q _ _ k (.lst ⟨G.mfree hp, upd_same⟩ (r.mv (Mv.same k)))
  · cases hz
def tupD : List D → Option D
  | [.list ds] => some (.tuple ds)
  | [.tuple ds] => some (.tuple ds)
  | _ => none
theorem cs_tup {K} : CallS K (fun xs H Q => ∃ p ys, xs = [.ref p] ∧ ((SqL K H p ys ∧ ∀ l, H l = none → Q (.ref l) (upd H l (.tup ys))) ∨ (SqT K H p ys ∧ Q (.ref p) H))) tupD := fun F σ H ρ δ xs ds z G R hz Q q => by
  unfold tupD at hz
  split at hz
  · cases hz
    obtain ⟨v, rfl, r⟩ := reps1 R
    cases r with
    | @lst a vs _ ha r =>
      refine ⟨_, _, rfl, .inl ⟨ha.sq, fun p hp => ?_⟩⟩
      have k := upd_keeps (o := .tup vs) hp
      exact q _ _ k (.tup (.inl ⟨G.mfree hp, .inl upd_same⟩) (r.mv (Mv.same k)))
  · cases hz
    obtain ⟨v, rfl, r⟩ := reps1 R
    cases r with
    | tup ha r => exact ⟨_, _, rfl, .inr ⟨ha.sq, q _ _ nokeep (.tup ha r)⟩⟩
  · cases hz
def boolsD : List D → Option (List Bool)
  | [] => some []
  | .bool b :: r => (boolsD r).map fun bs => b :: bs
  | _ :: _ => none
theorem Reps.bools {K M H} : ∀ {vs ds bs}, Reps K M H vs ds → boolsD ds = some bs → vs = bs.map V.bl
  | _, _, _, .nil, h => by cases h; rfl
  | _, _, _, .cons r t, h => by
    cases r <;> first | (simp [boolsD] at h; done) | skip
    simp only [boolsD] at h
    obtain ⟨bs, e1, e2⟩ := Option.map_eq_some_iff.mp h
    subst e2
    rw [Reps.bools t e1]; rfl
def anyD : List D → Option D
  | [.list ds] => (boolsD ds).map fun bs => .bool (bs.any id)
  | _ => none
def allD : List D → Option D
  | [.list ds] => (boolsD ds).map fun bs => .bool (bs.all id)
  | _ => none
theorem cs_any {K} : CallS K (rAny K) anyD := fun F σ H ρ δ xs ds z G R hz Q q => by
  unfold anyD at hz
  split at hz
  · obtain ⟨bs, e1, e2⟩ := Option.map_eq_some_iff.mp hz
    subst e2
    obtain ⟨v, rfl, r⟩ := reps1 R
    cases r with
    | lst ha r => exact ⟨_, bs, rfl, by rw [← r.bools e1]; exact ha.sq, q _ _ nokeep (.bl _)⟩
  · cases hz
theorem cs_all {K} : CallS K (rAll K) allD := fun F σ H ρ δ xs ds z G R hz Q q => by
  unfold allD at hz
  split at hz
  · obtain ⟨bs, e1, e2⟩ := Option.map_eq_some_iff.mp hz
    subst e2
    obtain ⟨v, rfl, r⟩ := reps1 R
    cases r with
    | lst ha r => exact ⟨_, bs, rfl, by rw [← r.bools e1]; exact ha.sq, q _ _ nokeep (.bl _)⟩
  · cases hz
def divmodD : List D → Option D
  | [.int i, .int j] => if 0 < j ∧ j < 1073741824 then some (.tuple [.int (i / j), .int (i % j)]) else none
  | _ => none
theorem cs_divmod {K} : CallS K (fun xs H Q => ∃ i j, xs = [.int i, .int j] ∧ CDiv i j ∧ ∀ p, H p = none → Q (.ref p) (upd H p (.tup [.int (i / j), .int (i % j)]))) divmodD := fun F σ H ρ δ xs ds z G R hz Q q => by
  unfold divmodD at hz
  split at hz
  · split at hz
    · rename_i hc
      cases hz
      obtain ⟨v, w, rfl, r, r'⟩ := reps2 R
      cases r; cases r'
      refine ⟨_, _, rfl, hc, fun p hp => q _ _ (upd_keeps hp) (.tup (.inl ⟨G.mfree hp, .inl upd_same⟩) (.cons (.int _) (.cons (.int _) .nil)))⟩
    · cases hz
  · cases hz
section
variable {x : Str}
theorem pd_len (hm : X.mg "len" = none) (ha : PDA X (e :: es) r) (hg : Gl X "len" := by rfl) (he : starEach (e :: es) X.env = (false, eval e X.env) :: starEach es X.env := by rfl) (hpl : (backTo pos (starEach es X.env)).any (·.1) = false := by rfl) : PD X (.Call (.Name "len" p) (e :: es) [] pos) (mCall lenD r) := pd_cb PySem.boot_len call_len cs_len ha hg hm (by decide) (by decide) he hpl
theorem pd_abs (hm : X.mg "abs" = none) (ha : PDA X (e :: es) r) (hg : Gl X "abs" := by rfl) (he : starEach (e :: es) X.env = (false, eval e X.env) :: starEach es X.env := by rfl) (hpl : (backTo pos (starEach es X.env)).any (·.1) = false := by rfl) : PD X (.Call (.Name "abs" p) (e :: es) [] pos) (mCall absD r) := pd_cb (by decide +kernel) call_abs cs_abs ha hg hm (by decide) (by decide) he hpl
theorem pd_max (hm : X.mg "max" = none) (hc : X.calm = true) (ha : PDA X (e :: es) r) (hg : Gl X "max" := by rfl) (he : starEach (e :: es) X.env = (false, eval e X.env) :: starEach es X.env := by rfl) (hpl : (backTo pos (starEach es X.env)).any (·.1) = false := by rfl) : PD X (.Call (.Name "max" p) (e :: es) [] pos) (mCall maxD r) := pd_cb (by decide +kernel) (call_max2 hc) cs_max ha hg hm (by decide) (by decide) he hpl
theorem pd_min (hm : X.mg "min" = none) (hc : X.calm = true) (ha : PDA X (e :: es) r) (hg : Gl X "min" := by rfl) (he : starEach (e :: es) X.env = (false, eval e X.env) :: starEach es X.env := by rfl) (hpl : (backTo pos (starEach es X.env)).any (·.1) = false := by rfl) : PD X (.Call (.Name "min" p) (e :: es) [] pos) (mCall minD r) := pd_cb (by decide +kernel) (call_min2 hc) cs_min ha hg hm (by decide) (by decide) he hpl
theorem pd_any (hm : X.mg "any" = none) (hc : X.calm = true) (ha : PDA X (e :: es) r) (hg : Gl X "any" := by rfl) (he : starEach (e :: es) X.env = (false, eval e X.env) :: starEach es X.env := by rfl) (hpl : (backTo pos (starEach es X.env)).any (·.1) = false := by rfl) : PD X (.Call (.Name "any" p) (e :: es) [] pos) (mCall anyD r) := pd_cb (by decide +kernel) (cr_any hc) cs_any ha hg hm (by decide) (by decide) he hpl
theorem pd_all (hm : X.mg "all" = none) (hc : X.calm = true) (ha : PDA X (e :: es) r) (hg : Gl X "all" := by rfl) (he : starEach (e :: es) X.env = (false, eval e X.env) :: starEach es X.env := by rfl) (hpl : (backTo pos (starEach es X.env)).any (·.1) = false := by rfl) : PD X (.Call (.Name "all" p) (e :: es) [] pos) (mCall allD r) := pd_cb (by decide +kernel) (cr_all hc) cs_all ha hg hm (by decide) (by decide) he hpl
theorem pd_divmod (hm : X.mg "divmod" = none) (ha : PDA X (e :: es) r) (hg : Gl X "divmod" := by rfl) (he : starEach (e :: es) X.env = (false, eval e X.env) :: starEach es X.env := by rfl) (hpl : (backTo pos (starEach es X.env)).any (·.1) = false := by rfl) : PD X (.Call (.Name "divmod" p) (e :: es) [] pos) (mCall divmodD r) := pd_cb (by decide +kernel) call_divmod cs_divmod ha hg hm (by decide) (by decide) he hpl
theorem pd_cint (hm : X.mg "int" = none) (ha : PDA X (e :: es) r) (hg : Gl X "int" := by rfl) (he : starEach (e :: es) X.env = (false, eval e X.env) :: starEach es X.env := by rfl) (hpl : (backTo pos (starEach es X.env)).any (·.1) = false := by rfl) : PD X (.Call (.Name "int" p) (e :: es) [] pos) (mCall intD r) := pd_ct (by decide +kernel) call_int1 cs_int ha hg hm (by decide) (by decide) he hpl
theorem pd_clist (hm : X.mg "list" = none) (ha : PDA X (e :: es) r) (hg : Gl X "list" := by rfl) (he : starEach (e :: es) X.env = (false, eval e X.env) :: starEach es X.env := by rfl) (hpl : (backTo pos (starEach es X.env)).any (·.1) = false := by rfl) : PD X (.Call (.Name "list" p) (e :: es) [] pos) (mCall listD r) := pd_ct (by decide +kernel) call_list_of cs_list ha hg hm (by decide) (by decide) he hpl
theorem pd_ctup (hm : X.mg "tuple" = none) (ha : PDA X (e :: es) r) (hg : Gl X "tuple" := by rfl) (he : starEach (e :: es) X.env = (false, eval e X.env) :: starEach es X.env := by rfl) (hpl : (backTo pos (starEach es X.env)).any (·.1) = false := by rfl) : PD X (.Call (.Name "tuple" p) (e :: es) [] pos) (mCall tupD r) := pd_ct (by decide +kernel) call_tuple_of cs_tup ha hg hm (by decide) (by decide) he hpl
end

/-! isinstance(e, T), T one built-in class -/
def tyD : D → String
  | .none => "NoneType" | .bool _ => "bool" | .int _ => "int" | .str _ => "str" | .list _ => "list" | .tuple _ => "tuple" | .dict _ => "dict"
def isiD (T : String) (d : D) : Option D := (kitB (tyD d) T).map .bool
theorem Rep.ty {K M H v d} (r : Rep K M H v d) : TyX K H v (.type (tyD d)) := by
  cases r with
  | non => exact .base .non
  | bl b => exact .base (.bl b)
  | int b => exact .base (.int b)
  | str b => exact .base (.str b)
  | lst a r => exact .base (.lst a.2)
  | tup a r =>
    rcases a with ⟨_, a | ⟨o, a⟩⟩ | ⟨o, its, n, e, c, _⟩
    · exact .base (.tup a)
    · exact .fTuple a
    · exact .kTuple e c
  | dic n e r => exact .base (.dK e)
theorem pd_isi {T : Str} {t : String} {p2 : Pos} (hv : bootBuiltins T = some (.type t)) (hm : X.mg "isinstance" = none) (hT : X.mg T = none) (ha : PD X a ma) (hg : Gl X "isinstance" := by rfl) (hgT : Gl X T := by rfl)
    (hn : T ≠ "__name__" := by decide) (hd : (T == ("__debug__" : Str)) = false := by decide) (hs1 : starEach [a, .Name T p2] X.env = (false, eval a X.env) :: starEach [.Name T p2] X.env := by rfl) (hs2 : starEach [Expr.Name T p2] X.env = (false, eval (.Name T p2) X.env) :: starEach [] X.env := by rfl)
    (hpl : (backTo pos (starEach [Expr.Name T p2] X.env)).any (·.1) = false := by rfl) :
    PD X (.Call (.Name "isinstance" p) [a, .Name T p2] [] pos) (mUn (isiD t) ma) := by
  obtain ⟨ta, h1, s1⟩ := ha.ex
  refine ⟨_, pe_callB call_isi hg hm (by decide +kernel) (pa_cons h1 (pa_cons (pe_bltn (v := .ty t) hgT hT hv rfl hn hd) pa_nil hs2) hs1) (by decide) (by decide) hs1 hpl, fun F σ H ρ δ d δ' G e Q q => ?_⟩
  obtain ⟨⟨x, δ1⟩, e1, e⟩ := Option.bind_eq_some_iff.mp e
  obtain ⟨z, e3, e⟩ := Option.map_eq_some_iff.mp e
  cases e
  refine s1 F σ H ρ δ x δ1 G e1 _ fun v H1 G1 M1 R1 => ?_
  unfold isiD at e3
  obtain ⟨bb, e4, e5⟩ := Option.map_eq_some_iff.mp e3
  subst e5
  exact ⟨v, .ty t, _, _, bb, rfl, .ty t, R1.ty, kit_ty e4, q _ _ G1 M1 (.bl _)⟩

/-! sep.join(xs) -/
def strsD : List D → Option (List Str)
  | [] => some []
  | .str b :: r => (strsD r).map fun bs => b :: bs
  | _ :: _ => none
theorem Reps.strs {K M H} : ∀ {vs ds bs}, Reps K M H vs ds → strsD ds = some bs → vs = bs.map V.str
  | _, _, _, .nil, h => by cases h; rfl
  | _, _, _, .cons r t, h => by
    cases r <;> first | (simp [strsD] at h; done) | skip
    simp only [strsD] at h
    obtain ⟨bs, e1, e2⟩ := Option.map_eq_some_iff.mp h
    subst e2
    rw [Reps.strs t e1]; rfl
def joinSz (a : Str) (ys : List Str) : Bool := decide ((ys.map (·.length)).sum + ys.length * a.length ≤ 16777216)
def joinD : D → D → Option D
  | .str a, .list ds => (strsD ds).bind fun ys => if joinSz a ys then some (.str (Txt.join a ys)) else none
  | .str a, .tuple ds => (strsD ds).bind fun ys => if joinSz a ys then some (.str (Txt.join a ys)) else none
  | _, _ => none
theorem pd_join {apos : Pos} (ha : PD X a ma) (hb : PD X b mb) (hs : starEach [b] X.env = [(false, eval b X.env)] := by rfl) (hbase : attributeBase a "join" X.env (eval a X.env) = eval a X.env := by rfl) (hline : (apos.endLine == pos.line) = true := by rfl) :
    PD X (.Call (.Attribute a "join" apos) [b] [] pos) (mBin joinD ma mb) := by
  obtain ⟨ta, h1, s1⟩ := ha.ex
  obtain ⟨tb, h2, s2⟩ := hb.ex
  refine ⟨_, pe_join h1 h2 hs hbase hline, fun F σ H ρ δ d δ' G e Q q => ?_⟩
  obtain ⟨⟨x, δ1⟩, e1, e⟩ := Option.bind_eq_some_iff.mp e
  obtain ⟨⟨y, δ2⟩, e2, e⟩ := Option.bind_eq_some_iff.mp e
  obtain ⟨z, e3, e⟩ := Option.map_eq_some_iff.mp e
  cases e
  refine s1 F σ H ρ δ x δ1 G e1 _ fun v H1 G1 M1 R1 => ?_
  dsimp only at e3
  unfold joinD at e3
  split at e3
  · cases R1
    refine ⟨⟨_, rfl⟩, s2 F σ H1 ρ δ1 _ _ G1 e2 _ fun u H2 G2 M2 R2 => ?_⟩
    obtain ⟨ys, e4, e5⟩ := Option.bind_eq_some_iff.mp e3
    split at e5
    · rename_i hz
      cases e5
      cases R2 with
      | lst ha r => exact ⟨_, _, ys, rfl, rfl, .inl (by rw [← r.strs e4]; exact ha.sq), of_decide_eq_true hz, q _ _ G2 (M1.trans M2) (.str _)⟩
    · cases e5
  · cases R1
    refine ⟨⟨_, rfl⟩, s2 F σ H1 ρ δ1 _ _ G1 e2 _ fun u H2 G2 M2 R2 => ?_⟩
    obtain ⟨ys, e4, e5⟩ := Option.bind_eq_some_iff.mp e3
    split at e5
    · rename_i hz
      cases e5
      cases R2 with
      | tup ha r => exact ⟨_, _, ys, rfl, rfl, .inr (by rw [← r.strs e4]; exact ha.sq), of_decide_eq_true hz, q _ _ G2 (M1.trans M2) (.str _)⟩
    · cases e5
  · cases e3

/-! ### defs -/
/-- a def without the deck: it leaves all as it is -/
def spP (K : PySem.W.Frag) (m : List D → Option D) : Sp := fun vs H Q _ => ∃ (M : Addr → Prop) (ds : List D) (r : D), (∀ a, M a → H a ≠ none) ∧ Reps K M H vs ds ∧ m ds = some r ∧ ∀ v H', (∀ a o, H a = some o → H' a = some o) → Rep K M H' v r → Q v H'
/-- a def whose first argument is the deck -/
def spK (K : PySem.W.Frag) (m : List D → Dk → Option (D × Dk)) : Sp := fun vs H Q _ => ∃ (M : Addr → Prop) (p : Addr × Addr) (ws : List V) (ds : List D) (δ : Dk) (r : D) (δ' : Dk), vs = .ref p.1 :: ws ∧ (∀ a, M a → H a ≠ none) ∧ M p.1 ∧ M p.2 ∧ DeckAt H p δ ∧
  Reps K M H ws ds ∧ m ds δ = some (r, δ') ∧ ∀ v H', (∀ a o, a ≠ p.1 → a ≠ p.2 → H a = some o → H' a = some o) → DeckAt H' p δ' → Rep K M H' v r → Q v H'
theorem Good.mm {K F σ H ρ δ} (G : Good K F σ H ρ δ) : ∀ a, Mm F σ ρ a → H a ≠ none := fun a h => by
  rcases h with h | ⟨i, ds, e1, e2⟩
  · exact G.m0 a h
  · obtain ⟨b, xs, e3, e4, _⟩ := G.uni i ds e1
    rw [e2] at e3
    cases e3
    rw [e4]
    exact fun z => nomatch z
theorem pd_callP {CX : CXT} {k : Nat} {f : Addr} {fd : FuncData} {ps : List Str} {m : List D → Option D} {x : Str} {E : XK} (Fn : FnOk X.prog X.w X.K X.mg X.base CX k f fd ps (spP X.K m)) (hr : Room k X.A) (hm : X.mg x = some (.ref f)) (hk : PySem.W.keepIn X.K (.ref f) = true) (hb : Binds X.K fd ps []) (hx : Passes CX X E)
    (ha : PDA X (e :: es) r) (hg : Gl X x := by rfl) (hdb : (x == ("__debug__" : Str)) = false := by decide) (he : starEach (e :: es) X.env = (false, eval e X.env) :: starEach es X.env := by rfl) (hpl : (backTo pos (starEach es X.env)).any (·.1) = false := by rfl) :
    PD X (.Call (.Name x p) (e :: es) [] pos) (mCall m r) := by
  obtain ⟨t, h1, s1⟩ := ha.ex
  refine ⟨_, pe_call Fn hr hg hm hk hb .nil hx h1 hdb he hpl, fun F σ H ρ δ d δ' G e Q q => ?_⟩
  obtain ⟨⟨ds, δ1⟩, e1, e⟩ := Option.bind_eq_some_iff.mp e
  obtain ⟨z, e3, e⟩ := Option.map_eq_some_iff.mp e
  cases e
  refine s1 F σ H ρ δ ds _ G e1 _ fun vs H1 G1 M1 R1 => ?_
  rw [List.append_nil]
  exact ⟨_, ds, _, G1.mm, R1, e3, fun v H2 k R2 => q v H2 (G1.keep k) (M1.trans (Mv.same k)) R2⟩
def mCallK (i : Nat) (m : List D → Dk → Option (D × Dk)) (r : MA) : ME := fun ρ δ => match ρ[i]? with
  | some .deck => (r ρ δ).bind fun p => m p.1 p.2
  | _ => none
theorem Good.deck {K F σ H H' ρ δ δ' p} (G : Good K F σ H ρ δ) (hp : F.dk = some p) (k : ∀ a o, a ≠ p.1 → a ≠ p.2 → H a = some o → H' a = some o) (hd : DeckAt H' p δ') : Good K F σ H' ρ δ' ∧ Mv (Mm F σ ρ) H (Mm F σ ρ) H' := by
  obtain ⟨d1, d2, d3⟩ := G.dck p hp
  have mv : Mv (Mm F σ ρ) H (Mm F σ ρ) H' := fun a o e n => ⟨k a o (fun z => n (by rw [z]; exact .inl d1)) (fun z => n (by rw [z]; exact .inl d2)) e, n⟩
  refine ⟨⟨G.len, fun i d e => ?_, fun i ds e => ?_, G.inj, fun a ha => ?_, G.dsl, fun p' hp' => ?_, fun a o e n => ?_⟩, mv⟩
  · obtain ⟨v, e1, r⟩ := G.val i d e
    exact ⟨v, e1, r.mv mv⟩
  · obtain ⟨a, xs, e1, e2, r, n⟩ := G.uni i ds e
    exact ⟨a, xs, e1, k a _ (fun z => n.1 (by rw [z]; exact d1)) (fun z => n.1 (by rw [z]; exact d2)) e2, r.mv mv, n⟩
  · by_cases h1 : a = p.1
    · rw [h1, hd.one]; exact fun z => nomatch z
    · by_cases h2 : a = p.2
      · rw [h2, hd.two]; exact fun z => nomatch z
      · cases e : H a with
        | none => exact absurd e (G.m0 a ha)
        | some o => rw [k a o h1 h2 e]; exact fun z => nomatch z
  · rw [hp] at hp'; cases hp'
    exact ⟨d1, d2, hd⟩
  · exact k a o (n p hp).1 (n p hp).2 (G.fr a o e n)
theorem pd_callK (i : Nat) {CX : CXT} {k : Nat} {f : Addr} {fd : FuncData} {ps : List Str} {m : List D → Dk → Option (D × Dk)} {x y : Str} {E : XK} {py : Pos} (Fn : FnOk X.prog X.w X.K X.mg X.base CX k f fd ps (spK X.K m)) (hr : Room k X.A) (hm : X.mg x = some (.ref f)) (hk : PySem.W.keepIn X.K (.ref f) = true) (hb : Binds X.K fd ps []) (hx : Passes CX X E)
    (ha : PDA X es r) (hN : X.N[i]? = some y := by rfl) (hv : Vis X.env.scope y := by first | exact Or.inl rfl | exact Or.inr (Or.inl rfl) | exact Or.inr (Or.inr rfl)) (hyd : (y == ("__debug__" : Str)) = false := by decide) (hcd : (y == ("__classdict__" : Str)) = false := by decide)
    (hg : Gl X x := by rfl) (hdb : (x == ("__debug__" : Str)) = false := by decide) (he : starEach (.Name y py :: es) X.env = (false, eval (.Name y py) X.env) :: starEach es X.env := by rfl) (hpl : (backTo pos (starEach es X.env)).any (·.1) = false := by rfl) :
    PD X (.Call (.Name x p) (.Name y py :: es) [] pos) (mCallK i m r) := by
  obtain ⟨t, h1, s1⟩ := ha.ex
  refine ⟨_, pe_call Fn hr hg hm hk hb .nil hx (pa_cons (pe_var hN hv hyd hcd) h1 he) hdb he hpl, fun F σ H ρ δ d δ' G e Q q => ?_⟩
  unfold mCallK at e
  split at e
  · rename_i hi
    obtain ⟨⟨ds, δ1⟩, e1, e⟩ := Option.bind_eq_some_iff.mp e
    obtain ⟨pp, hp, hs⟩ := G.dsl i hi
    refine ⟨_, hs, s1 F σ H ρ δ ds _ G e1 _ fun vs H1 G1 M1 R1 => ?_⟩
    dsimp only
    rw [List.append_nil]
    obtain ⟨d1, d2, d3⟩ := G1.dck pp hp
    exact ⟨_, pp, vs, ds, δ1, d, δ', rfl, G1.mm, .inl d1, .inl d2, d3, R1, e, fun v H2 k hd R2 => q v H2 (G1.deck hp k hd).1 (M1.trans (G1.deck hp k hd).2) R2⟩
  · cases e
end
end PD

namespace PD
open PySem PySem.Spec PyProof.Rows L2

/-! ### what is walked -/
def Walks (K : PySem.W.Frag) (M : Addr → Prop) (H : Hp) (J : It) (ds : List D) : Prop := ∃ xs, Reps K M H xs ds ∧ ∀ M2 H2, Mv M H M2 H2 → ∀ i : Nat,
  (i < xs.length → J.go i H2 ∧ ∀ x H3, J.yld i H2 x H3 → H3 = H2 ∧ xs[i]? = some x) ∧ (xs.length ≤ i → J.stop i H2)
structure PDI (X : Cx) (tg iter : Expr) (m : MA) : Prop where
  ex : ∃ wi, PI X tg iter wi ∧ ∀ F σ H ρ δ ds δ', Good X.K F σ H ρ δ → m ρ δ = some (ds, δ') → ∀ R : It → Hp → Prop,
    (∀ J H', Good X.K F σ H' ρ δ' → Mv (Mm F σ ρ) H (Mm F σ ρ) H' → Walks X.K (Mm F σ ρ) H' J ds → R J H') → wi σ H R
def itemsD : D → Option (List D)
  | .list ds => some ds
  | .tuple ds => some ds
  | .str x => some (x.cps.toList.map fun c => .str ⟨#[c]⟩)
  | _ => none
def mItems (m : ME) : MA := fun ρ δ => (m ρ δ).bind fun p => (itemsD p.1).map fun z => (z, p.2)
theorem AL.uq {K M H a xs ys} (h : AL K M H a xs) (g : SqL K H a ys) (hK : ∀ zs, ¬ ((∃ (o : Obj) (its : Array Value) (n : Nat), K.lookup a = some o ∧ o.cls = .type "list" ∧ o.dict = none ∧ o.data = .seq its n ∧ its.size ≤ sizeLine ∧ Vals zs its.toList))) : ys = xs := by
  rcases g with (g | ⟨o, g⟩) | g
  · rw [h.2] at g; cases g; rfl
  · rw [h.2] at g; cases g
  · exact absurd g (hK ys)
theorem walk_list {K M H a xs ds} (h : AL K M H a xs) (r : Reps K M H xs ds) : Walks K M H (Itl K a) ds := ⟨xs, r, fun M2 H2 mv i => by
  have h2 := h.mv mv
  refine ⟨fun hi => ⟨⟨xs, xs[i], h2.sq, by simp [hi]⟩, fun x H3 y => ⟨y.1, y.2 xs h2.sq⟩⟩, fun hi => ⟨xs, h2.sq, hi⟩⟩⟩
theorem walk_tup {K M H a xs ds} (h : AT K M H a xs) (r : Reps K M H xs ds) : Walks K M H (Itt K a) ds := ⟨xs, r, fun M2 H2 mv i => by
  have h2 := h.mv mv
  refine ⟨fun hi => ⟨⟨xs, xs[i], h2.sq, by simp [hi]⟩, fun x H3 y => ⟨y.1, y.2 xs h2.sq⟩⟩, fun hi => ⟨xs, h2.sq, hi⟩⟩⟩
theorem reps_strs {K M H} : ∀ cs : List Nat, Reps K M H (cs.map fun c => V.str ⟨#[c]⟩) (cs.map fun c => PyData.str ⟨#[c]⟩)
  | [] => .nil
  | _ :: r => .cons (.str _) (reps_strs r)
theorem walk_str {K M H} (x : Str) : Walks K M H (Its x) (x.cps.toList.map fun c => .str ⟨#[c]⟩) := ⟨_, reps_strs _, fun M2 H2 mv i => by
  refine ⟨fun hi => ⟨?_, fun y H3 z => ⟨z.1, ?_⟩⟩, fun hi => ?_⟩
  · simpa [Its] using hi
  · obtain ⟨c, e1, e2⟩ := z.2
    subst e2
    rw [List.getElem?_map, Array.getElem?_toList, e1]; rfl
  · simpa [Its] using hi⟩
theorem reps_ints {K M H} (f : Nat → Int) : ∀ ns : List Nat, Reps K M H (ns.map fun i => V.int (f i)) (ns.map fun i => PyData.int (f i))
  | [] => .nil
  | n :: r => .cons (.int _) (reps_ints f r)
theorem walk_range {K M H} (lo : Int) (n : Nat) : Walks K M H (Itr lo n) ((List.range n).map fun (i : Nat) => .int (lo + (i : Int))) := ⟨_, reps_ints (fun i => lo + (i : Int)) (List.range n), fun M2 H2 mv i => by
  refine ⟨fun hi => ⟨?_, fun y H3 z => ⟨z.1, ?_⟩⟩, fun hi => ?_⟩
  · simpa [Itr] using hi
  · rw [List.getElem?_map, z.2]
    simp at hi
    rw [List.getElem?_range hi]; rfl
  · simpa [Itr] using hi⟩
section
variable {X : Cx} {a b tg : Expr} {ma mb : ME} {p pos : Pos}
theorem pdi_seq (ha : PD X a ma) : PDI X tg a (mItems ma) := by
  obtain ⟨ta, h1, s1⟩ := ha.ex
  refine ⟨fun σ H R => iList X.K ta σ H R ∨ iTup X.K ta σ H R ∨ iStr ta σ H R, ⟨fun pins s σ H R I q => ?_⟩, fun F σ H ρ δ ds δ' G e R q => ?_⟩
  · rcases q with q | q | q
    · exact (pi_list h1).run pins s σ H R I q
    · exact (pi_tup h1).run pins s σ H R I q
    · exact (pi_str h1).run pins s σ H R I q
  · obtain ⟨⟨x, δ1⟩, e1, e⟩ := Option.bind_eq_some_iff.mp e
    obtain ⟨z, e3, e⟩ := Option.map_eq_some_iff.mp e
    cases e
    cases x <;> first | (simp [itemsD] at e3; done) | skip
    · cases e3
      refine .inr (.inr (s1 F σ H ρ δ _ _ G e1 _ fun v H1 G1 M1 R1 => ?_))
      cases R1
      exact ⟨_, rfl, q _ _ G1 M1 (walk_str _)⟩
    · cases e3
      refine .inl (s1 F σ H ρ δ _ _ G e1 _ fun v H1 G1 M1 R1 => ?_)
      cases R1 with
      | lst ha r => exact ⟨_, rfl, ⟨_, ha.sq⟩, q _ _ G1 M1 (walk_list ha r)⟩
    · cases e3
      refine .inr (.inl (s1 F σ H ρ δ _ _ G e1 _ fun v H1 G1 M1 R1 => ?_))
      cases R1 with
      | tup ha r => exact ⟨_, rfl, ⟨_, ha.sq⟩, q _ _ G1 M1 (walk_tup ha r)⟩
def inB (j : Int) : Bool := decide (-(2 ^ 62) ≤ j ∧ j < 2 ^ 62)
def mRng1 (m : ME) : MA := fun ρ δ => (m ρ δ).bind fun p => match p.1 with
  | .int j => if inB j then some ((List.range j.toNat).map fun (i : Nat) => .int (0 + (i : Int)), p.2) else none
  | _ => none
def mRng2 (m m' : ME) : MA := fun ρ δ => (m ρ δ).bind fun p => (m' ρ p.2).bind fun q => match p.1, q.1 with
  | .int i, .int j => if inB i && inB j then some ((List.range (j - i).toNat).map fun (k : Nat) => .int (i + (k : Int)), q.2) else none
  | _, _ => none
theorem pdi_range1 (hm : X.mg "range" = none) (ha : PD X a ma) (hg : Gl X "range" := by rfl) (hs : starEach [a] X.env = [(false, eval a X.env)] := by rfl) : PDI X tg (.Call (.Name "range" p) [a] [] pos) (mRng1 ma) := by
  obtain ⟨ta, h1, s1⟩ := ha.ex
  refine ⟨_, pi_range1 hg hm (pa_cons h1 pa_nil hs) hs, fun F σ H ρ δ ds δ' G e R q => ?_⟩
  obtain ⟨⟨x, δ1⟩, e1, e⟩ := Option.bind_eq_some_iff.mp e
  refine s1 F σ H ρ δ _ _ G e1 _ fun v H1 G1 M1 R1 => ?_
  dsimp only at e
  split at e
  · split at e
    · rename_i hb
      have hb := of_decide_eq_true hb
      cases e
      cases R1
      exact ⟨_, rfl, hb.1, hb.2, q _ _ G1 M1 (walk_range 0 _)⟩
    · cases e
  · cases e
theorem pdi_range2 (hm : X.mg "range" = none) (ha : PD X a ma) (hb : PD X b mb) (hg : Gl X "range" := by rfl) (hs : starEach [a, b] X.env = [(false, eval a X.env), (false, eval b X.env)] := by rfl) (hs2 : starEach [b] X.env = [(false, eval b X.env)] := by rfl) : PDI X tg (.Call (.Name "range" p) [a, b] [] pos) (mRng2 ma mb) := by
  obtain ⟨ta, h1, s1⟩ := ha.ex
  obtain ⟨tb, h2, s2⟩ := hb.ex
  refine ⟨_, pi_range2 hg hm (pa_cons h1 (pa_cons h2 pa_nil hs2) (by rw [hs, hs2])) hs hs2, fun F σ H ρ δ ds δ' G e R q => ?_⟩
  obtain ⟨⟨x, δ1⟩, e1, e⟩ := Option.bind_eq_some_iff.mp e
  obtain ⟨⟨y, δ2⟩, e2, e⟩ := Option.bind_eq_some_iff.mp e
  refine s1 F σ H ρ δ _ _ G e1 _ fun v H1 G1 M1 R1 => s2 F σ H1 ρ δ1 _ _ G1 e2 _ fun u H2 G2 M2 R2 => ?_
  dsimp only at e
  split at e
  · split at e
    · rename_i hb
      rw [Bool.and_eq_true] at hb
      have hb1 := of_decide_eq_true hb.1
      have hb2 := of_decide_eq_true hb.2
      cases e
      cases R1
      cases R2
      exact ⟨_, _, rfl, ⟨hb1.1, hb1.2, hb2.1, hb2.2⟩, q _ _ G2 (M1.trans M2) (walk_range _ _)⟩
    · cases e
  · cases e
end

/-! ### targets -/
abbrev MG := D → List Sl → Option (List Sl)
structure Set1 (sl : List Nat) (σ σ' : L2.St) (ρ ρ' : List Sl) : Prop where
  ls : σ'.length = σ.length
  lr : ρ'.length = ρ.length
  s : ∀ j, j ∉ sl → σ'[j]? = σ[j]?
  r : ∀ j, j ∉ sl → ρ'[j]? = ρ[j]?
  u : ∀ (j : Nat) ds, ρ'[j]? = some (.uni ds) → ρ[j]? = some (.uni ds) ∧ j ∉ sl
structure PDG (X : Cx) (tg : Expr) (sl : List Nat) (m : MG) : Prop where
  ex : ∃ g, PG X tg g ∧ ∀ F σ H ρ δ v d ρ', Good X.K F σ H ρ δ → Rep X.K (Mm F σ ρ) H v d → m d ρ = some ρ' → ∀ Q : L2.St → Hp → Prop,
    (∀ σ', Good X.K F σ' H ρ' δ → Mv (Mm F σ ρ) H (Mm F σ' ρ') H → Set1 sl σ σ' ρ ρ' → Q σ' H) → g v σ H Q
theorem Mm_set {F σ ρ i v d a} (h : Mm F (σ.set i (some v)) (ρ.set i (.val d)) a) : Mm F σ ρ a := by
  rcases h with h | ⟨j, ds, e1, e2⟩
  · exact .inl h
  · by_cases hj : i = j
    · subst hj
      by_cases hl : i < ρ.length
      · rw [List.getElem?_set_self hl] at e1; cases e1
      · rw [List.getElem?_eq_none (by simpa using hl)] at e1; cases e1
    · rw [List.getElem?_set_ne hj] at e1 e2
      exact .inr ⟨j, ds, e1, e2⟩
theorem Good.set {K F σ H ρ δ v d} (G : Good K F σ H ρ δ) (i : Nat) (r : Rep K (Mm F σ ρ) H v d) : Good K F (σ.set i (some v)) H (ρ.set i (.val d)) δ ∧ Mv (Mm F σ ρ) H (Mm F (σ.set i (some v)) (ρ.set i (.val d))) H := by
  have mv : Mv (Mm F σ ρ) H (Mm F (σ.set i (some v)) (ρ.set i (.val d))) H := fun a o e n => ⟨e, fun z => n (Mm_set z)⟩
  have un : ∀ (j : Nat) ds, (ρ.set i (.val d))[j]? = some (.uni ds) → i ≠ j ∧ ρ[j]? = some (.uni ds) := fun j ds e => by
    by_cases hj : i = j
    · subst hj
      by_cases hl : i < ρ.length
      · rw [List.getElem?_set_self hl] at e; cases e
      · rw [List.getElem?_eq_none (by simpa using hl)] at e; cases e
    · rw [List.getElem?_set_ne hj] at e
      exact ⟨hj, e⟩
  refine ⟨⟨by rw [List.length_set, List.length_set]; exact G.len, fun j e h => ?_, fun j ds e => ?_, fun j k ds es a e1 e2 e3 e4 => ?_, G.m0, fun j e => ?_, G.dck, G.fr⟩, mv⟩
  · by_cases hj : i = j
    · subst hj
      by_cases hl : i < ρ.length
      · rw [List.getElem?_set_self hl] at h; cases h
        exact ⟨v, List.getElem?_set_self (by rw [G.len]; exact hl), r.mv mv⟩
      · rw [List.getElem?_eq_none (by simpa using hl)] at h; cases h
    · rw [List.getElem?_set_ne hj] at h ⊢
      obtain ⟨w, e1, r1⟩ := G.val j e h
      exact ⟨w, e1, r1.mv mv⟩
  · obtain ⟨hj, e⟩ := un j ds e
    obtain ⟨a, xs, e1, e2, r1, n⟩ := G.uni j ds e
    exact ⟨a, xs, by rw [List.getElem?_set_ne hj]; exact e1, e2, r1.mv mv, n⟩
  · obtain ⟨hj, e1⟩ := un j ds e1
    obtain ⟨hk, e2⟩ := un k es e2
    rw [List.getElem?_set_ne hj] at e3
    rw [List.getElem?_set_ne hk] at e4
    exact G.inj j k ds es a e1 e2 e3 e4
  · by_cases hj : i = j
    · subst hj
      by_cases hl : i < ρ.length
      · rw [List.getElem?_set_self hl] at e; cases e
      · rw [List.getElem?_eq_none (by simpa using hl)] at e; cases e
    · rw [List.getElem?_set_ne hj] at e ⊢
      exact G.dsl j e
theorem Set1.set {σ ρ v d} (i : Nat) : Set1 [i] σ (σ.set i (some v)) ρ (ρ.set i (.val d)) where
  ls := List.length_set
  lr := List.length_set
  s := fun j h => List.getElem?_set_ne (fun e => h (by simp [e]))
  r := fun j h => List.getElem?_set_ne (fun e => h (by simp [e]))
  u := fun j ds e => by
    by_cases hj : i = j
    · subst hj
      by_cases hl : i < ρ.length
      · rw [List.getElem?_set_self hl] at e; cases e
      · rw [List.getElem?_eq_none (by simpa using hl)] at e; cases e
    · rw [List.getElem?_set_ne hj] at e
      exact ⟨e, by simp; exact fun z => hj z.symm⟩
theorem Set1.refl {σ ρ} : Set1 [] σ σ ρ ρ := ⟨rfl, rfl, fun _ _ => rfl, fun _ _ => rfl, fun _ _ e => ⟨e, by simp⟩⟩
theorem Set1.trans {sl sl' σ σ1 σ2 ρ ρ1 ρ2} (h : Set1 sl σ σ1 ρ ρ1) (g : Set1 sl' σ1 σ2 ρ1 ρ2) : Set1 (sl ++ sl') σ σ2 ρ ρ2 where
  ls := g.ls.trans h.ls
  lr := g.lr.trans h.lr
  s := fun j hj => by simp only [List.mem_append, not_or] at hj; rw [g.s j hj.2, h.s j hj.1]
  r := fun j hj => by simp only [List.mem_append, not_or] at hj; rw [g.r j hj.2, h.r j hj.1]
  u := fun j ds e => by
    obtain ⟨e1, n1⟩ := g.u j ds e
    obtain ⟨e2, n2⟩ := h.u j ds e1
    exact ⟨e2, by simp only [List.mem_append, not_or]; exact ⟨n2, n1⟩⟩
def gSet (i : Nat) : MG := fun d ρ => some (ρ.set i (.val d))
section
variable {X : Cx} {pos : Pos}
theorem pdg_name (i : Nat) {x : Str} (hN : X.N.Nodup) (hi : X.N[i]? = some x := by rfl) (hx : Loc X.env.scope x := by first | exact Or.inl rfl | exact Or.inr rfl) (hf : X.fn x = true ∨ X.env.scope.names.lookup x = some .local := by first | exact .inl rfl | exact .inr rfl | assumption) : PDG X (.Name x pos) [i] (gSet i) :=
  ⟨_, pg_name hN hi hx hf, fun F σ H ρ δ v d ρ' G r e Q q => by
    cases e
    obtain ⟨G1, M1⟩ := G.set i r
    exact q _ G1 M1 (Set1.set i)⟩
abbrev MGs := List D → List Sl → Option (List Sl)
structure PDGs (X : Cx) (tgs : List Expr) (sl : List Nat) (m : MGs) : Prop where
  ex : ∃ g, PGs X tgs g ∧ ∀ F σ H ρ δ v d ρ', Good X.K F σ H ρ δ → Reps X.K (Mm F σ ρ) H v d → m d ρ = some ρ' → ∀ Q : L2.St → Hp → Prop,
    (∀ σ', Good X.K F σ' H ρ' δ → Mv (Mm F σ ρ) H (Mm F σ' ρ') H → Set1 sl σ σ' ρ ρ' → Q σ' H) → g v σ H Q
def gsNil : MGs := fun ds ρ => match ds with
  | [] => some ρ
  | _ => none
def gsCons (m : MG) (r : MGs) : MGs := fun ds ρ => match ds with
  | d :: ds => (m d ρ).bind fun ρ1 => r ds ρ1
  | [] => none
theorem pdgs_nil : PDGs X [] [] gsNil := ⟨_, pgs_nil, fun F σ H ρ δ v d ρ' G r e Q q => by
  cases r with
  | nil => cases e; exact ⟨rfl, q _ G (Mv.refl _ _) Set1.refl⟩
  | cons _ _ => cases e⟩
theorem pdgs_cons {e : Expr} {es : List Expr} {sl sl' : List Nat} {m : MG} {r : MGs} (h1 : PDG X e sl m) (h2 : PDGs X es sl' r) (hs : (assignEach (e :: es) X.env).map (·.2) = assign e X.env :: (assignEach es X.env).map (·.2) := by rfl) : PDGs X (e :: es) (sl ++ sl') (gsCons m r) := by
  obtain ⟨g, p1, s1⟩ := h1.ex
  obtain ⟨g', p2, s2⟩ := h2.ex
  refine ⟨_, pgs_cons p1 p2 hs, fun F σ H ρ δ v d ρ' G r e Q q => ?_⟩
  cases r with
  | nil => cases e
  | cons r t =>
    obtain ⟨ρ1, e1, e2⟩ := Option.bind_eq_some_iff.mp e
    refine ⟨_, _, rfl, s1 F σ H ρ δ _ _ ρ1 G r e1 _ fun σ1 G1 M1 T1 => ?_⟩
    exact s2 F σ1 H ρ1 δ _ _ ρ' G1 (t.mv M1) e2 _ fun σ2 G2 M2 T2 => q _ G2 (M1.trans M2) (T1.trans T2)
def gTupM (n : Nat) (m : MGs) : MG := fun d ρ => match d with
  | .tuple ds => if ds.length = n then m ds ρ else none
  | _ => none
theorem pdg_tup {es : List Expr} {k n : Nat} {sl : List Nat} {m : MGs} (hc : X.calm = true) (h : PDGs X es sl m) (hn : (assignEach es X.env).length = n := by rfl) (hst : (assignEach es X.env).findIdx? (·.1) = none := by rfl) : PDG X (.Tuple es k pos) sl (gTupM n m) := by
  obtain ⟨g, p1, s1⟩ := h.ex
  refine ⟨_, pg_tup hc p1 hn hst, fun F σ H ρ δ v d ρ' G r e Q q => ?_⟩
  unfold gTupM at e
  split at e
  · split at e
    · rename_i hl
      cases r with
      | tup ha r => exact ⟨_, _, rfl, ha.sq, by rw [r.length]; exact hl, s1 F σ H ρ δ _ _ ρ' G r e _ q⟩
    · cases e
  · cases e
end
end PD

namespace PD
open PySem PySem.Spec PyProof.Rows L2

/-! ### comprehensions -/
def wipeR (ρ : List Sl) : List Nat → List Sl
  | [] => ρ
  | v :: vs => (wipeR ρ vs).set v .no
def noU (ρ : List Sl) (vs : List Nat) : Bool := vs.all fun i => match ρ[i]? with
  | some (.uni _) => false
  | _ => true
theorem noU_of {ρ vs i ds} (h : noU ρ vs = true) (hi : i ∈ vs) (e : ρ[i]? = some (.uni ds)) : False := by
  have := List.all_eq_true.mp h i hi
  rw [e] at this
  cases this
theorem wipeR_length (ρ : List Sl) : ∀ vs, (wipeR ρ vs).length = ρ.length
  | [] => rfl
  | v :: vs => by unfold wipeR; rw [List.length_set, wipeR_length ρ vs]
theorem wipe_get (σ : L2.St) (i : Nat) : ∀ vs : List Nat, (wipe σ vs)[i]? = if i ∈ vs then (if i < σ.length then some none else none) else σ[i]?
  | [] => by simp [wipe]
  | v :: vs => by
    unfold wipe
    by_cases hv : v = i
    · subst hv
      by_cases hl : v < σ.length
      · rw [List.getElem?_set_self (by rw [wipe_length]; exact hl)]; simp [hl]
      · rw [List.getElem?_eq_none (by rw [List.length_set, wipe_length]; omega)]; simp [hl]
    · rw [List.getElem?_set_ne hv, wipe_get σ i vs]
      simp [Ne.symm hv]
theorem wipeR_get (ρ : List Sl) (i : Nat) : ∀ vs : List Nat, (wipeR ρ vs)[i]? = if i ∈ vs then (if i < ρ.length then some .no else none) else ρ[i]?
  | [] => by simp [wipeR]
  | v :: vs => by
    unfold wipeR
    by_cases hv : v = i
    · subst hv
      by_cases hl : v < ρ.length
      · rw [List.getElem?_set_self (by rw [wipeR_length]; exact hl)]; simp [hl]
      · rw [List.getElem?_eq_none (by rw [List.length_set, wipeR_length]; omega)]; simp [hl]
    · rw [List.getElem?_set_ne hv, wipeR_get ρ i vs]
      simp [Ne.symm hv]
theorem wipeR_uni {ρ vs i ds} (h : (wipeR ρ vs)[i]? = some (.uni ds)) : i ∉ vs ∧ ρ[i]? = some (.uni ds) := by
  rw [wipeR_get] at h
  by_cases hi : i ∈ vs
  · rw [if_pos hi] at h; split at h <;> cases h
  · rw [if_neg hi] at h; exact ⟨hi, h⟩
theorem Mm_wipe {F σ ρ vs} (h : noU ρ vs = true) : Mm F (wipe σ vs) (wipeR ρ vs) = Mm F σ ρ := by
  funext a
  refine propext ⟨fun z => ?_, fun z => ?_⟩
  · rcases z with z | ⟨i, ds, e1, e2⟩
    · exact .inl z
    · obtain ⟨hi, e1⟩ := wipeR_uni e1
      rw [wipe_get, if_neg hi] at e2
      exact .inr ⟨i, ds, e1, e2⟩
  · rcases z with z | ⟨i, ds, e1, e2⟩
    · exact .inl z
    · have hi : i ∉ vs := fun q => noU_of h q e1
      exact .inr ⟨i, ds, by rw [wipeR_get, if_neg hi]; exact e1, by rw [wipe_get, if_neg hi]; exact e2⟩
theorem Good.wipe {K F σ H ρ δ vs} (G : Good K F σ H ρ δ) (h : noU ρ vs = true) : Good K F (L2.wipe σ vs) H (wipeR ρ vs) δ := by
  refine ⟨by rw [wipe_length, wipeR_length]; exact G.len, fun i d e => ?_, fun i ds e => ?_, fun i j ds es a e1 e2 e3 e4 => ?_, G.m0, fun i e => ?_, G.dck, G.fr⟩
  · rw [Mm_wipe h]
    by_cases hi : i ∈ vs
    · rw [wipeR_get, if_pos hi] at e; split at e <;> cases e
    · rw [wipeR_get, if_neg hi] at e
      rw [wipe_get, if_neg hi]
      exact G.val i d e
  · rw [Mm_wipe h]
    obtain ⟨hi, e⟩ := wipeR_uni e
    rw [wipe_get, if_neg hi]
    exact G.uni i ds e
  · obtain ⟨hi, e1⟩ := wipeR_uni e1
    obtain ⟨hj, e2⟩ := wipeR_uni e2
    rw [wipe_get, if_neg hi] at e3
    rw [wipe_get, if_neg hj] at e4
    exact G.inj i j ds es a e1 e2 e3 e4
  · by_cases hi : i ∈ vs
    · rw [wipeR_get, if_pos hi] at e; split at e <;> cases e
    · rw [wipeR_get, if_neg hi] at e
      rw [wipe_get, if_neg hi]
      exact G.dsl i e
/-- the frame with one more address that may change -/
def Fr.plus (F : Fr) (D : Addr) : Fr := { F with M0 := fun a => F.M0 a ∨ a = D }
theorem Mm_plus {F σ ρ D} : Mm (F.plus D) σ ρ = fun a => Mm F σ ρ a ∨ a = D := by
  funext a
  refine propext ⟨fun z => ?_, fun z => ?_⟩
  · rcases z with (z | z) | z
    · exact .inl (.inl z)
    · exact .inr z
    · exact .inl (.inr z)
  · rcases z with (z | z) | z
    · exact .inl (.inl z)
    · exact .inr z
    · exact .inl (.inr z)
/-- a new object that is to be changed -/
theorem Good.plus {K F σ H ρ δ D o} (G : Good K F σ H ρ δ) (h : H D = none) : Good K (F.plus D) σ (upd H D o) ρ δ ∧ Mv (Mm F σ ρ) H (Mm (F.plus D) σ ρ) (upd H D o) := by
  have mv : Mv (Mm F σ ρ) H (Mm (F.plus D) σ ρ) (upd H D o) := fun a u e n => ⟨upd_keeps h a u e, by rw [Mm_plus]; exact fun z => z.elim n (ne_of_none e h)⟩
  refine ⟨⟨G.len, fun i d e => ?_, fun i ds e => ?_, G.inj, fun a ha => ?_, G.dsl, fun p e => ?_, fun a u e n => upd_keeps h _ _ (G.fr a u e n)⟩, mv⟩
  · obtain ⟨v, e1, r⟩ := G.val i d e
    exact ⟨v, e1, r.mv mv⟩
  · obtain ⟨a, xs, e1, e2, r, n⟩ := G.uni i ds e
    exact ⟨a, xs, e1, upd_keeps h _ _ e2, r.mv mv, fun z => z.elim n.1 (ne_of_none e2 h), n.2⟩
  · rcases ha with ha | ha
    · cases e : H a with
      | none => exact absurd e (G.m0 a ha)
      | some u => rw [upd_keeps h a u e]; exact fun z => nomatch z
    · rw [ha, upd_same]; exact fun z => nomatch z
  · obtain ⟨d1, d2, d3⟩ := G.dck p e
    exact ⟨.inl d1, .inl d2, d3.ne, upd_keeps h _ _ d3.one, upd_keeps h _ _ d3.two⟩
/-- the object is changed -/
theorem Good.write {K F σ H H1 ρ δ D o} (G0 : ∃ σ ρ δ, Good K F σ H1 ρ δ) (hD : H1 D = none) (G : Good K (F.plus D) σ H ρ δ) : Good K (F.plus D) σ (upd H D o) ρ δ ∧ Mv (Mm (F.plus D) σ ρ) H (Mm (F.plus D) σ ρ) (upd H D o) := by
  obtain ⟨σ0, ρ0, δ0, G0⟩ := G0
  have mv : Mv (Mm (F.plus D) σ ρ) H (Mm (F.plus D) σ ρ) (upd H D o) := fun a u e n => ⟨by rw [upd_ne (fun z => n (by rw [Mm_plus]; exact .inr z))]; exact e, n⟩
  refine ⟨⟨G.len, fun i d e => ?_, fun i ds e => ?_, G.inj, fun a ha => ?_, G.dsl, fun p e => ?_, fun a u e n => ?_⟩, mv⟩
  · obtain ⟨v, e1, r⟩ := G.val i d e
    exact ⟨v, e1, r.mv mv⟩
  · obtain ⟨a, xs, e1, e2, r, n⟩ := G.uni i ds e
    exact ⟨a, xs, e1, by rw [upd_ne (fun z => n.1 (.inr z))]; exact e2, r.mv mv, n⟩
  · by_cases hz : a = D
    · rw [hz, upd_same]; exact fun z => nomatch z
    · rw [upd_ne hz]; exact G.m0 a ha
  · obtain ⟨d1, d2, d3⟩ := G.dck p e
    obtain ⟨c1, c2, c3⟩ := G0.dck p e
    exact ⟨d1, d2, d3.ne, by rw [upd_ne (ne_of_none c3.one hD)]; exact d3.one, by rw [upd_ne (ne_of_none c3.two hD)]; exact d3.two⟩
  · have e1 := G0.fr a u e n
    rw [upd_ne (ne_of_none e1 hD)]
    exact G.fr a u e n
/-- back from the block -/
theorem Good.back {K F σ H H1 ρ δ δ1 D vs} (G1 : Good K F σ H1 ρ δ1) (hu : noU ρ vs = true) (hD : H1 D = none) (G : Good K (F.plus D) (L2.wipe σ vs) H (wipeR ρ vs) δ) (mv : Mv (Mm F σ ρ) H1 (Mm F σ ρ) H) : Good K F σ H ρ δ := by
  have an : Mv (Mm (F.plus D) (L2.wipe σ vs) (wipeR ρ vs)) H (Mm F σ ρ) H := fun a o e n => ⟨e, fun z => n (by rw [Mm_wipe hu, Mm_plus]; exact .inl z)⟩
  refine ⟨G1.len, fun i d e => ?_, fun i ds e => ?_, G1.inj, fun a ha => G.m0 a (.inl ha), G1.dsl, fun p e => ?_, G.fr⟩
  · obtain ⟨v, e1, r⟩ := G1.val i d e
    exact ⟨v, e1, r.mv mv⟩
  · have hi : i ∉ vs := fun q => noU_of hu q e
    obtain ⟨a, xs, e1, e2, r, n⟩ := G.uni i ds (by rw [wipeR_get, if_neg hi]; exact e)
    rw [wipe_get, if_neg hi] at e1
    exact ⟨a, xs, e1, e2, r.mv an, fun z => n.1 (.inl z), n.2⟩
  · obtain ⟨_, _, d3⟩ := G.dck p e
    obtain ⟨d1, d2, _⟩ := G1.dck p e
    exact ⟨d1, d2, d3⟩
theorem list_ext {α : Type} {l l' : List α} (h : ∀ i : Nat, l[i]? = l'[i]?) : l = l' := List.ext_getElem? h
theorem Set1.wipes {sl vs σ σ' ρ ρ'} (h : Set1 sl σ σ' ρ ρ') (hs : ∀ i ∈ sl, i ∈ vs) : L2.wipe σ' vs = L2.wipe σ vs ∧ wipeR ρ' vs = wipeR ρ vs := by
  constructor
  · refine list_ext fun i => ?_
    rw [wipe_get, wipe_get, h.ls]
    by_cases hi : i ∈ vs
    · rw [if_pos hi, if_pos hi]
    · rw [if_neg hi, if_neg hi]; exact h.s i fun q => hi (hs i q)
  · refine list_ext fun i => ?_
    rw [wipeR_get, wipeR_get, h.lr]
    by_cases hi : i ∈ vs
    · rw [if_pos hi, if_pos hi]
    · rw [if_neg hi, if_neg hi]; exact h.r i fun q => hi (hs i q)
theorem wipe_wipe (σ : L2.St) (vs) : L2.wipe (L2.wipe σ vs) vs = L2.wipe σ vs := list_ext fun i => by
  rw [wipe_get, wipe_length, wipe_get]
  by_cases hi : i ∈ vs
  · rw [if_pos hi, if_pos hi]
  · rw [if_neg hi, if_neg hi]
theorem wipeR_wipeR (ρ : List Sl) (vs) : wipeR (wipeR ρ vs) vs = wipeR ρ vs := list_ext fun i => by
  rw [wipeR_get, wipeR_length, wipeR_get]
  by_cases hi : i ∈ vs
  · rw [if_pos hi, if_pos hi]
  · rw [if_neg hi, if_neg hi]
theorem noU_wipe (ρ : List Sl) (vs) : noU (wipeR ρ vs) vs = true := List.all_eq_true.mpr fun i hi => by
  rw [wipeR_get, if_pos hi]
  split <;> rename_i h
  · split at h <;> cases h
  · rfl
theorem Set1.noU {sl vs σ σ' ρ ρ'} (h : Set1 sl σ σ' ρ ρ') (hu : PD.noU ρ vs = true) : PD.noU ρ' vs = true := List.all_eq_true.mpr fun i hi => by
  split
  · rename_i ds e
    exact (noU_of hu hi (h.u i _ e).1).elim
  · rfl
/-- the frame with one more object that stays -/
def Fr.pin (F : Fr) (D : Addr) (o : HO) : Fr := { F with H0 := upd F.H0 D o }
theorem Mm_pin {F D o σ ρ} : Mm (F.pin D o) σ ρ = Mm F σ ρ := rfl
theorem Good.pin {K F σ H ρ δ D o} (G : Good K F σ H ρ δ) (hM : F.M0 D) (h : H D = some o) : Good K (F.pin D o) σ H ρ δ := ⟨G.len, G.val, fun i ds e => by
  obtain ⟨a, xs, e1, e2, r, n⟩ := G.uni i ds e
  exact ⟨a, xs, e1, e2, r, n.1, (upd_ne (a := D) (b := a) (fun z => n.1 (by rw [z]; exact hM))).trans n.2⟩, G.inj, G.m0, G.dsl, G.dck, fun a u e n => by
  by_cases hz : a = D
  · subst hz
    have : upd F.H0 a o a = some u := e
    rw [upd_same] at this
    cases this
    exact h
  · have : upd F.H0 D o a = some u := e
    rw [upd_ne hz] at this
    exact G.fr a u this n⟩
theorem Good.unpin {K F σ H ρ δ D o} (h0 : F.H0 D = none) (hM : F.M0 D) (G : Good K (F.pin D o) σ H ρ δ) : Good K F σ H ρ δ := ⟨G.len, G.val, fun i ds e => by
  obtain ⟨a, xs, e1, e2, r, n⟩ := G.uni i ds e
  exact ⟨a, xs, e1, e2, r, n.1, (upd_ne (a := D) (b := a) (fun z => n.1 (by rw [z]; exact hM))).symm.trans n.2⟩, G.inj, G.m0, G.dsl, G.dck, fun a u e n => G.fr a u (by
  show upd F.H0 D o a = some u
  rw [upd_ne (ne_of_none e h0)]
  exact e) n⟩
theorem Good.fresh0 {K F σ H ρ δ D} (G : Good K F σ H ρ δ) (h : H D = none) : F.H0 D = none := by
  cases e : F.H0 D with
  | none => rfl
  | some o =>
    have := G.fr D o e fun p hp => ⟨(ne_of_none (G.dck p hp).2.2.one h).symm, (ne_of_none (G.dck p hp).2.2.two h).symm⟩
    rw [h] at this
    cases this
def compL (g : MG) (tt : MT) (te : ME) (ρ : List Sl) : List D → Dk → Option (List D × Dk)
  | [], δ => some ([], δ)
  | d :: ds, δ => (g d ρ).bind fun ρ2 => (tt ρ2 δ).bind fun p => if p.1 = true then (te ρ2 p.2).bind fun q => (compL g tt te ρ ds q.2).map fun r => (q.1 :: r.1, r.2) else compL g tt te ρ ds p.2
def mLc (mi : MA) (vs : List Nat) (g : MG) (tt : MT) (te : ME) : ME := fun ρ δ => (mi ρ δ).bind fun p => if noU ρ vs = true then (compL g tt te (wipeR ρ vs) p.1 p.2).bind fun q => if q.1.length ≤ sizeLine then some (.list q.1, q.2) else none else none
structure PDTs (X : Cx) (ifs : List Expr) (m : MT) : Prop where
  ex : ∃ t, PTs X ifs t ∧ SndT X.K t m
def mYes : MT := fun _ δ => some (true, δ)
theorem pdts_nil {X : Cx} : PDTs X [] mYes := ⟨_, pts_nil, fun F σ H ρ δ d δ' G e Q q => by cases e; exact q _ G (Mv.refl _ _)⟩
theorem pdts_one {X : Cx} {c : Expr} {m : MT} (h : PDT X c m) : PDTs X [c] m := by
  obtain ⟨t, h1, s1⟩ := h.ex
  exact ⟨_, pts_one h1, s1⟩
theorem snd_lc {K wi g tt te vs mi mg mt me} {sl : List Nat} (hi : ∀ F σ H ρ δ ds δ', Good K F σ H ρ δ → mi ρ δ = some (ds, δ') → ∀ R : It → Hp → Prop, (∀ J H', Good K F σ H' ρ δ' → Mv (Mm F σ ρ) H (Mm F σ ρ) H' → Walks K (Mm F σ ρ) H' J ds → R J H') → wi σ H R)
    (hg : ∀ F σ H ρ δ v d ρ', Good K F σ H ρ δ → Rep K (Mm F σ ρ) H v d → mg d ρ = some ρ' → ∀ Q : L2.St → Hp → Prop, (∀ σ', Good K F σ' H ρ' δ → Mv (Mm F σ ρ) H (Mm F σ' ρ') H → Set1 sl σ σ' ρ ρ' → Q σ' H) → g v σ H Q)
    (ht : SndT K tt mt) (he : Snd K te me) (hs : ∀ i ∈ sl, i ∈ vs) : Snd K (tLc wi g tt te vs) (mLc mi vs mg mt me) := fun F σ H ρ δ d δ' G e Q q => by
  unfold mLc at e
  obtain ⟨⟨ds, δ1⟩, e1, e⟩ := Option.bind_eq_some_iff.mp e
  dsimp only at e
  split at e
  · rename_i hu
    obtain ⟨⟨out, δ2⟩, e2, e⟩ := Option.bind_eq_some_iff.mp e
    dsimp only at e
    split at e
    · rename_i hz
      obtain ⟨rfl, rfl⟩ : PyData.list out = d ∧ δ2 = δ' := by
        have := Option.some.inj e
        exact ⟨congrArg Prod.fst this, congrArg Prod.snd this⟩
      refine hi F σ H ρ δ ds δ1 G e1 _ fun J H1 G1 M1 Wk D hD => ?_
      obtain ⟨xs, rx, wk⟩ := Wk
      have GW := G1.wipe (vs := vs) hu
      obtain ⟨GP, MP⟩ := GW.plus (o := .lst []) hD
      rw [Mm_wipe hu] at MP
      have nDk : ∀ p, F.dk = some p → D ≠ p.1 ∧ D ≠ p.2 := fun p hp => ⟨(ne_of_none (G1.dck p hp).2.2.one hD).symm, (ne_of_none (G1.dck p hp).2.2.two hD).symm⟩
      have hD0 : (F.plus D).H0 D = none := G1.fresh0 hD
      -- the sets that may change
      have eM : Mm (F.plus D) (L2.wipe σ vs) (wipeR ρ vs) = Mm (F.plus D) σ ρ := Mm_wipe hu
      rw [eM] at MP
      refine ⟨fun i m H => m = xs.length - i ∧ i ≤ xs.length ∧ ∃ δ3 done rest acc, Good K (F.plus D) (L2.wipe σ vs) H (wipeR ρ vs) δ3 ∧ Mv (Mm F σ ρ) H1 (Mm (F.plus D) σ ρ) H ∧ H D = some (.lst acc) ∧ Reps K (Mm (F.plus D) σ ρ) H acc done ∧
        compL mg mt me (wipeR ρ vs) (ds.drop i) δ3 = some (rest, δ2) ∧ done ++ rest = out, ⟨_, rfl, Nat.zero_le _, δ1, [], out, [], GP, MP, upd_same, .nil, e2, rfl⟩, ?_⟩
      rintro i m H2 ⟨rfl, hile, δ3, done, rest, acc, G2, M2, hacc, racc, ec, eo⟩
      by_cases hlt : i < xs.length
      · obtain ⟨go, yl⟩ := (wk _ H2 M2 i).1 hlt
        have hld : i < ds.length := by rw [← rx.length]; exact hlt
        rw [List.drop_eq_getElem_cons hld] at ec
        refine .inr ⟨go, fun H' => ∃ δ3 done rest acc, Good K (F.plus D) (L2.wipe σ vs) H' (wipeR ρ vs) δ3 ∧ Mv (Mm F σ ρ) H1 (Mm (F.plus D) σ ρ) H' ∧ H' D = some (.lst acc) ∧ Reps K (Mm (F.plus D) σ ρ) H' acc done ∧
          compL mg mt me (wipeR ρ vs) (ds.drop (i + 1)) δ3 = some (rest, δ2) ∧ done ++ rest = out, fun H' h => ⟨xs.length - (i + 1), by omega, rfl, hlt, h⟩, fun x H3 hy => ?_⟩
        obtain ⟨rfl, ex⟩ := yl x H3 hy
        obtain ⟨dx, edx, rdx⟩ := (rx.mv M2).get ex
        rw [List.getElem?_eq_getElem hld] at edx
        cases edx
        unfold compL at ec
        obtain ⟨ρ2, f1, ec⟩ := Option.bind_eq_some_iff.mp ec
        obtain ⟨⟨b, δ4⟩, f2, ec⟩ := Option.bind_eq_some_iff.mp ec
        dsimp only at ec
        refine hg ((F.plus D).pin D (.lst acc)) (L2.wipe σ vs) H3 (wipeR ρ vs) δ3 x _ ρ2 (G2.pin (.inr rfl) hacc) (by rw [Mm_pin, eM]; exact rdx) f1 _ fun σ2 G3 M3 T3 => ?_
        obtain ⟨w1, w2⟩ := T3.wipes hs
        rw [wipe_wipe] at w1
        rw [wipeR_wipeR] at w2
        have hu2 : noU ρ2 vs = true := T3.noU (noU_wipe ρ vs)
        have eM2 : Mm (F.plus D) σ2 ρ2 = Mm (F.plus D) σ ρ := by
          rw [← Mm_wipe hu2, w1, w2, eM]
        rw [Mm_pin, Mm_pin, eM2, eM] at M3
        refine ⟨w1, ht ((F.plus D).pin D (.lst acc)) σ2 H3 ρ2 δ3 b δ4 G3 f2 _ fun H4 G4 M4 => ?_⟩
        rw [Mm_pin, eM2] at M4
        cases b with
        | false =>
          refine iteF ?_
          rw [if_neg Bool.false_ne_true] at ec
          have GB := (Good.unpin hD0 (.inr rfl) G4).wipe hu2
          rw [w1, w2] at GB
          exact ⟨δ4, done, rest, acc, GB, M2.trans M4, G4.fr D _ upd_same nDk, racc.mv M4, ec, eo⟩
        | true =>
          refine iteT ?_
          rw [if_pos rfl] at ec
          obtain ⟨⟨y, δ5⟩, f3, ec⟩ := Option.bind_eq_some_iff.mp ec
          obtain ⟨⟨more, δ6⟩, f4, ec⟩ := Option.map_eq_some_iff.mp ec
          cases ec
          refine he ((F.plus D).pin D (.lst acc)) σ2 H4 ρ2 δ4 y δ5 G4 f3 _ fun v H5 G5 M5 R5 => ?_
          rw [Mm_pin, eM2] at M5 R5
          have hD5 := G5.fr D _ upd_same nDk
          have GB := (Good.unpin hD0 (.inr rfl) G5).wipe hu2
          rw [w1, w2] at GB
          obtain ⟨GC, MC⟩ := GB.write ⟨_, _, _, G1⟩ hD (o := .lst (acc ++ [v]))
          rw [eM] at MC
          refine ⟨acc, hD5, ?_, δ5, done ++ [y], more, acc ++ [v], GC, ((M2.trans M4).trans M5).trans MC, upd_same, ((racc.mv (M4.trans M5)).append (.cons R5 .nil)).mv MC, f4, by rw [← eo]; simp⟩
          have : out.length = done.length + (more.length + 1) := by rw [← eo]; simp
          rw [racc.length]
          omega
      · have hi' : i = xs.length := by omega
        subst hi'
        refine .inl ⟨(wk _ H2 M2 xs.length).2 (Nat.le_refl _), ?_⟩
        rw [List.drop_of_length_le (by rw [rx.length]; exact Nat.le_refl _)] at ec
        cases ec
        rw [List.append_nil] at eo
        subst eo
        have an : Mv (Mm (F.plus D) σ ρ) H2 (Mm F σ ρ) H2 := fun a o e n => ⟨e, fun z => n (by rw [Mm_plus]; exact .inl z)⟩
        have M3 := M2.trans an
        exact q _ _ (G1.back hu hD G2 M3) (M1.trans M3) (.lst ⟨G1.mfree hD, hacc⟩ (racc.mv an))
    · cases e
  · cases e
end PD

namespace PD
open PySem PySem.Spec PyProof.Rows L2
section
variable {X : Cx} {elt tg iter : Expr} {ifs : List Expr} {scope : Scope} {own : List (Str × Nat)} {pos : Pos} {mi : MA} {mg : MG} {mt : MT} {me : ME} {sl : List Nat}
structure Blk (X : Cx) (scope : Scope) (own : List (Str × Nat)) (tg : Expr) (ifs : List Expr) (elt : Expr) (sl : List Nat) (mg : MG) (mt : MT) (me : ME) : Prop where
  g : ∀ (s : Shared) (H : Hp) (C : Addr) (cl : List (Str × Addr)) (fp : List Addr), PDG (X.blk s H scope (compEnvC scope cl C X.env) fp) tg sl mg
  t : ∀ (s : Shared) (H : Hp) (C : Addr) (cl : List (Str × Addr)) (fp : List Addr), PDTs (X.blk s H scope (compEnvC scope cl C X.env) fp) ifs mt
  e : ∀ (s : Shared) (H : Hp) (C : Addr) (cl : List (Str × Addr)) (fp : List Addr), PD (X.blk s H scope (compEnvC scope cl C X.env) fp) elt me
  o : ∀ i ∈ sl, i ∈ own.map (·.2)
theorem Blk.all (B : Blk X scope own tg ifs elt sl mg mt me) : ∃ (g : TG) (tt : TT) (te : TE),
    (∀ (s : Shared) (H : Hp) (C : Addr) (cl : List (Str × Addr)) (fp : List Addr), PG (X.blk s H scope (compEnvC scope cl C X.env) fp) tg g) ∧ (∀ (s : Shared) (H : Hp) (C : Addr) (cl : List (Str × Addr)) (fp : List Addr), PTs (X.blk s H scope (compEnvC scope cl C X.env) fp) ifs tt) ∧
    (∀ (s : Shared) (H : Hp) (C : Addr) (cl : List (Str × Addr)) (fp : List Addr), PE (X.blk s H scope (compEnvC scope cl C X.env) fp) elt te) ∧
    (∀ F σ H ρ δ v d ρ', Good X.K F σ H ρ δ → Rep X.K (Mm F σ ρ) H v d → mg d ρ = some ρ' → ∀ Q : L2.St → Hp → Prop, (∀ σ', Good X.K F σ' H ρ' δ → Mv (Mm F σ ρ) H (Mm F σ' ρ') H → Set1 sl σ σ' ρ ρ' → Q σ' H) → g v σ H Q) ∧
    SndT X.K tt mt ∧ Snd X.K te me := by
  refine ⟨fun v σ H Q => ∀ s h C cl fp, (B.g s h C cl fp).ex.choose v σ H Q, fun σ H Q => ∀ s h C cl fp, (B.t s h C cl fp).ex.choose σ H Q, fun σ H Q => ∀ s h C cl fp, (B.e s h C cl fp).ex.choose σ H Q,
    fun s h C cl fp => ⟨fun pins s' σ H v u Q I r q => (B.g s h C cl fp).ex.choose_spec.1.run pins s' σ H v u Q I r (q s h C cl fp)⟩,
    fun s h C cl fp => ⟨fun pins s' σ H Q I q => (B.t s h C cl fp).ex.choose_spec.1.run pins s' σ H Q I (q s h C cl fp)⟩,
    fun s h C cl fp => ⟨fun pins s' σ H Q I q => (B.e s h C cl fp).ex.choose_spec.1.run pins s' σ H Q I (q s h C cl fp)⟩,
    fun F σ H ρ δ v d ρ' G r e Q q s h C cl fp => (B.g s h C cl fp).ex.choose_spec.2 F σ H ρ δ v d ρ' G r e Q q,
    fun F σ H ρ δ d δ' G e Q q s h C cl fp => (B.t s h C cl fp).ex.choose_spec.2 F σ H ρ δ d δ' G e Q q,
    fun F σ H ρ δ d δ' G e Q q s h C cl fp => (B.e s h C cl fp).ex.choose_spec.2 F σ H ρ δ d δ' G e Q q⟩
theorem pd_lc (hc : X.calm = true) (hN : X.N.Nodup) (hi : PDI X tg iter mi) (ok : BlkOk X.N X.env.scope scope own) (B : Blk X scope own tg ifs elt sl mg mt me) (hs : ∀ x, foldedSetIterable iter X.env x = pure x := by intro _; rfl) :
    PD X (.ListComp elt [⟨tg, iter, ifs, 0⟩] scope pos) (mLc mi (own.map (·.2)) mg mt me) := by
  obtain ⟨wi, h1, s1⟩ := hi.ex
  obtain ⟨g, tt, te, p1, p2, p3, s2, s3, s4⟩ := B.all
  exact ⟨_, pe_lc hc hN h1 ok p1 p2 p3 hs, snd_lc s1 s2 s3 s4 B.o⟩
end

/-! ### statements -/
inductive Fl where
  | nx | rt (d : D) | bk | ct
abbrev MS := List Sl → Dk → Option (Fl × List Sl × Dk)
def Post (K : PySem.W.Frag) (F : Fr) (D : Ends) (fl : Fl) (σ : L2.St) (H : Hp) (ρ : List Sl) : Prop := match fl with
  | .nx => D.nx σ H
  | .bk => D.bk σ H
  | .ct => D.ct σ H
  | .rt d => ∀ v, Rep K (Mm F σ ρ) H v d → D.rt v H
def SndS (K : PySem.W.Frag) (t : TS) (m : MS) : Prop := ∀ F σ H ρ δ fl ρ' δ', Good K F σ H ρ δ → m ρ δ = some (fl, ρ', δ') → ∀ D : Ends,
  (∀ σ' H', Good K F σ' H' ρ' δ' → Mv (Mm F σ ρ) H (Mm F σ' ρ') H' → match fl with
    | .nx => D.nx σ' H'
    | .bk => D.bk σ' H'
    | .ct => D.ct σ' H'
    | .rt d => ∀ v, Rep K (Mm F σ' ρ') H' v d → D.rt v H') → t D σ H
structure PDS (X : Cx) (st : Stmt) (m : MS) : Prop where
  ex : ∃ t, PS X st t ∧ SndS X.K t m
structure PDSs (X : Cx) (sts : List Stmt) (m : MS) : Prop where
  ex : ∃ t, PSs X sts t ∧ SndS X.K t m
def sNext : MS := fun ρ δ => some (.nx, ρ, δ)
def sSeq (a b : MS) : MS := fun ρ δ => (a ρ δ).bind fun p => match p.1 with
  | .nx => b p.2.1 p.2.2
  | f => some (f, p.2)
theorem snd_next {K} : SndS K tNext sNext := fun F σ H ρ δ fl ρ' δ' G e D q => by
  cases e
  exact q σ H G (Mv.refl _ _)
theorem snd_seq {K t u a b} (h : SndS K t a) (g : SndS K u b) : SndS K (tSeq t u) (sSeq a b) := fun F σ H ρ δ fl ρ' δ' G e D q => by
  unfold sSeq at e
  obtain ⟨⟨f, ρ1, δ1⟩, e1, e⟩ := Option.bind_eq_some_iff.mp e
  cases f with
  | nx => exact h F σ H ρ δ .nx ρ1 δ1 G e1 _ fun σ1 H1 G1 M1 => g F σ1 H1 ρ1 δ1 fl ρ' δ' G1 e D fun σ2 H2 G2 M2 => q σ2 H2 G2 (M1.trans M2)
  | bk => cases e; exact h F σ H ρ δ _ _ _ G e1 _ fun σ1 H1 G1 M1 => q σ1 H1 G1 M1
  | ct => cases e; exact h F σ H ρ δ _ _ _ G e1 _ fun σ1 H1 G1 M1 => q σ1 H1 G1 M1
  | rt d => cases e; exact h F σ H ρ δ _ _ _ G e1 _ fun σ1 H1 G1 M1 => q σ1 H1 G1 M1
section
variable {X : Cx} {st : Stmt} {rest : List Stmt} {m m' : MS} {a b c e tg : Expr} {ma mb : ME} {nc : MT} {pos : Pos} {sl : List Nat} {mg : MG}
theorem pdss_nil : PDSs X [] sNext := ⟨_, pss_nil, snd_next⟩
theorem pdss_cons (h1 : PDS X st m) (h2 : PDSs X rest m') : PDSs X (st :: rest) (sSeq m m') := by
  obtain ⟨t, p1, s1⟩ := h1.ex
  obtain ⟨u, p2, s2⟩ := h2.ex
  exact ⟨_, pss_cons p1 p2, snd_seq s1 s2⟩
theorem pdss_one (h1 : PDS X st m) : PDSs X [st] m := by
  obtain ⟨t, p1, s1⟩ := h1.ex
  exact ⟨_, pss_one p1, s1⟩
/-- a list that grew, from now on as it is -/
def sFrz (i : Nat) (s : MS) : MS := fun ρ δ => match ρ[i]? with
  | some (.uni ds) => s (ρ.set i (.val (.list ds))) δ
  | _ => none
theorem snd_frz {K t s} (i : Nat) (h : SndS K t s) : SndS K t (sFrz i s) := fun F σ H ρ δ fl ρ' δ' G e D q => by
  unfold sFrz at e
  split at e
  · rename_i ds hi
    obtain ⟨a, xs, e1, e2, r, n⟩ := G.uni i ds hi
    have hl : i < ρ.length := by
      rcases Nat.lt_or_ge i ρ.length with h | h
      · exact h
      · rw [List.getElem?_eq_none h] at hi; cases hi
    have hset : σ.set i (some (.ref a)) = σ := by
      refine list_ext fun j => ?_
      by_cases hj : i = j
      · subst hj; rw [List.getElem?_set_self (by rw [G.len]; exact hl), e1]
      · rw [List.getElem?_set_ne hj]
    have hM : ∀ b, Mm F σ (ρ.set i (.val (.list ds))) b → Mm F σ ρ b ∧ b ≠ a := fun b z => by
      rcases z with z | ⟨j, es, f1, f2⟩
      · exact ⟨.inl z, fun y => n.1 (y ▸ z)⟩
      · by_cases hj : i = j
        · subst hj; rw [List.getElem?_set_self hl] at f1; cases f1
        · rw [List.getElem?_set_ne hj] at f1
          exact ⟨.inr ⟨j, es, f1, f2⟩, fun y => by subst y; exact hj (G.inj i j ds es b hi f1 e1 f2)⟩
    have mv : Mv (Mm F σ ρ) H (Mm F σ (ρ.set i (.val (.list ds)))) H := fun b o f g => ⟨f, fun z => g (hM b z).1⟩
    have un : ∀ (j : Nat) es, (ρ.set i (.val (.list ds)))[j]? = some (.uni es) → ρ[j]? = some (.uni es) := fun j es f => by
      by_cases hj : i = j
      · subst hj; rw [List.getElem?_set_self hl] at f; cases f
      · rw [List.getElem?_set_ne hj] at f; exact f
    have G1 : Good K F σ H (ρ.set i (.val (.list ds))) δ := by
      refine ⟨by rw [List.length_set]; exact G.len, fun j d f => ?_, fun j es f => ?_, fun j k es fs b f1 f2 f3 f4 => G.inj j k es fs b (un j es f1) (un k fs f2) f3 f4, G.m0, fun j f => ?_, G.dck, G.fr⟩
      · by_cases hj : i = j
        · subst hj
          rw [List.getElem?_set_self hl] at f
          cases f
          exact ⟨_, e1, .lst ⟨fun z => (hM a z).2 rfl, e2⟩ (r.mv mv)⟩
        · rw [List.getElem?_set_ne hj] at f
          obtain ⟨v, g1, g2⟩ := G.val j d f
          exact ⟨v, g1, g2.mv mv⟩
      · obtain ⟨b, ys, g1, g2, g3, g4⟩ := G.uni j es (un j es f)
        exact ⟨b, ys, g1, g2, g3.mv mv, g4⟩
      · by_cases hj : i = j
        · subst hj; rw [List.getElem?_set_self hl] at f; cases f
        · rw [List.getElem?_set_ne hj] at f
          exact G.dsl j f
    exact h F σ H _ δ fl ρ' δ' G1 e D fun σ1 H1 G2 M2 => q σ1 H1 G2 (mv.trans M2)
  · cases e
theorem pdss_frz (i : Nat) (h : PDSs X rest m) : PDSs X rest (sFrz i m) := by
  obtain ⟨t, p1, s1⟩ := h.ex
  exact ⟨_, p1, snd_frz i s1⟩
theorem pds_frz (i : Nat) (h : PDS X st m) : PDS X st (sFrz i m) := by
  obtain ⟨t, p1, s1⟩ := h.ex
  exact ⟨_, p1, snd_frz i s1⟩
def sAsg (me : ME) (g : MG) : MS := fun ρ δ => (me ρ δ).bind fun p => (g p.1 ρ).map fun ρ1 => (.nx, ρ1, p.2)
theorem snd_asg {K te g m mg} {sl : List Nat} (h : Snd K te m) (hg : ∀ F σ H ρ δ v d ρ', Good K F σ H ρ δ → Rep K (Mm F σ ρ) H v d → mg d ρ = some ρ' → ∀ Q : L2.St → Hp → Prop, (∀ σ', Good K F σ' H ρ' δ → Mv (Mm F σ ρ) H (Mm F σ' ρ') H → Set1 sl σ σ' ρ ρ' → Q σ' H) → g v σ H Q) : SndS K (tAsg te g) (sAsg m mg) := fun F σ H ρ δ fl ρ' δ' G e D q => by
  obtain ⟨⟨x, δ1⟩, e1, e⟩ := Option.bind_eq_some_iff.mp e
  obtain ⟨ρ1, e2, e⟩ := Option.map_eq_some_iff.mp e
  cases e
  exact h F σ H ρ δ x _ G e1 _ fun v H1 G1 M1 R1 => hg F σ H1 ρ _ v x _ G1 R1 e2 _ fun σ2 G2 M2 _ => q σ2 H1 G2 (M1.trans M2)
theorem pds_asg (he : PD X e ma) (hg : PDG X tg sl mg) (hs : swapsWithSole [tg] e pos.line X.env = pure false := by rfl) (hw : swappedStores [tg] e X.env = pure none := by rfl) (h1 : (assignEach [tg] X.env).map (·.2) = [assign tg X.env] := by rfl) : PDS X (.Assign [tg] e pos) (sAsg ma mg) := by
  obtain ⟨t, p1, s1⟩ := he.ex
  obtain ⟨g, p2, s2⟩ := hg.ex
  exact ⟨_, ps_asg p1 p2 hs hw h1, snd_asg s1 s2⟩
theorem pg_set {K} (i : Nat) : ∀ F σ H ρ δ v d ρ', Good K F σ H ρ δ → Rep K (Mm F σ ρ) H v d → gSet i d ρ = some ρ' → ∀ Q : L2.St → Hp → Prop, (∀ σ', Good K F σ' H ρ' δ → Mv (Mm F σ ρ) H (Mm F σ' ρ') H → Set1 [i] σ σ' ρ ρ' → Q σ' H) → gName i v σ H Q := fun F σ H ρ δ v d ρ' G r e Q q => by
  cases e
  exact q _ (G.set i r).1 (G.set i r).2 (Set1.set i)
theorem pds_set (i : Nat) {x : Str} {pos' : Pos} (hN : X.N.Nodup) (he : PD X e ma) (hi : X.N[i]? = some x := by rfl) (hx : Loc X.env.scope x := by first | exact Or.inl rfl | exact Or.inr rfl) (hs : swapsWith e (some (.Name x pos')) pos.line X.env = pure false := by rfl) (hf : X.fn x = true ∨ X.env.scope.names.lookup x = some .local := by first | exact .inl rfl | exact .inr rfl | assumption) : PDS X (.Assign [.Name x pos'] e pos) (sAsg ma (gSet i)) := by
  obtain ⟨t, p1, s1⟩ := he.ex
  exact ⟨_, ps_set hN hi hx p1 hs hf, snd_asg s1 (pg_set i)⟩
theorem pds_setLc (i : Nat) {y : Str} {py spos : Pos} {elt iter : Expr} {ifs : List Expr} {scope : Scope} {own : List (Str × Nat)} {mi : MA} {mt : MT} (hc : X.calm = true) (hN : X.N.Nodup) (hi : PDI X tg iter mi) (ok : BlkOk X.N X.env.scope scope own) (B : Blk X scope own tg ifs elt sl mg mt ma)
    (hsw : swapsWith (.ListComp elt [⟨tg, iter, ifs, 0⟩] scope pos) (some (.Name y py)) spos.line X.env = pure true) (hy : X.N[i]? = some y := by rfl) (hyl : X.env.scope.names.lookup y = some .local := by rfl)  (hs : ∀ x, foldedSetIterable iter X.env x = pure x := by intro _; rfl) :
    PDS X (.Assign [.Name y py] (.ListComp elt [⟨tg, iter, ifs, 0⟩] scope pos) spos) (sAsg (mLc mi (own.map (·.2)) mg mt ma) (gSet i)) := by
  obtain ⟨wi, h1, s1⟩ := hi.ex
  obtain ⟨g, tt, te, p1, p2, p3, s2, s3, s4⟩ := B.all
  exact ⟨_, ps_setLc hc hN hy hyl hsw h1 ok p1 p2 p3 hs, snd_asg (snd_lc s1 s2 s3 s4 B.o) (pg_set i)⟩
def sDrop (m : ME) : MS := fun ρ δ => (m ρ δ).map fun p => (.nx, ρ, p.2)
def sRet (m : ME) : MS := fun ρ δ => (m ρ δ).map fun p => (.rt p.1, ρ, p.2)
theorem pds_ret (he : PD X e ma) : PDS X (.Return (some e) pos) (sRet ma) := by
  obtain ⟨t, p1, s1⟩ := he.ex
  refine ⟨_, ps_ret p1, fun F σ H ρ δ fl ρ' δ' G e D q => ?_⟩
  obtain ⟨⟨x, δ1⟩, e1, e⟩ := Option.map_eq_some_iff.mp e
  cases e
  exact s1 F σ H ρ δ x _ G e1 _ fun v H1 G1 M1 R1 => q σ H1 G1 M1 v R1
def sIf (c : MT) (a b : MS) : MS := fun ρ δ => (c ρ δ).bind fun p => if p.1 = true then a ρ p.2 else b ρ p.2
theorem pds_if {x y : List Stmt} (hc : PDT X c nc) (ha : PDSs X x m) (hb : PDSs X y m') : PDS X (.If c x y pos) (sIf nc m m') := by
  obtain ⟨t, p0, s0⟩ := hc.ex
  obtain ⟨u, p1, s1⟩ := ha.ex
  obtain ⟨w, p2, s2⟩ := hb.ex
  refine ⟨_, ps_if p0 p1 p2, fun F σ H ρ δ fl ρ' δ' G e D q => ?_⟩
  obtain ⟨⟨x, δ1⟩, e1, e⟩ := Option.bind_eq_some_iff.mp e
  refine s0 F σ H ρ δ x δ1 G e1 _ fun H1 G1 M1 => ?_
  cases x with
  | true => exact iteT (s1 F σ H1 ρ δ1 fl ρ' δ' G1 e D fun σ2 H2 G2 M2 => q σ2 H2 G2 (M1.trans M2))
  | false => exact iteF (s2 F σ H1 ρ δ1 fl ρ' δ' G1 e D fun σ2 H2 G2 M2 => q σ2 H2 G2 (M1.trans M2))
theorem pds_pass : PDS X (.Pass pos) sNext := ⟨_, ps_pass, snd_next⟩
def sBrk : MS := fun ρ δ => some (.bk, ρ, δ)
def sCnt : MS := fun ρ δ => some (.ct, ρ, δ)
theorem pds_brk : PDS X (.Break pos) sBrk := ⟨_, ps_break, fun F σ H ρ δ fl ρ' δ' G e D q => by cases e; exact q σ H G (Mv.refl _ _)⟩
theorem pds_cnt : PDS X (.Continue pos) sCnt := ⟨_, ps_continue, fun F σ H ρ δ fl ρ' δ' G e D q => by cases e; exact q σ H G (Mv.refl _ _)⟩
/-- x op= e on ints and texts -/
structure AugS (X : Cx) (op : Operator) (f : D → D → Option D) : Prop where
  ex : ∃ r : TIp, PIp X op r ∧ OpS X.K r f
theorem as_add : AugS X .Add (onI (fun _ _ => true) fun i j => .int (i + j)) := ⟨_, iop_add, ops_I0 fun _ _ _ _ => .int _⟩
theorem as_sub : AugS X .Sub (onI (fun _ _ => true) fun i j => .int (i - j)) := ⟨_, iop_sub, ops_I0 fun _ _ _ _ => .int _⟩
theorem as_mul : AugS X .Mult mulI := ⟨_, iop_mul, ops_I (fun _ _ h => mulOk_of h) fun _ _ _ _ => .int _⟩
def sAug (i : Nat) (f : D → D → Option D) (m : ME) : MS := fun ρ δ => match ρ[i]? with
  | some (.val x) => (m ρ δ).bind fun p => (f x p.1).map fun z => (.nx, ρ.set i (.val z), p.2)
  | _ => none
theorem pds_aug (i : Nat) {x : Str} {op : Operator} {f : D → D → Option D} {pos' : Pos} (hN : X.N.Nodup) (ho : AugS X op f) (he : PD X e ma) (hi : X.N[i]? = some x := by rfl) (hx : Loc X.env.scope x := by first | exact Or.inl rfl | exact Or.inr rfl) (hf : X.fn x = true ∨ X.env.scope.names.lookup x = some .local := by first | exact .inl rfl | exact .inr rfl | assumption) :
    PDS X (.AugAssign (.Name x pos') op e pos) (sAug i f ma) := by
  obtain ⟨r, o1, o2⟩ := ho.ex
  obtain ⟨t, p1, s1⟩ := he.ex
  refine ⟨_, ps_aug hN hi hx p1 o1 hf, fun F σ H ρ δ fl ρ' δ' G e D q => ?_⟩
  unfold sAug at e
  split at e
  · rename_i d hd
    obtain ⟨⟨y, δ1⟩, e1, e⟩ := Option.bind_eq_some_iff.mp e
    obtain ⟨z, e2, e⟩ := Option.map_eq_some_iff.mp e
    cases e
    obtain ⟨v, g1, g2⟩ := G.val i d hd
    refine ⟨v, g1, s1 F σ H ρ δ y _ G e1 _ fun u H1 G1 M1 R1 => ?_⟩
    refine o2 F σ H1 ρ _ v u d y z G1 (g2.mv M1) R1 e2 _ fun w H2 k R2 => ?_
    obtain ⟨G3, M3⟩ := (G1.keep k).set i R2
    exact q _ _ G3 ((M1.trans (Mv.same k)).trans M3)
  · cases e
end
end PD

namespace PD
open PySem PySem.Spec PyProof.Rows L2

/-! ### a list that grows -/
theorem get_set_self {α : Type} {l : List α} {i : Nat} {x y : α} (h : (l.set i x)[i]? = some y) : x = y := by
  by_cases hl : i < l.length
  · rw [List.getElem?_set_self hl] at h; exact Option.some.inj h
  · rw [List.getElem?_eq_none (by simpa using hl)] at h; cases h
theorem Good.uniNew {K F σ H ρ δ p vs ds} (G : Good K F σ H ρ δ) (i : Nat) (hi : i < ρ.length) (hp : H p = none) (r : Reps K (Mm F σ ρ) H vs ds) :
    Good K F (σ.set i (some (.ref p))) (upd H p (.lst vs)) (ρ.set i (.uni ds)) δ ∧ Mv (Mm F σ ρ) H (Mm F (σ.set i (some (.ref p))) (ρ.set i (.uni ds))) (upd H p (.lst vs)) := by
  have hiσ : i < σ.length := by rw [G.len]; exact hi
  have un : ∀ (j : Nat) es, i ≠ j → (ρ.set i (.uni ds))[j]? = some (.uni es) → ρ[j]? = some (.uni es) := fun j es hj e => by
    rw [List.getElem?_set_ne hj] at e; exact e
  have hM : ∀ a, Mm F (σ.set i (some (.ref p))) (ρ.set i (.uni ds)) a → Mm F σ ρ a ∨ a = p := fun a z => by
    rcases z with z | ⟨j, es, e1, e2⟩
    · exact .inl (.inl z)
    · by_cases hj : i = j
      · subst hj
        have := get_set_self e2
        cases this
        exact .inr rfl
      · rw [List.getElem?_set_ne hj] at e1 e2
        exact .inl (.inr ⟨j, es, e1, e2⟩)
  have mv : Mv (Mm F σ ρ) H (Mm F (σ.set i (some (.ref p))) (ρ.set i (.uni ds))) (upd H p (.lst vs)) := fun a o e n => ⟨upd_keeps hp a o e, fun z => (hM a z).elim n (ne_of_none e hp)⟩
  refine ⟨⟨by rw [List.length_set, List.length_set]; exact G.len, fun j d e => ?_, fun j es e => ?_, fun j k es fs a e1 e2 e3 e4 => ?_, fun a ha => ?_, fun j e => ?_, fun q e => ?_, fun a o e n => upd_keeps hp _ _ (G.fr a o e n)⟩, mv⟩
  · by_cases hj : i = j
    · subst hj; rw [List.getElem?_set_self hi] at e; cases e
    · rw [List.getElem?_set_ne hj] at e ⊢
      obtain ⟨v, e1, r1⟩ := G.val j d e
      exact ⟨v, e1, r1.mv mv⟩
  · by_cases hj : i = j
    · subst hj
      rw [List.getElem?_set_self hi] at e
      cases e
      exact ⟨p, vs, List.getElem?_set_self hiσ, upd_same, r.mv mv, fun z => G.m0 p z hp, G.fresh0 hp⟩
    · rw [List.getElem?_set_ne hj] at e ⊢
      obtain ⟨a, xs, e1, e2, r1, n⟩ := G.uni j es e
      exact ⟨a, xs, e1, upd_keeps hp _ _ e2, r1.mv mv, n⟩
  · by_cases hj : i = j
    · by_cases hk : i = k
      · exact hj.symm.trans hk
      · subst hj
        have z := get_set_self e3
        cases z
        rw [List.getElem?_set_ne hk] at e2 e4
        obtain ⟨b, xs, f1, f2, _⟩ := G.uni k fs e2
        rw [e4] at f1; cases f1
        rw [hp] at f2; cases f2
    · by_cases hk : i = k
      · subst hk
        have z := get_set_self e4
        cases z
        rw [List.getElem?_set_ne hj] at e1 e3
        obtain ⟨b, xs, f1, f2, _⟩ := G.uni j es e1
        rw [e3] at f1; cases f1
        rw [hp] at f2; cases f2
      · rw [List.getElem?_set_ne hj] at e1 e3
        rw [List.getElem?_set_ne hk] at e2 e4
        exact G.inj j k es fs a e1 e2 e3 e4
  · cases e : H a with
    | none => exact absurd e (G.m0 a ha)
    | some o => rw [upd_keeps hp a o e]; exact fun z => nomatch z
  · by_cases hj : i = j
    · subst hj; rw [List.getElem?_set_self hi] at e; cases e
    · rw [List.getElem?_set_ne hj] at e ⊢
      exact G.dsl j e
  · obtain ⟨d1, d2, d3⟩ := G.dck q e
    exact ⟨d1, d2, d3.ne, upd_keeps hp _ _ d3.one, upd_keeps hp _ _ d3.two⟩
theorem Good.uniWrite {K F σ H ρ δ a ys ds es} (G : Good K F σ H ρ δ) (i : Nat) (hi : ρ[i]? = some (.uni ds)) (ha : σ[i]? = some (some (.ref a))) (r : Reps K (Mm F σ ρ) H ys es) :
    Good K F σ (upd H a (.lst ys)) (ρ.set i (.uni es)) δ ∧ Mv (Mm F σ ρ) H (Mm F σ (ρ.set i (.uni es))) (upd H a (.lst ys)) := by
  have hl : i < ρ.length := by
    rcases Nat.lt_or_ge i ρ.length with h | h
    · exact h
    · rw [List.getElem?_eq_none h] at hi; cases hi
  have eM : Mm F σ (ρ.set i (.uni es)) = Mm F σ ρ := by
    funext b
    refine propext ⟨fun z => ?_, fun z => ?_⟩
    · rcases z with z | ⟨j, fs, e1, e2⟩
      · exact .inl z
      · by_cases hj : i = j
        · subst hj; exact .inr ⟨i, ds, hi, e2⟩
        · rw [List.getElem?_set_ne hj] at e1; exact .inr ⟨j, fs, e1, e2⟩
    · rcases z with z | ⟨j, fs, e1, e2⟩
      · exact .inl z
      · by_cases hj : i = j
        · subst hj; exact .inr ⟨i, es, List.getElem?_set_self hl, e2⟩
        · exact .inr ⟨j, fs, by rw [List.getElem?_set_ne hj]; exact e1, e2⟩
  rw [eM]
  have mv : Mv (Mm F σ ρ) H (Mm F σ ρ) (upd H a (.lst ys)) := fun b o e n => ⟨by rw [upd_ne (fun z => n (.inr ⟨i, ds, hi, by rw [z]; exact ha⟩))]; exact e, n⟩
  obtain ⟨a', xs', f1, f2, f3, n0, n1⟩ := G.uni i ds hi
  rw [ha] at f1
  cases f1
  refine ⟨⟨by rw [List.length_set]; exact G.len, fun j d e => ?_, fun j fs e => ?_, fun j k fs gs b e1 e2 e3 e4 => ?_, fun b hb => ?_, fun j e => ?_, fun q e => ?_, fun b o e n => ?_⟩, mv⟩
  · rw [eM]
    by_cases hj : i = j
    · subst hj; rw [List.getElem?_set_self hl] at e; cases e
    · rw [List.getElem?_set_ne hj] at e
      obtain ⟨v, e1, r1⟩ := G.val j d e
      exact ⟨v, e1, r1.mv mv⟩
  · rw [eM]
    by_cases hj : i = j
    · subst hj
      rw [List.getElem?_set_self hl] at e
      cases e
      exact ⟨a, ys, ha, upd_same, r.mv mv, n0, n1⟩
    · rw [List.getElem?_set_ne hj] at e
      obtain ⟨b, zs, e1, e2, r1, n⟩ := G.uni j fs e
      exact ⟨b, zs, e1, by rw [upd_ne (fun z => hj (G.inj i j ds fs a hi e ha (by rw [← z]; exact e1)))]; exact e2, r1.mv mv, n⟩
  · have g : ∀ (j : Nat) fs, (ρ.set i (.uni es))[j]? = some (.uni fs) → ∃ gs, ρ[j]? = some (.uni gs) := fun j fs e => by
      by_cases hj : i = j
      · subst hj; exact ⟨ds, hi⟩
      · rw [List.getElem?_set_ne hj] at e; exact ⟨fs, e⟩
    obtain ⟨fs', e1⟩ := g j fs e1
    obtain ⟨gs', e2⟩ := g k gs e2
    exact G.inj j k fs' gs' b e1 e2 e3 e4
  · by_cases hz : b = a
    · rw [hz, upd_same]; exact fun z => nomatch z
    · rw [upd_ne hz]; exact G.m0 b hb
  · by_cases hj : i = j
    · subst hj; rw [List.getElem?_set_self hl] at e; cases e
    · rw [List.getElem?_set_ne hj] at e
      exact G.dsl j e
  · obtain ⟨d1, d2, d3⟩ := G.dck q e
    exact ⟨d1, d2, d3.ne, by rw [upd_ne (fun z => n0 (by rw [← z]; exact d1))]; exact d3.one, by rw [upd_ne (fun z => n0 (by rw [← z]; exact d2))]; exact d3.two⟩
  · rw [upd_ne (fun z => by rw [z, n1] at e; cases e)]
    exact G.fr b o e n
section
variable {X : Cx} {st : Stmt} {rest : List Stmt} {m m' : MS} {a b c e tg iter : Expr} {es : List Expr} {ma mb : ME} {mr mi : MA} {nc : MT} {pos : Pos} {sl : List Nat} {mg : MG}
def sUni (i : Nat) (r : MA) : MS := fun ρ δ => (r ρ δ).bind fun p => if p.1.length ≤ sizeLine ∧ i < ρ.length then some (.nx, ρ.set i (.uni p.1), p.2) else none
theorem pds_uni (i : Nat) {x : Str} {pos' p2 : Pos} (hN : X.N.Nodup) (he : PDA X es mr) (hi : X.N[i]? = some x := by rfl) (hx : Loc X.env.scope x := by first | exact Or.inl rfl | exact Or.inr rfl) (hs : swapsWith (.List es p2) (some (.Name x pos')) pos.line X.env = pure false := by rfl) (hf : X.fn x = true ∨ X.env.scope.names.lookup x = some .local := by first | exact .inl rfl | exact .inr rfl | assumption) :
    PDS X (.Assign [.Name x pos'] (.List es p2) pos) (sUni i mr) := by
  obtain ⟨t, p1, s1⟩ := he.ex
  refine ⟨_, ps_set hN hi hx (pe_lst p1) hs hf, fun F σ H ρ δ fl ρ' δ' G e D q => ?_⟩
  obtain ⟨⟨ds, δ1⟩, e1, e⟩ := Option.bind_eq_some_iff.mp e
  dsimp only at e
  split at e
  · rename_i hz
    cases e
    refine s1 F σ H ρ δ ds _ G e1 _ fun vs H1 G1 M1 R1 => ⟨by rw [R1.length]; exact hz.1, fun p hp => ?_⟩
    obtain ⟨G2, M2⟩ := G1.uniNew i hz.2 hp R1
    exact q _ _ G2 (M1.trans M2)
  · cases e
def sApp (i : Nat) (me : ME) : MS := fun ρ δ => match ρ[i]? with
  | some (.uni ds) => (me ρ δ).bind fun p => if ds.length < sizeLine then some (.nx, ρ.set i (.uni (ds ++ [p.1])), p.2) else none
  | _ => none
theorem pds_app (i : Nat) {x : Str} {apos cpos p0 : Pos} (he : PD X e ma) (hN : X.N[i]? = some x := by rfl) (hv : Vis X.env.scope x := by first | exact Or.inl rfl | exact Or.inr (Or.inl rfl) | exact Or.inr (Or.inr rfl)) (hd : (x == ("__debug__" : Str)) = false := by decide)
    (hcd : (x == ("__classdict__" : Str)) = false := by decide) (hbase : attributeBase (.Name x p0) "append" X.env (eval (.Name x p0) X.env) = eval (.Name x p0) X.env := by rfl)
    (hfew : ((backTo cpos (starEach [e] X.env)).all (fun x => !x.1) && (backToKw cpos (keywordEach [] X.env)).all (fun x => x.1.isSome)
      && decide ([e].length + ([] : List Keyword).length + (if ([] : List Keyword).isEmpty then 0 else 1) < 30)) = true := by rfl)
    (hline : (apos.endLine == cpos.line) = true := by rfl) (hs : starEach [e] X.env = (false, eval e X.env) :: starEach [] X.env := by rfl) (hplain : (backTo cpos (starEach [] X.env)).any (·.1) = false := by rfl)
    (hsw : swapsWith (.Call (.Attribute (.Name x p0) "append" apos) [e] [] cpos) none pos.line X.env = pure false := by rfl) :
    PDS X (.Expr (.Call (.Attribute (.Name x p0) "append" apos) [e] [] cpos) pos) (sApp i ma) := by
  obtain ⟨t, p1, s1⟩ := he.ex
  refine ⟨_, ps_expr (pe_bm PySem.F.plainAttrs_list PySem.F.slot_list_append PySem.F.type_list_append mt_append (pe_var hN hv hd hcd) (pa_cons p1 pa_nil hs) hbase hfew hline hs hplain) hsw, fun F σ H ρ δ fl ρ' δ' G e D q => ?_⟩
  unfold sApp at e
  split at e
  · rename_i ds hi
    obtain ⟨⟨y, δ1⟩, e1, e⟩ := Option.bind_eq_some_iff.mp e
    dsimp only at e
    split at e
    · rename_i hz
      cases e
      obtain ⟨a, xs, f1, f2, f3, f4⟩ := G.uni i ds hi
      refine ⟨_, f1, .inl ⟨rfl, xs, SqL.of f2⟩, s1 F σ H ρ δ y _ G e1 _ fun v H1 G1 M1 R1 => ?_⟩
      obtain ⟨a', xs', g1, g2, g3, g4⟩ := G1.uni i ds hi
      rw [f1] at g1
      cases g1
      obtain ⟨G2, M2⟩ := G1.uniWrite (ys := xs' ++ [v]) (es := ds ++ [y]) i hi f1 (g3.append (.cons R1 .nil))
      exact ⟨a, xs', v, rfl, rfl, g2, by rw [g3.length]; exact hz, q _ _ G2 (M1.trans M2)⟩
    · cases e
  · cases e

/-! ### for, while -/
def forL (g : MG) (s : MS) : List D → MS
  | [] => fun ρ δ => some (.nx, ρ, δ)
  | d :: ds => fun ρ δ => (g d ρ).bind fun ρ1 => (s ρ1 δ).bind fun p => match p.1 with
    | .nx => forL g s ds p.2.1 p.2.2
    | .ct => forL g s ds p.2.1 p.2.2
    | .bk => some (.nx, p.2)
    | .rt d => some (.rt d, p.2)
def sFor (mi : MA) (g : MG) (s : MS) : MS := fun ρ δ => (mi ρ δ).bind fun p => forL g s p.1 ρ p.2
theorem pds_for {body : List Stmt} (hp : PassesOwn (model X.prog X.w) X.A X.env X.xe) (hc : X.calm = true) (hi : PDI X tg iter mi) (hg : PDG X tg sl mg) (hb : PDSs X body m) (hs : ∀ x, foldedSetIterable iter X.env x = pure x := by intro _; rfl) :
    PDS X (.For tg iter body [] pos) (sFor mi mg m) := by
  obtain ⟨wi, p1, s1⟩ := hi.ex
  obtain ⟨g, p2, s2⟩ := hg.ex
  obtain ⟨tb, p3, s3⟩ := hb.ex
  refine ⟨_, ps_for hp hc p1 p2 p3 hs, fun F σ0 H0 ρ0 δ0 fl ρ' δ' G e D q => ?_⟩
  obtain ⟨⟨ds, δ1⟩, e1, e⟩ := Option.bind_eq_some_iff.mp e
  refine s1 F σ0 H0 ρ0 δ0 ds δ1 G e1 _ fun J H1 G1 M1 Wk => ?_
  obtain ⟨xs, rx, wk⟩ := Wk
  refine ⟨fun i k σ H => k = xs.length - i ∧ i ≤ xs.length ∧ ∃ ρ δ, Good X.K F σ H ρ δ ∧ Mv (Mm F σ0 ρ0) H1 (Mm F σ ρ) H ∧ forL mg m (ds.drop i) ρ δ = some (fl, ρ', δ'), ⟨_, rfl, Nat.zero_le _, ρ0, δ1, G1, Mv.refl _ _, e⟩, ?_⟩
  rintro i k σ H ⟨rfl, hile, ρ, δ, G2, M2, ef⟩
  by_cases hlt : i < xs.length
  · obtain ⟨go, yl⟩ := (wk _ H M2 i).1 hlt
    have hld : i < ds.length := by rw [← rx.length]; exact hlt
    rw [List.drop_eq_getElem_cons hld] at ef
    refine .inr ⟨go, fun σ H => ∃ ρ δ, Good X.K F σ H ρ δ ∧ Mv (Mm F σ0 ρ0) H1 (Mm F σ ρ) H ∧ forL mg m (ds.drop (i + 1)) ρ δ = some (fl, ρ', δ'), fun σ' H' h => ⟨xs.length - (i + 1), by omega, rfl, hlt, h⟩, fun x H3 hy => ?_⟩
    obtain ⟨rfl, ex⟩ := yl x H3 hy
    obtain ⟨dx, edx, rdx⟩ := (rx.mv M2).get ex
    rw [List.getElem?_eq_getElem hld] at edx
    cases edx
    unfold forL at ef
    obtain ⟨ρ2, f1, ef⟩ := Option.bind_eq_some_iff.mp ef
    obtain ⟨⟨f, ρ3, δ3⟩, f2, ef⟩ := Option.bind_eq_some_iff.mp ef
    refine s2 F σ H3 ρ δ x _ ρ2 G2 rdx f1 _ fun σ2 G3 M3 _ => ?_
    refine s3 F σ2 H3 ρ2 δ f ρ3 δ3 G3 f2 _ fun σ4 H4 G4 M4 => ?_
    cases f with
    | nx => exact ⟨ρ3, δ3, G4, (M2.trans M3).trans M4, ef⟩
    | ct => exact ⟨ρ3, δ3, G4, (M2.trans M3).trans M4, ef⟩
    | bk => cases ef; exact q σ4 H4 G4 (M1.trans ((M2.trans M3).trans M4))
    | rt d => cases ef; exact q σ4 H4 G4 (M1.trans ((M2.trans M3).trans M4))
  · have hi' : i = xs.length := by omega
    subst hi'
    rw [List.drop_of_length_le (by rw [rx.length]; exact Nat.le_refl _)] at ef
    cases ef
    exact .inl ⟨(wk _ H M2 xs.length).2 (Nat.le_refl _), q σ H G2 (M1.trans M2)⟩
def whileL (c : MT) (s : MS) : Nat → MS
  | 0 => fun _ _ => none
  | n + 1 => fun ρ δ => (c ρ δ).bind fun p => if p.1 = true then (s ρ p.2).bind fun q => match q.1 with
    | .nx => whileL c s n q.2.1 q.2.2
    | .ct => whileL c s n q.2.1 q.2.2
    | .bk => some (.nx, q.2)
    | .rt d => some (.rt d, q.2)
    else some (.nx, ρ, p.2)
theorem pds_while (n : Nat) {body : List Stmt} (hp : PassesOwn (model X.prog X.w) X.A X.env X.xe) (hc : PDT X c nc) (hb : PDSs X body m) : PDS X (.While c body [] pos) (whileL nc m n) := by
  obtain ⟨tc, p1, s1⟩ := hc.ex
  obtain ⟨tb, p2, s2⟩ := hb.ex
  refine ⟨_, ps_while hp p1 p2, fun F σ0 H0 ρ0 δ0 fl ρ' δ' G e D q => ?_⟩
  refine ⟨fun k σ H => ∃ ρ δ, Good X.K F σ H ρ δ ∧ Mv (Mm F σ0 ρ0) H0 (Mm F σ ρ) H ∧ whileL nc m k ρ δ = some (fl, ρ', δ'), ⟨n, ρ0, δ0, G, Mv.refl _ _, e⟩, ?_⟩
  rintro k σ H ⟨ρ, δ, G1, M1, ef⟩
  cases k with
  | zero => cases ef
  | succ k =>
    unfold whileL at ef
    obtain ⟨⟨b, δ1⟩, f1, ef⟩ := Option.bind_eq_some_iff.mp ef
    refine s1 F σ H ρ δ b δ1 G1 f1 _ fun H2 G2 M2 => ?_
    cases b with
    | false => cases ef; exact iteF (q σ H2 G2 (M1.trans M2))
    | true =>
      refine iteT ⟨fun σ H => ∃ ρ δ, Good X.K F σ H ρ δ ∧ Mv (Mm F σ0 ρ0) H0 (Mm F σ ρ) H ∧ whileL nc m k ρ δ = some (fl, ρ', δ'), fun σ' H' h => ⟨k, Nat.lt_succ_self k, h⟩, ?_⟩
      rw [if_pos rfl] at ef
      obtain ⟨⟨f, ρ3, δ3⟩, f2, ef⟩ := Option.bind_eq_some_iff.mp ef
      refine s2 F σ H2 ρ δ1 f ρ3 δ3 G2 f2 _ fun σ4 H4 G4 M4 => ?_
      cases f with
      | nx => exact ⟨ρ3, δ3, G4, (M1.trans M2).trans M4, ef⟩
      | ct => exact ⟨ρ3, δ3, G4, (M1.trans M2).trans M4, ef⟩
      | bk => cases ef; exact q σ4 H4 G4 ((M1.trans M2).trans M4)
      | rt d => cases ef; exact q σ4 H4 G4 ((M1.trans M2).trans M4)
end

/-! ### the rule for a def -/
def slots (n : Nat) (ds : List Sl) : List Sl := ds ++ List.replicate (n - ds.length) .no
def outP : Option (Fl × List Sl × Dk) → Option (D × Dk)
  | some (.rt d, _, δ) => some (d, δ)
  | some (.nx, _, δ) => some (.none, δ)
  | _ => none
def fnP (n np : Nat) (s : MS) : List D → Option D := fun ds => if ds.length = np ∧ np ≤ n then (outP (s (slots n (ds.map .val)) ⟨[], 0⟩)).map (·.1) else none
def fnK (n np : Nat) (s : MS) : List D → Dk → Option (D × Dk) := fun ds δ => if ds.length + 1 = np ∧ np ≤ n then outP (s (slots n (.deck :: ds.map .val)) δ) else none
theorem start_get {N : List Str} {vs : List V} {i : Nat} {v : V} (h : vs[i]? = some v) : (start N vs)[i]? = some (some v) := by
  have hl : i < vs.length := by
    rcases Nat.lt_or_ge i vs.length with h' | h'
    · exact h'
    · rw [List.getElem?_eq_none h'] at h; cases h
  unfold L2.start
  rw [List.getElem?_append_left (by rw [List.length_map]; exact hl), List.getElem?_map, h]; rfl
theorem slots_get {n : Nat} {ds : List Sl} {i : Nat} {x : Sl} (h : (slots n ds)[i]? = some x) : ds[i]? = some x ∨ x = .no := by
  unfold slots at h
  rcases Nat.lt_or_ge i ds.length with h' | h'
  · rw [List.getElem?_append_left h'] at h; exact .inl h
  · rw [List.getElem?_append_right h'] at h
    right
    rw [List.getElem?_replicate] at h
    split at h
    · exact (Option.some.inj h).symm
    · cases h
section
variable {P : Program} {w : World} {K : PySem.W.Frag} {mg : Str → Option Value} {base : Heap}
theorem okP {x qual : Str} {st : Stmt} {f : Addr} {fd : FuncData} {N ps : List Str} {k : Nat} {s : MS} (F : Fun K x qual st f fd) (S : FnScope N ps (defScope st)) (hn : ps.length ≤ N.length)
    (hb : ∀ (cdv : Value) (A : Around) (outer : List Env) (s0 : Shared) (H : Hp) (E : XK), Room k (A.deeper (envOfC qual (defScope st) s0.heap.objs.size f cdv)) → PDSs (cxOf CX0 P w K mg base N qual (defScope st) f cdv A outer s0 H E).nox (defBody st) s) :
    FnOk P w K mg base CX0 (k + 1) f fd ps (spP K (fnP N.length ps.length s)) := by
  refine F.ok S (fun vs H Q E h => ?_) (fun cdv A outer s0 H vs Q E hr h => ?_)
  · obtain ⟨M, ds, r, hM, R, hm, q⟩ := h
    unfold fnP at hm
    split at hm
    · rename_i hz; rw [R.length]; exact hz.1
    · cases hm
  · obtain ⟨M, ds, r, hM, R, hm, q⟩ := h
    unfold fnP at hm
    split at hm
    · rename_i hz
      obtain ⟨t, p1, s1⟩ := (hb cdv A outer s0 H E hr).ex
      refine ⟨t, p1, ?_⟩
      obtain ⟨⟨r', δ'⟩, e1, e2⟩ := Option.map_eq_some_iff.mp hm
      cases e2
      generalize hres : s (slots N.length (ds.map Sl.val)) ⟨[], 0⟩ = res at e1
      have nun : ∀ (i : Nat) es, (slots N.length (ds.map Sl.val))[i]? ≠ some (.uni es) := fun i es h => by
        rcases slots_get h with h | h
        · rw [List.getElem?_map] at h
          obtain ⟨d, _, h⟩ := Option.map_eq_some_iff.mp h
          cases h
        · cases h
      let Fr0 : Fr := ⟨M, none, H⟩
      have eM : Mm Fr0 (start N vs) (slots N.length (ds.map Sl.val)) = M := by
        funext a
        refine propext ⟨fun z => ?_, .inl⟩
        rcases z with z | ⟨i, es, f1, _⟩
        · exact z
        · exact (nun i es f1).elim
      have G : Good K Fr0 (start N vs) H (slots N.length (ds.map Sl.val)) ⟨[], 0⟩ := by
        refine ⟨?_, fun i d h => ?_, fun i es h => (nun i es h).elim, fun i j es _ _ h => (nun i es h).elim, hM, fun i h => ?_, fun p h => (nomatch h), fun _ _ e _ => e⟩
        · unfold L2.start slots
          simp only [List.length_append, List.length_map, List.length_replicate, R.length]
        · rw [eM]
          rcases slots_get h with h | h
          · rw [List.getElem?_map] at h
            obtain ⟨d', h1, h2⟩ := Option.map_eq_some_iff.mp h
            cases h2
            obtain ⟨v, g1, g2⟩ := R.get' h1
            exact ⟨v, start_get g1, g2⟩
          · cases h
        · rcases slots_get h with h | h
          · rw [List.getElem?_map] at h
            obtain ⟨d', h1, h2⟩ := Option.map_eq_some_iff.mp h
            cases h2
          · cases h
      cases res with
      | none => cases e1
      | some p =>
        obtain ⟨fl, ρ1, δ1⟩ := p
        refine s1 Fr0 (start N vs) H _ ⟨[], 0⟩ fl ρ1 δ1 G hres _ fun σ' H' G' M' => ?_
        have an : Mv (Mm Fr0 σ' ρ1) H' M H' := fun a o e n => ⟨e, fun z => n (.inl z)⟩
        have kp : ∀ a o, H a = some o → H' a = some o := fun a o e => G'.fr a o e fun p h => nomatch h
        cases fl with
        | nx => cases e1; exact q _ _ kp .non
        | rt d => cases e1; exact fun v R1 => q _ _ kp (R1.mv an)
        | bk => cases e1
        | ct => cases e1
    · cases hm
theorem okK {x qual : Str} {st : Stmt} {f : Addr} {fd : FuncData} {N ps : List Str} {k : Nat} {s : MS} (F : Fun K x qual st f fd) (S : FnScope N ps (defScope st)) (hn : ps.length ≤ N.length)
    (hb : ∀ (cdv : Value) (A : Around) (outer : List Env) (s0 : Shared) (H : Hp) (E : XK), Room k (A.deeper (envOfC qual (defScope st) s0.heap.objs.size f cdv)) → PDSs (cxOf CX0 P w K mg base N qual (defScope st) f cdv A outer s0 H E).nox (defBody st) s) :
    FnOk P w K mg base CX0 (k + 1) f fd ps (spK K (fnK N.length ps.length s)) := by
  refine F.ok S (fun vs H Q E h => ?_) (fun cdv A outer s0 H vs Q E hr h => ?_)
  · obtain ⟨M, p, ws, ds, δ, r, δ', rfl, hM, _, _, _, R, hm, q⟩ := h
    unfold fnK at hm
    split at hm
    · rename_i hz; rw [List.length_cons, R.length]; exact hz.1
    · cases hm
  · obtain ⟨M, p, ws, ds, δ, r, δ', rfl, hM, m1, m2, dk, R, hm, q⟩ := h
    unfold fnK at hm
    split at hm
    · rename_i hz
      obtain ⟨t, p1, s1⟩ := (hb cdv A outer s0 H E hr).ex
      refine ⟨t, p1, ?_⟩
      generalize hres : s (slots N.length (Sl.deck :: ds.map Sl.val)) δ = res at hm
      have nun : ∀ (i : Nat) es, (slots N.length (Sl.deck :: ds.map Sl.val))[i]? ≠ some (.uni es) := fun i es h => by
        rcases slots_get h with h | h
        · cases i with
          | zero => cases h
          | succ i =>
            rw [List.getElem?_cons_succ, List.getElem?_map] at h
            obtain ⟨d, _, h⟩ := Option.map_eq_some_iff.mp h
            cases h
        · cases h
      let Fr0 : Fr := ⟨M, some p, H⟩
      have eM : Mm Fr0 (start N (.ref p.1 :: ws)) (slots N.length (Sl.deck :: ds.map Sl.val)) = M := by
        funext a
        refine propext ⟨fun z => ?_, .inl⟩
        rcases z with z | ⟨i, es, f1, _⟩
        · exact z
        · exact (nun i es f1).elim
      have G : Good K Fr0 (start N (.ref p.1 :: ws)) H (slots N.length (Sl.deck :: ds.map Sl.val)) δ := by
        refine ⟨?_, fun i d h => ?_, fun i es h => (nun i es h).elim, fun i j es _ _ h => (nun i es h).elim, hM, fun i h => ?_, fun p' h => ?_, fun _ _ e _ => e⟩
        · unfold L2.start slots
          simp only [List.length_append, List.length_map, List.length_replicate, List.length_cons, R.length]
        · rw [eM]
          rcases slots_get h with h | h
          · cases i with
            | zero => cases h
            | succ i =>
              rw [List.getElem?_cons_succ, List.getElem?_map] at h
              obtain ⟨d', h1, h2⟩ := Option.map_eq_some_iff.mp h
              cases h2
              obtain ⟨v, g1, g2⟩ := R.get' h1
              exact ⟨v, start_get (by rw [List.getElem?_cons_succ]; exact g1), g2⟩
          · cases h
        · rcases slots_get h with h | h
          · cases i with
            | zero => exact ⟨p, rfl, start_get rfl⟩
            | succ i =>
              rw [List.getElem?_cons_succ, List.getElem?_map] at h
              obtain ⟨d', h1, h2⟩ := Option.map_eq_some_iff.mp h
              cases h2
          · cases h
        · cases h
          exact ⟨m1, m2, dk⟩
      cases res with
      | none => cases hm
      | some pp =>
        obtain ⟨fl, ρ1, δ1⟩ := pp
        refine s1 Fr0 (start N (.ref p.1 :: ws)) H _ δ fl ρ1 δ1 G hres _ fun σ' H' G' M' => ?_
        have an : Mv (Mm Fr0 σ' ρ1) H' M H' := fun a o e n => ⟨e, fun z => n (.inl z)⟩
        have kp : ∀ a o, a ≠ p.1 → a ≠ p.2 → H a = some o → H' a = some o := fun a o n1 n2 e => G'.fr a o e fun p' h => by cases h; exact ⟨n1, n2⟩
        cases fl with
        | nx => cases hm; exact q _ _ kp (G'.dck p rfl).2.2 .non
        | rt d => cases hm; exact fun v R1 => q _ _ kp (G'.dck p rfl).2.2 (R1.mv an)
        | bk => cases hm
        | ct => cases hm
    · cases hm
end
end PD

namespace PD
open PySem PySem.Spec PyProof.Rows L2
/-! ### a dict that is written out -/
theorem mergeK_app : ∀ (kvs acc : List (Key × V)), ((acc ++ kvs).map (·.1)).Nodup → mergeK acc kvs = acc ++ kvs
  | [], acc, _ => by simp [mergeK]
  | (k, v) :: r, acc, h => by
    have hk : (acc.any fun kv => decide (kv.1 = k)) = false := by
      rw [List.any_eq_false]
      intro x hx hz
      have hz : x.1 = k := of_decide_eq_true hz
      rw [List.map_append, List.map_cons, List.nodup_append] at h
      exact h.2.2 x.1 (List.mem_map_of_mem hx) k (.head _) hz
    have e : mergeK acc ((k, v) :: r) = mergeK (acc ++ [(k, v)]) r := by
      show mergeK (putK acc k v) r = _
      unfold putK
      rw [hk, if_neg Bool.false_ne_true]
    rw [e, mergeK_app r _ (by simpa using h)]
    simp
abbrev MP := List Sl → Dk → Option (List (Key × D) × Dk)
def pNil : MP := fun _ δ => some ([], δ)
def pCons (k v : ME) (r : MP) : MP := fun ρ δ => (k ρ δ).bind fun p => (keyOf p.1).bind fun kk => (v ρ p.2).bind fun q => (r ρ q.2).map fun z => ((kk, q.1) :: z.1, z.2)
inductive RepP (K : PySem.W.Frag) (M : Addr → Prop) (H : Hp) : List (V × V) → List (Key × D) → Prop
  | nil : RepP K M H [] []
  | cons {k : Key} {v : V} {d : D} {ps : List (V × V)} {es : List (Key × D)} : Rep K M H v d → RepP K M H ps es → RepP K M H ((kV k, v) :: ps) ((k, d) :: es)
theorem RepP.mv {K M H M' H'} (h : Mv M H M' H') : ∀ {ps es}, RepP K M H ps es → RepP K M' H' ps es
  | _, _, .nil => .nil
  | _, _, .cons r t => .cons (r.mv h) (RepP.mv h t)
theorem RepP.split {K M H} : ∀ {ps es}, RepP K M H ps es → ∃ kvs : List (Key × V), ps = kvs.map (fun kv => (kV kv.1, kv.2)) ∧ kvs.map (·.1) = es.map (·.1) ∧ RepK K M H kvs (es.map fun e => (keyD e.1, e.2))
  | _, _, .nil => ⟨[], rfl, rfl, .nil⟩
  | _, _, .cons (k := k) (v := v) r t => by
    obtain ⟨kvs, e1, e2, e3⟩ := RepP.split t
    exact ⟨(k, v) :: kvs, by rw [e1]; rfl, by simp [e2], .cons r e3⟩
structure PDP (X : Cx) (pos : Pos) (keys : List (Option Expr)) (values : List Expr) (m : MP) : Prop where
  ex : ∃ trs, PPs X pos keys values trs ∧ ∀ F σ H ρ δ d δ', Good X.K F σ H ρ δ → m ρ δ = some (d, δ') → ∀ Q : List (V × V) → Hp → Prop, (∀ ps H', Good X.K F σ H' ρ δ' → Mv (Mm F σ ρ) H (Mm F σ ρ) H' → RepP X.K (Mm F σ ρ) H' ps d → Q ps H') → tPairs trs σ H Q
section
variable {X : Cx} {pos : Pos} {k v : Expr} {ks : List (Option Expr)} {vs : List Expr} {mk mv : ME} {mr : MP}
theorem pdp_nil : PDP X pos [] [] pNil := ⟨_, pps_nil, fun F σ H ρ δ d δ' G e Q q => by cases e; exact q _ _ G (Mv.refl _ _) .nil⟩
theorem pdp_cons (hk : PD X k mk) (hv : PD X v mv) (hr : PDP X pos ks vs mr) : PDP X pos (some k :: ks) (v :: vs) (pCons mk mv mr) := by
  obtain ⟨tk, p1, s1⟩ := hk.ex
  obtain ⟨tv, p2, s2⟩ := hv.ex
  obtain ⟨trs, p3, s3⟩ := hr.ex
  refine ⟨_, pps_cons p1 p2 p3, fun F σ H ρ δ d δ' G e Q q => ?_⟩
  obtain ⟨⟨x, δ1⟩, e1, e⟩ := Option.bind_eq_some_iff.mp e
  obtain ⟨kk, e0, e⟩ := Option.bind_eq_some_iff.mp e
  obtain ⟨⟨y, δ2⟩, e2, e⟩ := Option.bind_eq_some_iff.mp e
  obtain ⟨⟨z, δ3⟩, e3, e⟩ := Option.map_eq_some_iff.mp e
  cases e
  refine s1 F σ H ρ δ x δ1 G e1 _ fun u H1 G1 M1 R1 => s2 F σ H1 ρ δ1 y δ2 G1 e2 _ fun w H2 G2 M2 R2 => ?_
  have := keyOf_rep R1 e0
  subst this
  exact s3 F σ H2 ρ δ2 z _ G2 e3 _ fun ps H3 G3 M3 R3 => q _ _ G3 ((M1.trans M2).trans M3) (.cons (R2.mv M3) R3)
def nodupK (es : List (Key × D)) : Bool := decide (es.map (·.1)).Nodup
def mDisp (m : MP) : ME := fun ρ δ => (m ρ δ).bind fun p => if nodupK p.1 ∧ p.1.length ≤ 15 then some (.dict (p.1.map fun e => (keyD e.1, e.2)), p.2) else none
theorem pd_disp (h : PDP X pos ks vs mr) (hall : ks.all (·.isSome) = true := by rfl) (hl : ks.length = vs.length := by rfl) (h0 : ks ≠ [] := by exact fun z => nomatch z) (h15 : ks.length ≤ 15 := by decide) : PD X (.Dict ks vs pos) (mDisp mr) := by
  obtain ⟨trs, p1, s1⟩ := h.ex
  refine ⟨_, pe_disp p1 hall hl h0 h15, fun F σ H ρ δ d δ' G e Q q p hp => ?_⟩
  obtain ⟨⟨es, δ1⟩, e1, e⟩ := Option.bind_eq_some_iff.mp e
  dsimp only at e
  split at e
  · rename_i hz
    cases e
    obtain ⟨G1, M1⟩ := G.plus (o := .dK []) hp
    have hp0 : (F.plus p).H0 p = none := G.fresh0 hp
    have nDk : ∀ q, F.dk = some q → p ≠ q.1 ∧ p ≠ q.2 := fun q hq => ⟨(ne_of_none (G.dck q hq).2.2.one hp).symm, (ne_of_none (G.dck q hq).2.2.two hp).symm⟩
    refine s1 ((F.plus p).pin p (.dK [])) σ _ ρ δ es _ (G1.pin (.inr rfl) upd_same) e1 _ fun ps H2 G2 M2 R2 => ?_
    rw [Mm_pin] at M2 R2
    have hp2 : H2 p = some (.dK []) := G2.fr p _ upd_same nDk
    obtain ⟨kvs, f1, f2, f3⟩ := R2.split
    have hn : (kvs.map (·.1)).Nodup := by rw [f2]; exact of_decide_eq_true hz.1
    have hlen : kvs.length = es.length := by
      have := congrArg List.length f2
      simpa using this
    refine ⟨hp2, kvs, f1, by rw [hlen]; exact hz.2, ?_⟩
    rw [mergeK_app kvs [] (by simpa using hn), List.nil_append]
    obtain ⟨G3, M3⟩ := (Good.unpin hp0 (.inr rfl) G2).write ⟨_, _, _, G⟩ hp (o := .dK kvs)
    have an : Mv (Mm (F.plus p) σ ρ) (upd H2 p (.dK kvs)) (Mm F σ ρ) (upd H2 p (.dK kvs)) := fun a o e n => ⟨e, fun z => n (by rw [Mm_plus]; exact .inl z)⟩
    have MM : Mv (Mm F σ ρ) H (Mm F σ ρ) (upd H2 p (.dK kvs)) := ((M1.trans M2).trans M3).trans an
    have GB : Good X.K F σ (upd H2 p (.dK kvs)) ρ _ := G.back (vs := []) rfl hp G3 MM
    exact q _ _ GB MM (.dic (G.mfree hp) upd_same ((f3.mv M3).mv an))
  · cases e
end
end PD

namespace PD
open PySem PySem.Spec PyProof.Rows L2
/-! ### the deck read and written -/
section
variable {X : Cx} {a b e : Expr} {ma mb : ME} {p pos p1 p2 p3 : Pos} {y : Str} {k : Nat}
def onDk (i : Nat) (f : Dk → Option (D × Dk)) : ME := fun ρ δ => match ρ[i]? with
  | some .deck => f δ
  | _ => none
theorem ix_rule {K H q δ} (h : DeckAt H q δ) (j : Nat) (v : V) (hv : [V.ref q.2, .int δ.k][j]? = some v) (hj : j < 2) : ∀ Q : VK, Q v H → rIxL K (.ref q.1) (.int (j : Int)) H Q := fun Q hq =>
  ⟨q.1, _, (j : Int), v, rfl, rfl, SqL.of h.one, by rw [atI_nat hv], hq⟩
theorem pd_dk1 (i : Nat) {x1 : Nat} (hN : X.N[i]? = some y := by rfl) (hv : Vis X.env.scope y := by first | exact Or.inl rfl | exact Or.inr (Or.inl rfl) | exact Or.inr (Or.inr rfl)) (hyd : (y == ("__debug__" : Str)) = false := by decide) (hcd : (y == ("__classdict__" : Str)) = false := by decide) :
    PD X (.Subscript (.Name y p1) (.Constant (.int 1) x1 p2) pos) (onDk i fun δ => some (.int δ.k, δ)) := by
  refine ⟨_, pe_ix ix_list (pe_var hN hv hyd hcd) pe_int (fun _ _ => rfl), fun F σ H ρ δ d δ' G e Q q => ?_⟩
  unfold onDk at e
  split at e
  · rename_i hi
    cases e
    obtain ⟨pp, hp, hs⟩ := G.dsl i hi
    obtain ⟨_, _, d3⟩ := G.dck pp hp
    exact ⟨_, hs, ix_rule d3 1 _ rfl (by decide) _ (q _ _ G (Mv.refl _ _) (.int _))⟩
  · cases e
theorem pd_dkLen (i : Nat) {x1 : Nat} (hm : X.mg "len" = none) (hN : X.N[i]? = some y := by rfl) (hv : Vis X.env.scope y := by first | exact Or.inl rfl | exact Or.inr (Or.inl rfl) | exact Or.inr (Or.inr rfl)) (hyd : (y == ("__debug__" : Str)) = false := by decide) (hcd : (y == ("__classdict__" : Str)) = false := by decide) (hg : Gl X "len" := by rfl)
    (he : starEach [.Subscript (.Name y p1) (.Constant (.int 0) x1 p2) p3] X.env = (false, eval (.Subscript (.Name y p1) (.Constant (.int 0) x1 p2) p3) X.env) :: starEach [] X.env := by rfl) (hpl : (backTo pos (starEach [] X.env)).any (·.1) = false := by rfl) :
    PD X (.Call (.Name "len" p) [.Subscript (.Name y p1) (.Constant (.int 0) x1 p2) p3] [] pos) (onDk i fun δ => some (.int δ.cells.length, δ)) := by
  refine ⟨_, pe_callB call_len hg hm PySem.boot_len (pa_cons (pe_ix ix_list (pe_var hN hv hyd hcd) pe_int (fun _ _ => rfl)) pa_nil he) (by decide) (by decide) he hpl, fun F σ H ρ δ d δ' G e Q q => ?_⟩
  unfold onDk at e
  split at e
  · rename_i hi
    cases e
    obtain ⟨pp, hp, hs⟩ := G.dsl i hi
    obtain ⟨_, _, d3⟩ := G.dck pp hp
    refine ⟨_, hs, ix_rule d3 0 _ rfl (by decide) _ ⟨_, _, rfl, .inl ⟨_, SqL.of d3.two, rfl⟩, ?_⟩⟩
    rw [List.length_map]
    exact q _ _ G (Mv.refl _ _) (.int _)
  · cases e
def mDkIx (i : Nat) (m : ME) : ME := fun ρ δ => match ρ[i]? with
  | some .deck => (m ρ δ).bind fun p => match p.1 with
    | .int j => (atI p.2.cells j).map fun c => (.int c, p.2)
    | _ => none
  | _ => none
theorem atI_map {α β : Type} (f : α → β) (xs : List α) (i : Int) : atI (xs.map f) i = (atI xs i).map f := by
  unfold atI
  rw [List.length_map]
  cases ixN xs.length i with
  | none => rfl
  | some j => simp
theorem pd_dkIx (i : Nat) {x1 : Nat} (hb : PD X b mb) (hN : X.N[i]? = some y := by rfl) (hv : Vis X.env.scope y := by first | exact Or.inl rfl | exact Or.inr (Or.inl rfl) | exact Or.inr (Or.inr rfl)) (hyd : (y == ("__debug__" : Str)) = false := by decide) (hcd : (y == ("__classdict__" : Str)) = false := by decide) (hs : PlainIx b := by exact fun _ _ => rfl) :
    PD X (.Subscript (.Subscript (.Name y p1) (.Constant (.int 0) x1 p2) p3) b pos) (mDkIx i mb) := by
  obtain ⟨tb, h2, s2⟩ := hb.ex
  refine ⟨_, pe_ix ix_list (pe_ix ix_list (pe_var hN hv hyd hcd) pe_int (fun _ _ => rfl)) h2 hs, fun F σ H ρ δ d δ' G e Q q => ?_⟩
  unfold mDkIx at e
  split at e
  · rename_i hi
    obtain ⟨⟨x, δ1⟩, e1, e⟩ := Option.bind_eq_some_iff.mp e
    dsimp only at e
    split at e
    · obtain ⟨c, e2, e⟩ := Option.map_eq_some_iff.mp e
      cases e
      obtain ⟨pp, hp, hs⟩ := G.dsl i hi
      obtain ⟨_, _, d3⟩ := G.dck pp hp
      refine ⟨_, hs, ?_⟩
      show rIxL X.K (.ref pp.1) (.int ((0 : Nat) : Int)) H (fun x H1 => tb σ H1 fun y H2 => rIxL X.K x y H2 Q)
      refine ix_rule d3 0 _ rfl (by decide) _ ?_
      refine s2 F σ H ρ δ _ _ G e1 _ fun u H1 G1 M1 R1 => ?_
      cases R1
      obtain ⟨_, _, d4⟩ := G1.dck pp hp
      exact ⟨_, _, _, _, rfl, rfl, SqL.of d4.two, by rw [atI_map, e2]; rfl, q _ _ G1 M1 (.int _)⟩
    · cases e
  · cases e
def sDk1 (i : Nat) (m : ME) : MS := fun ρ δ => match ρ[i]? with
  | some .deck => (m ρ δ).bind fun p => match p.1 with
    | .int j => some (.nx, ρ, ⟨p.2.cells, j⟩)
    | _ => none
  | _ => none
theorem pds_dk1 (i : Nat) {x1 : Nat} (he : PD X e ma) (hN : X.N[i]? = some y := by rfl) (hv : Vis X.env.scope y := by first | exact Or.inl rfl | exact Or.inr (Or.inl rfl) | exact Or.inr (Or.inr rfl)) (hyd : (y == ("__debug__" : Str)) = false := by decide) (hcd : (y == ("__classdict__" : Str)) = false := by decide)
    (hs : swapsWithSole [.Subscript (.Name y p1) (.Constant (.int 1) x1 p2) p3] e pos.line X.env = pure false := by rfl) (hw : swappedStores [.Subscript (.Name y p1) (.Constant (.int 1) x1 p2) p3] e X.env = pure none := by rfl) (h1 : (assignEach [.Subscript (.Name y p1) (.Constant (.int 1) x1 p2) p3] X.env).map (·.2) = [assign (.Subscript (.Name y p1) (.Constant (.int 1) x1 p2) p3) X.env] := by rfl) :
    PDS X (.Assign [.Subscript (.Name y p1) (.Constant (.int 1) x1 p2) p3] e pos) (sDk1 i ma) := by
  obtain ⟨t, p1, s1⟩ := he.ex
  refine ⟨_, ps_asg p1 (pg_sub (pe_var hN hv hyd hcd) pe_int set_list) hs hw h1, fun F σ H ρ δ fl ρ' δ' G e D q => ?_⟩
  unfold sDk1 at e
  split at e
  · rename_i hi
    obtain ⟨⟨x, δ1⟩, e1, e⟩ := Option.bind_eq_some_iff.mp e
    dsimp only at e
    split at e
    · rename_i j
      cases e
      refine s1 F σ H ρ δ _ _ G e1 _ fun u H1 G1 M1 R1 => ?_
      cases R1
      obtain ⟨pp, hp, hs⟩ := G1.dsl i hi
      obtain ⟨_, _, d4⟩ := G1.dck pp hp
      refine ⟨_, hs, pp.1, _, 1, 1, rfl, rfl, d4.one, rfl, ?_⟩
      obtain ⟨G2, M2⟩ := G1.deck (H' := upd H1 pp.1 (.lst [.ref pp.2, .int j])) (δ' := ⟨δ1.cells, j⟩) hp (fun a o n1 n2 e => by rw [upd_ne n1]; exact e) ⟨d4.ne, upd_same, by rw [upd_ne d4.ne.symm]; exact d4.two⟩
      exact q _ _ G2 (M1.trans M2)
    · cases e
  · cases e
def sDk0 (i : Nat) (m mi : ME) : MS := fun ρ δ => match ρ[i]? with
  | some .deck => (m ρ δ).bind fun p => match p.1 with
    | .int c => (mi ρ p.2).bind fun q => match q.1 with
      | .int j => (ixN q.2.cells.length j).map fun n => (.nx, ρ, ⟨q.2.cells.set n c, q.2.k⟩)
      | _ => none
    | _ => none
  | _ => none
theorem pds_dk0 (i : Nat) {x1 : Nat} {p4 : Pos} (he : PD X e ma) (hb : PD X b mb) (hN : X.N[i]? = some y := by rfl) (hv : Vis X.env.scope y := by first | exact Or.inl rfl | exact Or.inr (Or.inl rfl) | exact Or.inr (Or.inr rfl)) (hyd : (y == ("__debug__" : Str)) = false := by decide) (hcd : (y == ("__classdict__" : Str)) = false := by decide)
    (hs : swapsWithSole [.Subscript (.Subscript (.Name y p1) (.Constant (.int 0) x1 p2) p3) b p4] e pos.line X.env = pure false := by rfl) (hw : swappedStores [.Subscript (.Subscript (.Name y p1) (.Constant (.int 0) x1 p2) p3) b p4] e X.env = pure none := by rfl) (h1 : (assignEach [.Subscript (.Subscript (.Name y p1) (.Constant (.int 0) x1 p2) p3) b p4] X.env).map (·.2) = [assign (.Subscript (.Subscript (.Name y p1) (.Constant (.int 0) x1 p2) p3) b p4) X.env] := by rfl)
    (ha : ∀ v, assign (.Subscript (.Subscript (.Name y p1) (.Constant (.int 0) x1 p2) p3) b p4) X.env v = (do
      let ov ← holding [v] (eval (.Subscript (.Name y p1) (.Constant (.int 0) x1 p2) p3) X.env)
      let iv ← holding [v, ov] (eval b X.env)
      standAt p4
      holding [v, ov, iv] (setItem ov iv v)
      release [v, ov, iv] []) := by intro _; rfl) :
    PDS X (.Assign [.Subscript (.Subscript (.Name y p1) (.Constant (.int 0) x1 p2) p3) b p4] e pos) (sDk0 i ma mb) := by
  obtain ⟨t, p1, s1⟩ := he.ex
  obtain ⟨tb, p2, s2⟩ := hb.ex
  refine ⟨_, ps_asg p1 (pg_sub (pe_ix ix_list (pe_var hN hv hyd hcd) pe_int (fun _ _ => rfl)) p2 set_list ha) hs hw h1, fun F σ H ρ δ fl ρ' δ' G e D q => ?_⟩
  unfold sDk0 at e
  split at e
  · rename_i hi
    obtain ⟨⟨x, δ1⟩, e1, e⟩ := Option.bind_eq_some_iff.mp e
    dsimp only at e
    split at e
    · rename_i c
      obtain ⟨⟨z, δ2⟩, e2, e⟩ := Option.bind_eq_some_iff.mp e
      dsimp only at e
      split at e
      · rename_i j
        obtain ⟨n, e3, e⟩ := Option.map_eq_some_iff.mp e
        cases e
        refine s1 F σ H ρ δ _ _ G e1 _ fun u H1 G1 M1 R1 => ?_
        cases R1
        obtain ⟨pp, hp, hs⟩ := G1.dsl i hi
        obtain ⟨_, _, d4⟩ := G1.dck pp hp
        refine ⟨_, hs, ?_⟩
        show rIxL X.K (.ref pp.1) (.int ((0 : Nat) : Int)) H1 (fun o H1 => tb σ H1 fun i H2 => rSetL o i (V.int c) H2 fun H3 => D.nx σ H3)
        refine ix_rule d4 0 _ rfl (by decide) _ ?_
        refine s2 F σ H1 ρ δ1 _ _ G1 e2 _ fun w H2 G2 M2 R2 => ?_
        cases R2
        obtain ⟨_, _, d5⟩ := G2.dck pp hp
        refine ⟨pp.2, _, j, n, rfl, rfl, d5.two, by rw [List.length_map]; exact e3, ?_⟩
        obtain ⟨G3, M3⟩ := G2.deck (H' := upd H2 pp.2 (.lst ((δ2.cells.map V.int).set n (.int c)))) (δ' := ⟨δ2.cells.set n c, δ2.k⟩) hp (fun a o n1 n2 e => by rw [upd_ne n2]; exact e) ⟨d5.ne, by rw [upd_ne d5.ne]; exact d5.one, by rw [upd_same, List.map_set]⟩
        exact q _ _ G3 ((M1.trans M2).trans M3)
      · cases e
    · cases e
  · cases e
end
/-! constants of the module -/
theorem pd_glob {X : Cx} {x : Str} {v : V} {u : Value} {d : D} {pos : Pos} (h : X.mg x = some u ∧ RelV v u ∧ ∀ M H, Rep X.K M H v d) (hg : Gl X x := by rfl) (hd : (x == ("__debug__" : Str)) = false := by decide) : PD X (.Name x pos) (mC d) := ⟨_, pe_glob hg h.1 h.2.1 hd, snd_c h.2.2⟩
end PD
namespace PD
open PySem L2
theorem u65 {k : Nat} {A : Around} (hr : Room k A) : A.units + 65 < cLine := by have := hr.un; omega
end PD

namespace PD
open PySem PySem.Spec PyProof.Rows L2
/-! ### a list of lists that grow -/
def Fr.plusS (F : Fr) (l : List Addr) : Fr := { F with M0 := fun a => F.M0 a ∨ a ∈ l }
theorem plusS_cons {F : Fr} {l : List Addr} {b : Addr} : (F.plusS l).plus b = F.plusS (l ++ [b]) := by
  unfold Fr.plus Fr.plusS
  congr 1
  funext a
  refine propext ⟨fun z => ?_, fun z => ?_⟩
  · rcases z with (z | z) | z
    · exact .inl z
    · exact .inr (List.mem_append_left _ z)
    · exact .inr (by simp [z])
  · rcases z with z | z
    · exact .inl (.inl z)
    · rcases List.mem_append.mp z with z | z
      · exact .inl (.inr z)
      · exact .inr (by simpa using z)
theorem plusS_nil {F : Fr} : F.plusS [] = F := by
  unfold Fr.plusS
  simp
theorem Mm_plusS {F σ ρ l} : Mm (F.plusS l) σ ρ = fun a => Mm F σ ρ a ∨ a ∈ l := by
  funext a
  refine propext ⟨fun z => ?_, fun z => ?_⟩
  · rcases z with (z | z) | z
    · exact .inl (.inl z)
    · exact .inr z
    · exact .inl (.inr z)
  · rcases z with (z | z) | z
    · exact .inl (.inl z)
    · exact .inr z
    · exact .inl (.inr z)
theorem Good.writeM {K F σ H ρ δ D o} (G : Good K F σ H ρ δ) (hM : F.M0 D) (nd : ∀ p, F.dk = some p → D ≠ p.1 ∧ D ≠ p.2) (h0 : F.H0 D = none) : Good K F σ (upd H D o) ρ δ ∧ Mv (Mm F σ ρ) H (Mm F σ ρ) (upd H D o) := by
  have mv : Mv (Mm F σ ρ) H (Mm F σ ρ) (upd H D o) := fun a u e n => ⟨by rw [upd_ne (fun z => n (.inl (by rw [z]; exact hM)))]; exact e, n⟩
  refine ⟨⟨G.len, fun i d e => ?_, fun i ds e => ?_, G.inj, fun a ha => ?_, G.dsl, fun p e => ?_, fun a u e n => ?_⟩, mv⟩
  · obtain ⟨v, e1, r⟩ := G.val i d e
    exact ⟨v, e1, r.mv mv⟩
  · obtain ⟨a, xs, e1, e2, r, n⟩ := G.uni i ds e
    exact ⟨a, xs, e1, by rw [upd_ne (fun z => n.1 (by rw [z]; exact hM))]; exact e2, r.mv mv, n⟩
  · by_cases hz : a = D
    · rw [hz, upd_same]; exact fun z => nomatch z
    · rw [upd_ne hz]; exact G.m0 a ha
  · obtain ⟨d1, d2, d3⟩ := G.dck p e
    exact ⟨d1, d2, d3.ne, by rw [upd_ne (nd p e).1.symm]; exact d3.one, by rw [upd_ne (nd p e).2.symm]; exact d3.two⟩
  · rw [upd_ne (fun z => by rw [z, h0] at e; cases e)]
    exact G.fr a u e n
def Fr.pinS (F : Fr) (l : List Addr) (H : Hp) : Fr := { F with H0 := fun a => if a ∈ l then H a else F.H0 a }
theorem Mm_pinS {F l H σ ρ} : Mm (F.pinS l H) σ ρ = Mm F σ ρ := rfl
theorem Good.pinS {K F σ H ρ δ l} (G : Good K F σ H ρ δ) (hM : ∀ a ∈ l, F.M0 a) : Good K (F.pinS l H) σ H ρ δ := ⟨G.len, G.val, fun i ds e => by
  obtain ⟨a, xs, e1, e2, r, n⟩ := G.uni i ds e
  exact ⟨a, xs, e1, e2, r, n.1, (if_neg (fun z => n.1 (hM a z))).trans n.2⟩, G.inj, G.m0, G.dsl, G.dck, fun a u e n => by
  by_cases hz : a ∈ l
  · exact (if_pos hz).symm.trans e
  · exact G.fr a u ((if_neg hz).symm.trans e) n⟩
theorem Good.unpinS {K F σ H0 H ρ δ l} (hM : ∀ a ∈ l, F.M0 a) (h0 : ∀ a ∈ l, F.H0 a = none) (G : Good K (F.pinS l H0) σ H ρ δ) : Good K F σ H ρ δ := ⟨G.len, G.val, fun i ds e => by
  obtain ⟨a, xs, e1, e2, r, n⟩ := G.uni i ds e
  exact ⟨a, xs, e1, e2, r, n.1, (if_neg (fun z => n.1 (hM a z))).symm.trans n.2⟩, G.inj, G.m0, G.dsl, G.dck, fun a u e n => G.fr a u (by
  show (if a ∈ l then H0 a else F.H0 a) = some u
  rw [if_neg (fun z => by rw [h0 a z] at e; cases e)]
  exact e) n⟩
theorem Good.setNo {K F σ H ρ δ} (G : Good K F σ H ρ δ) (i : Nat) (x : Option V) : Good K F (σ.set i x) H (ρ.set i .no) δ ∧ Mv (Mm F σ ρ) H (Mm F (σ.set i x) (ρ.set i .no)) H := by
  have un : ∀ (j : Nat) y, (ρ.set i .no)[j]? = some y → y ≠ .no → i ≠ j ∧ ρ[j]? = some y := fun j y e hy => by
    by_cases hj : i = j
    · subst hj; exact absurd (get_set_self e).symm hy
    · rw [List.getElem?_set_ne hj] at e
      exact ⟨hj, e⟩
  have hM : ∀ a, Mm F (σ.set i x) (ρ.set i .no) a → Mm F σ ρ a := fun a z => by
    rcases z with z | ⟨j, ds, e1, e2⟩
    · exact .inl z
    · obtain ⟨hj, e1⟩ := un j _ e1 (fun z => nomatch z)
      rw [List.getElem?_set_ne hj] at e2
      exact .inr ⟨j, ds, e1, e2⟩
  have mv : Mv (Mm F σ ρ) H (Mm F (σ.set i x) (ρ.set i .no)) H := fun a o e n => ⟨e, fun z => n (hM a z)⟩
  refine ⟨⟨by rw [List.length_set, List.length_set]; exact G.len, fun j e h => ?_, fun j ds e => ?_, fun j k ds es a e1 e2 e3 e4 => ?_, G.m0, fun j e => ?_, G.dck, G.fr⟩, mv⟩
  · obtain ⟨hj, h⟩ := un j _ h (fun z => nomatch z)
    obtain ⟨w, e1, r1⟩ := G.val j e h
    exact ⟨w, by rw [List.getElem?_set_ne hj]; exact e1, r1.mv mv⟩
  · obtain ⟨hj, e⟩ := un j _ e (fun z => nomatch z)
    obtain ⟨a, xs, e1, e2, r1, n⟩ := G.uni j ds e
    exact ⟨a, xs, by rw [List.getElem?_set_ne hj]; exact e1, e2, r1.mv mv, n⟩
  · obtain ⟨hj, e1⟩ := un j _ e1 (fun z => nomatch z)
    obtain ⟨hk, e2⟩ := un k _ e2 (fun z => nomatch z)
    rw [List.getElem?_set_ne hj] at e3
    rw [List.getElem?_set_ne hk] at e4
    exact G.inj j k ds es a e1 e2 e3 e4
  · obtain ⟨hj, e⟩ := un j _ e (fun z => nomatch z)
    rw [List.getElem?_set_ne hj]
    exact G.dsl j e
theorem Good.shrink {K F σ H ρ δ l} (G0 : ∃ σ H ρ δ, Good K F σ H ρ δ) (G : Good K (F.plusS l) σ H ρ δ) : Good K F σ H ρ δ ∧ Mv (Mm (F.plusS l) σ ρ) H (Mm F σ ρ) H := by
  have an : Mv (Mm (F.plusS l) σ ρ) H (Mm F σ ρ) H := fun a o e n => ⟨e, fun z => n (by rw [Mm_plusS]; exact .inl z)⟩
  obtain ⟨_, _, _, _, G0⟩ := G0
  refine ⟨⟨G.len, fun i d e => ?_, fun i ds e => ?_, G.inj, fun a ha => G.m0 a (.inl ha), G.dsl, fun p e => ?_, G.fr⟩, an⟩
  · obtain ⟨v, e1, r⟩ := G.val i d e
    exact ⟨v, e1, r.mv an⟩
  · obtain ⟨a, xs, e1, e2, r, n⟩ := G.uni i ds e
    exact ⟨a, xs, e1, e2, r.mv an, fun z => n.1 (.inl z), n.2⟩
  · obtain ⟨d1, d2, _⟩ := G0.dck p e
    obtain ⟨_, _, d3⟩ := G.dck p e
    exact ⟨d1, d2, d3⟩
theorem nodup_inj {l : List Addr} (h : l.Nodup) {i j : Nat} {b : Addr} (hi : l[i]? = some b) (hj : l[j]? = some b) : i = j := by
  obtain ⟨h1, e1⟩ := List.getElem?_eq_some_iff.mp hi
  obtain ⟨h2, e2⟩ := List.getElem?_eq_some_iff.mp hj
  have p := List.pairwise_iff_getElem.mp h
  rcases Nat.lt_trichotomy i j with q | q | q
  · exact absurd (e1.trans e2.symm) (p i j h1 h2 q)
  · exact q
  · exact absurd (e2.trans e1.symm) (p j i h2 h1 q)
/-- the lists at bs hold dss -/
structure Lists (K : PySem.W.Frag) (M : Addr → Prop) (H : Hp) (bs : List Addr) (dss : List (List D)) : Prop where
  len : bs.length = dss.length
  at' : ∀ (j : Nat) b, bs[j]? = some b → ∃ ds xs, dss[j]? = some ds ∧ H b = some (.lst xs) ∧ Reps K M H xs ds
def rulesL (g : MG) (mix me : ME) : List D → List Sl → Dk → List (List D) → Option (List Sl × Dk × List (List D))
  | [], ρ, δ, dss => some (ρ, δ, dss)
  | d :: ds, ρ, δ, dss => (g d ρ).bind fun ρ1 => (mix ρ1 δ).bind fun p => match p.1 with
    | .int i => (ixN dss.length i).bind fun j => (me ρ1 p.2).bind fun q => if (dss.getD j []).length < sizeLine then rulesL g mix me ds ρ1 q.2 (dss.set j (dss.getD j [] ++ [q.1])) else none
    | _ => none
def sRules (r : Nat) (mi1 mi2 : MA) (g : MG) (mix me : ME) : MS := fun ρ δ => (mi1 ρ δ).bind fun p => if p.1.length ≤ sizeLine ∧ r < ρ.length then (mi2 (ρ.set r .no) p.2).bind fun q => (rulesL g mix me q.1 (ρ.set r .no) q.2 (List.replicate p.1.length [])).map fun z => (.nx, z.1.set r (.val (.list (z.2.2.map .list))), z.2.1) else none
theorem reps_lists {K M H} : ∀ {bs : List Addr} {dss : List (List D)}, Lists K M H bs dss → (∀ b ∈ bs, ¬ M b) → Reps K M H (bs.map V.ref) (dss.map .list)
  | [], dss, L, _ => by
    have : dss = [] := List.eq_nil_of_length_eq_zero L.len.symm
    subst this; exact .nil
  | b :: bs, [], L, _ => by have := L.len; simp at this
  | b :: bs, ds :: dss, L, n => by
    obtain ⟨ds', xs, e1, e2, e3⟩ := L.at' 0 b rfl
    cases e1
    exact .cons (.lst ⟨n b (.head _), e2⟩ e3) (reps_lists ⟨by simpa using L.len, fun j c e => L.at' (j + 1) c e⟩ fun c hc => n c (.tail _ hc))
theorem snd_rules {K wi1 wi2 tix te mi1 mi2 mix me j g mg} {sl : List Nat} (r : Nat)
    (h1 : ∀ F σ H ρ δ ds δ', Good K F σ H ρ δ → mi1 ρ δ = some (ds, δ') → ∀ R : It → Hp → Prop, (∀ J H', Good K F σ H' ρ δ' → Mv (Mm F σ ρ) H (Mm F σ ρ) H' → Walks K (Mm F σ ρ) H' J ds → R J H') → wi1 σ H R)
    (h2 : ∀ F σ H ρ δ ds δ', Good K F σ H ρ δ → mi2 ρ δ = some (ds, δ') → ∀ R : It → Hp → Prop, (∀ J H', Good K F σ H' ρ δ' → Mv (Mm F σ ρ) H (Mm F σ ρ) H' → Walks K (Mm F σ ρ) H' J ds → R J H') → wi2 σ H R)
    (hg : ∀ F σ H ρ δ v d ρ', Good K F σ H ρ δ → Rep K (Mm F σ ρ) H v d → mg d ρ = some ρ' → ∀ Q : L2.St → Hp → Prop, (∀ σ', Good K F σ' H ρ' δ → Mv (Mm F σ ρ) H (Mm F σ' ρ') H → Set1 sl σ σ' ρ ρ' → Q σ' H) → g v σ H Q)
    (hix : Snd K tix mix) (he : Snd K te me) (hr : r ∉ sl) :
    SndS K (tSeq (tAsg (tLc wi1 (gName j) tYes (tLst tNil) [j]) (gName r)) (tFor wi2 g (tDrop (tBM K "list" rAppend (tOp (rIxL K) (tVar r) tix) (tCons te tNil))))) (sRules r mi1 mi2 mg mix me) := fun F σ H ρ δ fl ρ' δ' G e D q => by
  obtain ⟨⟨ds1, δ1⟩, e1, e⟩ := Option.bind_eq_some_iff.mp e
  dsimp only at e
  split at e
  · rename_i hz
    obtain ⟨⟨ds2, δ2⟩, e2, e⟩ := Option.bind_eq_some_iff.mp e
    obtain ⟨⟨ρ3, δ3, dss3⟩, e3, e⟩ := Option.map_eq_some_iff.mp e
    cases e
    refine h1 F σ H ρ δ ds1 δ1 G e1 _ fun J H1 G1 M1 Wk A hA => ?_
    obtain ⟨xs, rx, wk⟩ := Wk
    have nDk : ∀ a, H1 a = none → ∀ p, F.dk = some p → a ≠ p.1 ∧ a ≠ p.2 := fun a ha p hp => ⟨(ne_of_none (G1.dck p hp).2.2.one ha).symm, (ne_of_none (G1.dck p hp).2.2.two ha).symm⟩
    obtain ⟨GA, MA⟩ := G1.plus (o := .lst []) hA
    have eA : F.plus A = F.plusS [A] := by
      have := plusS_cons (F := F) (l := []) (b := A)
      rw [plusS_nil] at this
      exact this
    rw [eA] at GA MA
    have hwipe : ∀ v, L2.wipe ((L2.wipe σ [j]).set j (some v)) [j] = L2.wipe σ [j] := fun v => by
      have := (Set1.set (σ := L2.wipe σ [j]) (ρ := ρ) (v := v) (d := .none) j).wipes (vs := [j]) (by simp)
      rw [this.1, wipe_wipe]
    refine ⟨fun i m H => m = xs.length - i ∧ i ≤ xs.length ∧ ∃ bs : List Addr, bs.length = i ∧ H A = some (.lst (bs.map V.ref)) ∧ Good K (F.plusS (A :: bs)) σ H ρ δ1 ∧ Mv (Mm F σ ρ) H1 (Mm (F.plusS (A :: bs)) σ ρ) H ∧ (∀ b ∈ bs, H b = some (.lst [])) ∧ (A :: bs).Nodup ∧ (∀ a ∈ A :: bs, H1 a = none),
      ⟨_, rfl, Nat.zero_le _, [], rfl, upd_same, GA, MA, fun b hb => (by simp at hb), (by simp), fun a ha => (by simp at ha; rw [ha]; exact hA)⟩, ?_⟩
    rintro i m H2 ⟨rfl, hile, bs, hbl, hHA, G2, M2, hbs, hnd, hfr⟩
    by_cases hlt : i < xs.length
    · obtain ⟨go, yl⟩ := (wk _ H2 M2 i).1 hlt
      refine .inr ⟨go, fun H => ∃ bs : List Addr, bs.length = i + 1 ∧ H A = some (.lst (bs.map V.ref)) ∧ Good K (F.plusS (A :: bs)) σ H ρ δ1 ∧ Mv (Mm F σ ρ) H1 (Mm (F.plusS (A :: bs)) σ ρ) H ∧ (∀ b ∈ bs, H b = some (.lst [])) ∧ (A :: bs).Nodup ∧ (∀ a ∈ A :: bs, H1 a = none), fun H' h => ⟨xs.length - (i + 1), by omega, rfl, hlt, h⟩, fun x H3 hy => ?_⟩
      obtain ⟨rfl, ex⟩ := yl x H3 hy
      refine ⟨hwipe x, ?_⟩
      simp only [tYes, ↓reduceIte]
      refine ⟨Nat.zero_le _, fun b hb => ?_⟩
      have hbA : A ≠ b := ne_of_none hHA hb
      obtain ⟨G3, M3⟩ := G2.plus (o := .lst []) hb
      rw [plusS_cons] at G3 M3
      have hb1 : H1 b = none := by
        cases hq : H1 b with
        | none => rfl
        | some o =>
          by_cases hm : Mm F σ ρ b
          · rcases hm with hm | ⟨ii, es, f1, f2⟩
            · exact absurd hb (G2.m0 b (.inl hm))
            · obtain ⟨c, ys, g1, g2, _⟩ := G2.uni ii es f1
              rw [f2] at g1; cases g1
              rw [hb] at g2; cases g2
          · have := (M2 b o hq hm).1
            rw [hb] at this; cases this
      have hD : (F.plusS ((A :: bs) ++ [b])).M0 A := .inr (by simp)
      obtain ⟨G4, M4⟩ := G3.writeM (D := A) (o := .lst (bs.map V.ref ++ [.ref b])) hD (nDk A hA) (G1.fresh0 hA)
      have hbn : b ∉ bs := fun z => by rw [hbs b z] at hb; cases hb
      refine ⟨bs.map V.ref, by rw [upd_ne hbA]; exact hHA, ?_, bs ++ [b], by simp [hbl], by rw [upd_same, List.map_append]; rfl, G4, (M2.trans M3).trans M4, fun c hc => ?_, ?_, fun a ha => ?_⟩
      · rw [List.length_map, hbl]
        rw [rx.length] at hlt
        omega
      · have hcA : c ≠ A := by
          rintro rfl
          rcases List.mem_append.mp hc with z | z
          · exact (List.nodup_cons.mp hnd).1 z
          · simp at z; exact hbA z
        rw [upd_ne hcA]
        rcases List.mem_append.mp hc with z | z
        · exact upd_keeps hb _ _ (hbs c z)
        · simp at z; rw [z, upd_same]
      · rw [← List.cons_append, List.nodup_append]
        refine ⟨hnd, by simp, fun a ha c hc => ?_⟩
        simp at hc
        subst hc
        rintro rfl
        rcases List.mem_cons.mp ha with z | z
        · exact hbA z.symm
        · exact hbn z
      · rcases List.mem_cons.mp ha with z | z
        · rw [z]; exact hA
        · rcases List.mem_append.mp z with z | z
          · exact hfr a (.tail _ z)
          · simp at z; rw [z]; exact hb1
    · have hi' : i = xs.length := by omega
      refine .inl ⟨(wk _ H2 M2 i).2 (by omega), ?_⟩
      -- the list of lists is there
      have hnM : ∀ a ∈ A :: bs, ¬ F.M0 a := fun a ha z => G1.m0 a z (hfr a ha)
      have hn0 : ∀ a ∈ A :: bs, (F.plusS (A :: bs)).H0 a = none := fun a ha => G1.fresh0 (hfr a ha)
      have hMl : ∀ a ∈ A :: bs, (F.plusS (A :: bs)).M0 a := fun a ha => .inr ha
      obtain ⟨G3, M3⟩ := G2.setNo r (some (.ref A))
      have hrl : r < σ.length := by rw [G1.len]; exact hz.2
      refine h2 _ (σ.set r (some (.ref A))) H2 (ρ.set r .no) δ1 ds2 δ2 (G3.pinS hMl) e2 _ fun J2 H4 G4 M4 Wk2 => ?_
      obtain ⟨ys, ry, wk2⟩ := Wk2
      rw [Mm_pinS] at M4 ry wk2
      have keep4 : ∀ a ∈ A :: bs, ∀ o, H2 a = some o → H4 a = some o := fun a ha o ho => G4.fr a o ((if_pos ha).trans ho) (nDk a (hfr a ha))
      have L0 : Lists K (Mm (F.plusS (A :: bs)) (σ.set r (some (.ref A))) (ρ.set r .no)) H4 bs (List.replicate ds1.length []) := ⟨by rw [List.length_replicate, hbl, hi', rx.length], fun jj b hb => ⟨[], [], by
        rw [List.getElem?_replicate, if_pos]
        have : jj < bs.length := by
          rcases Nat.lt_or_ge jj bs.length with h | h
          · exact h
          · rw [List.getElem?_eq_none h] at hb; cases hb
        rw [hbl, hi', rx.length] at this
        exact this, keep4 b (.tail _ (List.mem_of_getElem? hb)) _ (hbs b (List.mem_of_getElem? hb)), .nil⟩⟩
      refine ⟨fun ii k σ5 H5 => k = ys.length - ii ∧ ii ≤ ys.length ∧ ∃ ρ5 δ5 dss5, Good K (F.plusS (A :: bs)) σ5 H5 ρ5 δ5 ∧ σ5[r]? = some (some (.ref A)) ∧ ρ5[r]? = some .no ∧ H5 A = some (.lst (bs.map V.ref)) ∧ Lists K (Mm (F.plusS (A :: bs)) σ5 ρ5) H5 bs dss5 ∧
        Mv (Mm (F.plusS (A :: bs)) (σ.set r (some (.ref A))) (ρ.set r .no)) H4 (Mm (F.plusS (A :: bs)) σ5 ρ5) H5 ∧ rulesL mg mix me (ds2.drop ii) ρ5 δ5 dss5 = some (ρ3, δ3, dss3), ⟨_, rfl, Nat.zero_le _, ρ.set r .no, δ2, _, Good.unpinS hMl hn0 G4, List.getElem?_set_self hrl, List.getElem?_set_self hz.2, keep4 A (.head _) _ hHA, L0, Mv.refl _ _, e3⟩, ?_⟩
      rintro ii k σ5 H5 ⟨rfl, hile5, ρ5, δ5, dss5, G5, hσ5, hρ5, hA5, L5, M5, ef⟩
      by_cases hlt5 : ii < ys.length
      · obtain ⟨go5, yl5⟩ := (wk2 _ H5 M5 ii).1 hlt5
        have hld : ii < ds2.length := by rw [← ry.length]; exact hlt5
        rw [List.drop_eq_getElem_cons hld] at ef
        refine .inr ⟨go5, fun σ5 H5 => ∃ ρ5 δ5 dss5, Good K (F.plusS (A :: bs)) σ5 H5 ρ5 δ5 ∧ σ5[r]? = some (some (.ref A)) ∧ ρ5[r]? = some .no ∧ H5 A = some (.lst (bs.map V.ref)) ∧ Lists K (Mm (F.plusS (A :: bs)) σ5 ρ5) H5 bs dss5 ∧
          Mv (Mm (F.plusS (A :: bs)) (σ.set r (some (.ref A))) (ρ.set r .no)) H4 (Mm (F.plusS (A :: bs)) σ5 ρ5) H5 ∧ rulesL mg mix me (ds2.drop (ii + 1)) ρ5 δ5 dss5 = some (ρ3, δ3, dss3), fun σ' H' h => ⟨ys.length - (ii + 1), by omega, rfl, hlt5, h⟩, fun x H6 hy => ?_⟩
        obtain ⟨rfl, ex⟩ := yl5 x H6 hy
        obtain ⟨dx, edx, rdx⟩ := (ry.mv M5).get ex
        rw [List.getElem?_eq_getElem hld] at edx
        cases edx
        unfold rulesL at ef
        obtain ⟨ρ6, f1, ef⟩ := Option.bind_eq_some_iff.mp ef
        obtain ⟨⟨vi, δ6⟩, f2, ef⟩ := Option.bind_eq_some_iff.mp ef
        dsimp only at ef
        split at ef
        · rename_i iv
          obtain ⟨jj, f3, ef⟩ := Option.bind_eq_some_iff.mp ef
          obtain ⟨⟨y, δ7⟩, f4, ef⟩ := Option.bind_eq_some_iff.mp ef
          dsimp only at ef
          split at ef
          · rename_i hsz
            refine hg _ σ5 H6 ρ5 δ5 x _ ρ6 G5 rdx f1 _ fun σ6 G6 M6 T6 => ?_
            have hσ6 : σ6[r]? = some (some (.ref A)) := (T6.s r hr).trans hσ5
            have hρ6 : ρ6[r]? = some .no := (T6.r r hr).trans hρ5
            refine ⟨_, hσ6, ?_⟩
            refine hix ((F.plusS (A :: bs)).pinS (A :: bs) H6) σ6 H6 ρ6 δ5 _ _ (G6.pinS hMl) f2 _ fun v7 H7 G7 M7 R7 => ?_
            rw [Mm_pinS] at M7 R7
            cases R7
            have keep7 : ∀ a ∈ A :: bs, ∀ o, H6 a = some o → H7 a = some o := fun a ha o ho => G7.fr a o ((if_pos ha).trans ho) (nDk a (hfr a ha))
            have hjl : jj < bs.length := by rw [L5.len]; exact (ixN_seq f3).2.1
            obtain ⟨bj, hbj⟩ : ∃ bj, bs[jj]? = some bj := ⟨bs[jj], List.getElem?_eq_getElem hjl⟩
            obtain ⟨dsj, xsj, g1, g2, g3⟩ := L5.at' jj bj hbj
            have hbjm : bj ∈ A :: bs := .tail _ (List.mem_of_getElem? hbj)
            refine ⟨A, bs.map V.ref, iv, .ref bj, rfl, rfl, SqL.of (keep7 A (.head _) _ hA5), ?_, ?_⟩
            · unfold atI
              rw [List.length_map, L5.len, f3]
              simp [hbj]
            · refine ⟨.inl ⟨rfl, xsj, SqL.of (keep7 bj hbjm _ g2)⟩, ?_⟩
              refine he ((F.plusS (A :: bs)).pinS (A :: bs) H6) σ6 H7 ρ6 δ6 _ _ G7 f4 _ fun v8 H8 G8 M8 R8 => ?_
              rw [Mm_pinS] at M8 R8
              have keep8 : ∀ a ∈ A :: bs, ∀ o, H6 a = some o → H8 a = some o := fun a ha o ho => G8.fr a o ((if_pos ha).trans ho) (nDk a (hfr a ha))
              have MM := (M6.trans M7).trans M8
              have hdj : dss5.getD jj [] = dsj := by rw [List.getD_eq_getElem?_getD, g1]; rfl
              rw [hdj] at hsz ef
              obtain ⟨G9, M9⟩ := (Good.unpinS hMl hn0 G8).writeM (D := bj) (o := .lst (xsj ++ [v8])) (.inr hbjm) (nDk bj (hfr bj hbjm)) (hn0 bj hbjm)
              refine ⟨bj, xsj, v8, rfl, rfl, keep8 bj hbjm _ g2, by rw [g3.length]; exact hsz, ρ6, δ7, _, G9, hσ6, hρ6, ?_, ?_, (M5.trans MM).trans M9, ef⟩
              · rw [upd_ne (fun z => (List.nodup_cons.mp hnd).1 (by rw [z]; exact List.mem_of_getElem? hbj))]
                exact keep8 A (.head _) _ hA5
              · refine ⟨by rw [List.length_set]; exact L5.len, fun k b hb => ?_⟩
                by_cases hk : jj = k
                · subst hk
                  rw [hbj] at hb
                  cases hb
                  exact ⟨dsj ++ [y], xsj ++ [v8], List.getElem?_set_self (by rw [← L5.len]; exact hjl), upd_same, ((g3.mv MM).append (.cons R8 .nil)).mv M9⟩
                · obtain ⟨dsk, xsk, k1, k2, k3⟩ := L5.at' k b hb
                  have hne : b ≠ bj := fun z => by
                    subst z
                    exact hk (nodup_inj (List.nodup_cons.mp hnd).2 hbj hb)
                  exact ⟨dsk, xsk, by rw [List.getElem?_set_ne hk]; exact k1, by rw [upd_ne hne]; exact keep8 b (.tail _ (List.mem_of_getElem? hb)) _ k2, (k3.mv MM).mv M9⟩
          · cases ef
        · cases ef
      · have hi5 : ii = ys.length := by omega
        subst hi5
        rw [List.drop_of_length_le (by rw [ry.length]; exact Nat.le_refl _)] at ef
        cases ef
        refine .inl ⟨(wk2 _ H5 M5 ys.length).2 (Nat.le_refl _), ?_⟩
        obtain ⟨G9, M9⟩ := Good.shrink ⟨_, _, _, _, G1⟩ G5
        have hnot : ∀ a ∈ A :: bs, ¬ Mm F σ5 ρ3 a := fun a ha z => by
          rcases z with z | ⟨ii, es, f1, f2⟩
          · exact hnM a ha z
          · obtain ⟨c, zs, g1, g2, g3, g4⟩ := G5.uni ii es f1
            rw [f2] at g1; cases g1
            exact g4.1 (hMl _ ha)
        have RR : Rep K (Mm F σ5 ρ3) H5 (.ref A) (.list (dss3.map .list)) := .lst ⟨hnot A (.head _), hA5⟩ (reps_lists ⟨L5.len, fun k b hb => by
          obtain ⟨dsk, xsk, k1, k2, k3⟩ := L5.at' k b hb
          exact ⟨dsk, xsk, k1, k2, k3.mv M9⟩⟩ fun b hb => hnot b (.tail _ hb))
        obtain ⟨G10, M10⟩ := G9.set r RR
        have hset : σ5.set r (some (.ref A)) = σ5 := by
          have hr5 : r < σ5.length := by
            rcases Nat.lt_or_ge r σ5.length with h | h
            · exact h
            · rw [List.getElem?_eq_none h] at hσ5; cases hσ5
          refine list_ext fun k => ?_
          by_cases hk : r = k
          · subst hk; rw [List.getElem?_set_self hr5, hσ5]
          · rw [List.getElem?_set_ne hk]
        rw [hset] at G10 M10
        exact q σ5 H5 G10 ((((M1.trans M2).trans M3).trans M4).trans ((M5.trans M9).trans M10))
  · cases e

theorem pdss_rules {X : Cx} {iter1 iter2 ix e tg1 : Expr} {kk2 R : Str} {st1 : Stmt} {pk2 p1 p2 apos cpos pos2 fpos : Pos} {rest : List Stmt} {mi1 mi2 : MA} {mix me : ME} {m : MS} (r j j2 : Nat)
    (hc : X.calm = true) (hi1 : PDI X tg1 iter1 mi1) (hst : ∀ wi, PI X tg1 iter1 wi → PS X st1 (tAsg (tLc wi (gName j) tYes (tLst tNil) [j]) (gName r)))
    (hi2 : PDI X (.Name kk2 pk2) iter2 mi2) (hg2 : PG X (.Name kk2 pk2) (gName j2)) (hix : PD X ix mix) (he : PD X e me) (hrest : PDSs X rest m) (hrj : r ≠ j2)
    (hy : X.N[r]? = some R := by rfl) (hs2 : ∀ x, foldedSetIterable iter2 X.env x = pure x := by intro _; rfl) (hp : PassesOwn (model X.prog X.w) X.A X.env X.xe)
    (hv : Vis X.env.scope R := by first | exact Or.inl rfl | exact Or.inr (Or.inl rfl) | exact Or.inr (Or.inr rfl)) (hd : (R == ("__debug__" : Str)) = false := by decide) (hcd : (R == ("__classdict__" : Str)) = false := by decide) (hpx : PlainIx ix := by exact fun _ _ => rfl)
    (hbase : attributeBase (.Subscript (.Name R p1) ix p2) "append" X.env (eval (.Subscript (.Name R p1) ix p2) X.env) = eval (.Subscript (.Name R p1) ix p2) X.env := by rfl)
    (hfew : ((backTo cpos (starEach [e] X.env)).all (fun x => !x.1) && (backToKw cpos (keywordEach [] X.env)).all (fun x => x.1.isSome)
      && decide ([e].length + ([] : List Keyword).length + (if ([] : List Keyword).isEmpty then 0 else 1) < 30)) = true := by rfl)
    (hline : (apos.endLine == cpos.line) = true := by rfl) (hs : starEach [e] X.env = (false, eval e X.env) :: starEach [] X.env := by rfl) (hplain : (backTo cpos (starEach [] X.env)).any (·.1) = false := by rfl)
    (hse : swapsWith (.Call (.Attribute (.Subscript (.Name R p1) ix p2) "append" apos) [e] [] cpos) none pos2.line X.env = pure false := by rfl) :
    PDSs X (st1 :: .For (.Name kk2 pk2) iter2 [.Expr (.Call (.Attribute (.Subscript (.Name R p1) ix p2) "append" apos) [e] [] cpos) pos2] [] fpos :: rest) (sSeq (sRules r mi1 mi2 (gSet j2) mix me) m) := by
  obtain ⟨wi1, w1, s1⟩ := hi1.ex
  obtain ⟨wi2, w2, s2⟩ := hi2.ex
  obtain ⟨tix, w3, s3⟩ := hix.ex
  obtain ⟨te, w4, s4⟩ := he.ex
  obtain ⟨tr, w5, s5⟩ := hrest.ex
  refine ⟨_, pss_cons (hst wi1 w1) (pss_cons (ps_for hp hc w2 hg2 (pss_one (ps_expr (pe_bm PySem.F.plainAttrs_list PySem.F.slot_list_append PySem.F.type_list_append mt_append (pe_ix ix_list (pe_var hy hv hd hcd) w3 hpx) (pa_cons w4 pa_nil hs) hbase hfew hline hs hplain) hse)) hs2) w5), ?_⟩
  have z := snd_seq (snd_rules (j := j) r s1 s2 (pg_set j2) s3 s4 (by simp; exact hrj)) s5
  exact z
end PD

namespace PD
open PySem PySem.Spec PyProof.Rows L2
/-! ### the deck is made -/
def absI (i : Int) : Int := if i < 0 then -i else i
def deckOf (ns : List Int) : Dk := ⟨(ns.take 63).map absI, 0⟩
def spDeck (K : PySem.W.Frag) : Sp := fun vs H Q _ => ∃ (a : Addr) (ns : List Int), vs = [.ref a] ∧ SqL K H a (ns.map V.int) ∧ ∀ (p : Addr × Addr) H', Same H H' → DeckAt H' p (deckOf ns) → Q (.ref p.1) H'
theorem same_new {H : Hp} {p : Addr} {o : HO} (h : H p = none) : Same H (upd H p o) := fun b x e => upd_keeps h b x e
theorem cut63 (xs : List V) : cutV xs none (some 63) = xs.take 63 := by
  unfold cutV
  rw [show HT.sIx xs.length xs.length (some 63) = min 63 xs.length from HT.sIx_nat xs.length xs.length 63, HT.sIx_none, List.drop_zero, Nat.sub_zero]
  rcases Nat.le_total 63 xs.length with h | h
  · rw [Nat.min_eq_left h]
  · rw [Nat.min_eq_right h, List.take_of_length_le h, List.take_of_length_le (Nat.le_refl _)]
section
variable {P : Program} {w : World} {K : PySem.W.Frag} {mg : Str → Option Value} {base : Heap}
theorem snd_deck {H : Hp} {a : Addr} {ns : List Int} {Q : VK} (hS : SqL K H a (ns.map V.int)) (q : ∀ (p : Addr × Addr) H', Same H H' → DeckAt H' p (deckOf ns) → Q (.ref p.1) H') :
    tRet (tLst (tCons (tLc (iList K (tSl (rSlL K) (tVar 0) tNoPart (tPart (tC (.int 63))))) (gName 1) tYes (tCB (fun xs H Q => ∃ i, xs = [.int i] ∧ Q (.int (if i < 0 then -i else i)) H) (tCons (tVar 1) tNil)) [1]) (tCons (tC (.int 0)) tNil))) { nx := fun _ H' => Q .non H', rt := Q } [some (.ref a), none] H := by
  refine ⟨.ref a, rfl, 63, rfl, a, _, rfl, hS, fun s hs => ?_⟩
  have e63 : cutV (ns.map V.int) none (some 63) = (ns.take 63).map V.int := by rw [cut63, List.map_take]
  rw [e63]
  have hSl : SqL K (upd H s (.lst ((ns.take 63).map V.int))) s ((ns.take 63).map V.int) := SqL.of upd_same
  refine ⟨s, rfl, ⟨_, hSl⟩, fun c hc => ?_⟩
  have ncs : s ≠ c := ne_of_none (show (upd H s (.lst ((ns.take 63).map V.int))) s = some _ from upd_same) hc
  refine lc_list (xs := (ns.take 63).map V.int) (fun i H2 => Same H H2 ∧ H2 s = some (.lst ((ns.take 63).map V.int)) ∧ H2 c = some (.lst ((((ns.take 63).map absI).take i).map V.int))) ⟨(same_new hs).trans (same_new hc), by rw [upd_ne ncs, upd_same], by rw [upd_same]; rfl⟩ (fun i H2 _ h => SqL.of h.2.1) (fun i x H2 hx h => ?_) (fun H2 h => ?_)
  · obtain ⟨h1, h2, h3⟩ := h
    rw [List.getElem?_map] at hx
    obtain ⟨n, hn, rfl⟩ := Option.map_eq_some_iff.mp hx
    refine ⟨rfl, ?_⟩
    simp only [tYes, ↓reduceIte]
    refine ⟨.int n, rfl, n, rfl, _, h3, ?_, fun b o e => ?_, ?_, ?_⟩
    · simp only [List.length_map, List.length_take]
      exact Nat.lt_of_le_of_lt (Nat.le_trans (Nat.min_le_right _ _) (Nat.min_le_left _ _)) (by decide)
    · have hb : b ≠ c := ne_of_none (same_new hs b o e) hc
      rw [upd_ne hb]
      exact h1 b o e
    · rw [upd_ne ncs]; exact h2
    · rw [upd_same, List.take_add_one (l := (ns.take 63).map absI) (i := i), List.getElem?_map, hn, List.map_append]
      rfl
  · obtain ⟨h1, h2, h3⟩ := h
    have ei : ((ns.take 63).map absI).take ((ns.take 63).map V.int).length = (ns.take 63).map absI := List.take_of_length_le (by simp)
    rw [ei] at h3
    refine ⟨by show 2 ≤ sizeLine; decide, fun d hd => ?_⟩
    have ncd : c ≠ d := ne_of_none h3 hd
    exact q (d, c) _ (h1.trans (same_new hd)) ⟨ncd.symm, upd_same, by show upd H2 d _ c = _; rw [upd_ne ncd]; exact h3⟩
def spLaw (K : PySem.W.Frag) : Sp := fun vs H Q _ => ∃ (a : Addr) (ns : List Int), vs = [.ref a] ∧ SqL K H a (ns.map V.int) ∧ ns.length ≤ 63 ∧ ∀ H', Q (.bl true) H'
theorem okLaw {x qual : Str} {st : Stmt} {f : Addr} {fd : FuncData} {N : List Str} {k : Nat} {s : MS} {rest : List Stmt} {p1 p2 p3 p4 p5 : Pos} {xs xd xf : Str} (F : Fun K x qual st f fd) (S : FnScope N [xs] (defScope st)) (hl : 2 ≤ N.length)
    (hbd : defBody st = .Assign [.Name xd p1] (.Call (.Name xf p2) [.Name xs p3] [] p4) p5 :: rest)
    (h1 : ∀ (cdv : Value) (A : Around) (outer : List Env) (s0 : Shared) (H : Hp) (E : XK), Room k (A.deeper (envOfC qual (defScope st) s0.heap.objs.size f cdv)) → PS (cxOf CX0 P w K mg base N qual (defScope st) f cdv A outer s0 H E).nox (.Assign [.Name xd p1] (.Call (.Name xf p2) [.Name xs p3] [] p4) p5) (tAsg (tCall (spDeck K) [] E0 (tCons (tVar 0) tNil)) (gName 1)))
    (h2 : ∀ (cdv : Value) (A : Around) (outer : List Env) (s0 : Shared) (H : Hp) (E : XK), Room k (A.deeper (envOfC qual (defScope st) s0.heap.objs.size f cdv)) → PDSs (cxOf CX0 P w K mg base N qual (defScope st) f cdv A outer s0 H E).nox rest s)
    (hm : ∀ ns : List Int, ns.length ≤ 63 → ∃ ρ' δ', s (slots N.length [.no, .deck]) (deckOf ns) = some (.rt (.bool true), ρ', δ')) :
    FnOk P w K mg base CX0 (k + 1) f fd [xs] (spLaw K) := by
  refine F.ok S (fun vs H Q E h => ?_) (fun cdv A outer s0 H vs Q E hr h => ?_)
  · obtain ⟨a, ns, rfl, _⟩ := h
    rfl
  · obtain ⟨a, ns, rfl, hS, hn, q⟩ := h
    obtain ⟨t, w2, s2⟩ := (h2 cdv A outer s0 H E hr).ex
    rw [hbd]
    refine ⟨_, pss_cons (h1 cdv A outer s0 H E hr) w2, ?_⟩
    refine ⟨.ref a, start_get rfl, a, ns, rfl, hS, fun p H' sm dk => ?_⟩
    obtain ⟨ρ', δ', hm⟩ := hm ns hn
    have hge : ∀ (i : Nat) x, (slots N.length [Sl.no, Sl.deck])[i]? = some x → x = .no ∨ (i = 1 ∧ x = .deck) := fun i x h => by
      rcases slots_get h with h | h
      · match i, h with
        | 0, h => cases h; exact .inl rfl
        | 1, h => cases h; exact .inr ⟨rfl, rfl⟩
        | i + 2, h => cases h
      · exact .inl h
    have G : Good K ⟨fun a => a = p.1 ∨ a = p.2, some p, H'⟩ ((L2.start N [.ref a]).set 1 (some (.ref p.1))) H' (slots N.length [.no, .deck]) (deckOf ns) := by
      refine ⟨?_, fun i d h => ?_, fun i ds h => ?_, fun i j ds _ _ h => ?_, fun b hb => ?_, fun i h => ?_, fun p' h => ?_, fun _ _ e _ => e⟩
      · unfold L2.start slots
        simp only [List.length_set, List.length_append, List.length_map, List.length_replicate, List.length_cons, List.length_nil]
        omega
      · rcases hge i _ h with h | ⟨_, h⟩ <;> cases h
      · rcases hge i _ h with h | ⟨_, h⟩ <;> cases h
      · rcases hge i _ h with h | ⟨_, h⟩ <;> cases h
      · rcases hb with rfl | rfl
        · rw [dk.one]; exact fun z => nomatch z
        · rw [dk.two]; exact fun z => nomatch z
      · rcases hge i _ h with h | ⟨rfl, _⟩
        · cases h
        · exact ⟨p, rfl, List.getElem?_set_self (by unfold L2.start; simp only [List.length_append, List.length_map, List.length_replicate, List.length_cons, List.length_nil]; omega)⟩
      · cases h
        exact ⟨.inl rfl, .inr rfl, dk⟩
    refine s2 _ _ H' _ _ _ ρ' δ' G hm _ fun σ' H2 G2 M2 v R => ?_
    cases R
    exact q H2
end
end PD

namespace PD
open PySem PySem.Spec PyProof.Rows L2
/-! ### operators at their kinds -/
theorem addD_int (i j : Int) : addD (.int i) (.int j) = some (.int (i + j)) := rfl
theorem addD_str {x y : Str} (h : x.length + y.length ≤ sizeLine) : addD (.str x) (.str y) = some (.str (x ++ y)) := by
  show (Option.orElse none fun _ => Option.orElse (if decide (x.length + y.length ≤ sizeLine) = true then some (PyData.str (x ++ y)) else none) _) = _
  rw [if_pos (decide_eq_true h)]; rfl
theorem addD_lst {x y : List D} (h : x.length + y.length ≤ sizeLine) : addD (.list x) (.list y) = some (.list (x ++ y)) := by
  show (Option.orElse none fun _ => Option.orElse none fun _ => Option.orElse (if x.length + y.length ≤ sizeLine then some (PyData.list (x ++ y)) else none) _) = _
  rw [if_pos h]; rfl
theorem addD_tup {x y : List D} (h : x.length + y.length ≤ sizeLine) : addD (.tuple x) (.tuple y) = some (.tuple (x ++ y)) := by
  show (Option.orElse none fun _ => Option.orElse none fun _ => Option.orElse none fun _ => (if x.length + y.length ≤ sizeLine then some (PyData.tuple (x ++ y)) else none)) = _
  rw [if_pos h]; rfl
theorem subD_int (i j : Int) : subD (.int i) (.int j) = some (.int (i - j)) := rfl
theorem mulD_int {i j : Int} (h : mulOk i j = true) : mulD (.int i) (.int j) = some (.int (i * j)) := by
  show (Option.orElse (if mulOk i j = true then some (PyData.int (i * j)) else none) _) = _
  rw [if_pos h]; rfl
theorem modD_int {i j : Int} (h : 0 < j) : modD (.int i) (.int j) = some (.int (i % j)) := if_pos (decide_eq_true h)
theorem fdivD_int {i j : Int} (h : 0 < j) (h' : j.natAbs.log2 < 9000) : fdivD (.int i) (.int j) = some (.int (i / j)) := if_pos (decide_eq_true ⟨h, h'⟩)
theorem powD_int {i j : Int} (h : 0 ≤ j) (h1 : j ≤ 1000000) (h2 : i.natAbs < 2 ^ 64) : powD (.int i) (.int j) = some (.int (i ^ j.toNat)) := if_pos (decide_eq_true ⟨h, h1, h2⟩)
theorem ltD_int (i j : Int) : ltD (.int i) (.int j) = some (.bool (decide (i < j))) := rfl
theorem leD_int (i j : Int) : leD (.int i) (.int j) = some (.bool (decide (i ≤ j))) := rfl
theorem gtD_int (i j : Int) : gtD (.int i) (.int j) = some (.bool (decide (j < i))) := rfl
theorem geD_int (i j : Int) : geD (.int i) (.int j) = some (.bool (decide (j ≤ i))) := rfl
theorem eqD_int (i j : Int) : eqD (.int i) (.int j) = some (.bool (decide (i = j))) := by
  show some (PyData.bool (i == j)) = _
  rw [Bool.eq_iff_iff.mpr (by simp : (i == j) = true ↔ decide (i = j) = true)]
theorem eqD_bool (i j : Bool) : eqD (.bool i) (.bool j) = some (.bool (i == j)) := rfl
theorem neD_bool (i j : Bool) : neD (.bool i) (.bool j) = some (.bool (!(i == j))) := rfl
theorem eqD_str {x y : Str} (h : PyData.strOk x = true) (h' : PyData.strOk y = true) : eqD (.str x) (.str y) = some (.bool (decide (x = y))) := by
  unfold eqD
  have h1 : SeqAt.shaped (.str x) = true := by simp [SeqAt.shaped, PyData.canLay0, PyData.depth, h]
  have h2 : SeqAt.shaped (.str y) = true := by simp [SeqAt.shaped, PyData.canLay0, PyData.depth, h']
  rw [h1, h2]
  show some (PyData.bool (x == y)) = _
  rw [show (x == y) = decide (x = y) from Bool.eq_iff_iff.mpr (by simp)]
theorem ix_lst (ds : List D) (i : Int) {d : D} (h : atI ds i = some d) : subD' (.list ds) (.int i) = some d := by
  show (Option.orElse (atI ds i) _) = _
  rw [h]; rfl
theorem ix_tupl (ds : List D) (i : Int) {d : D} (h : atI ds i = some d) : subD' (.tuple ds) (.int i) = some d := by
  show (Option.orElse (atI ds i) _) = _
  rw [h]; rfl
/-! ### statements one behind another -/
theorem seq_nx {a b : MS} {ρ ρ1 : List Sl} {δ δ1 : Dk} (h : a ρ δ = some (.nx, ρ1, δ1)) : sSeq a b ρ δ = b ρ1 δ1 := by unfold sSeq; rw [h]; rfl
theorem seq_rt {a b : MS} {ρ ρ1 : List Sl} {δ δ1 : Dk} {d : D} (h : a ρ δ = some (.rt d, ρ1, δ1)) : sSeq a b ρ δ = some (.rt d, ρ1, δ1) := by unfold sSeq; rw [h]; rfl
theorem asg_eq {m : ME} {g : MG} {ρ ρ1 : List Sl} {δ δ1 : Dk} {d : D} (h : m ρ δ = some (d, δ1)) (hg : g d ρ = some ρ1) : sAsg m g ρ δ = some (.nx, ρ1, δ1) := by unfold sAsg; rw [h]; simp [hg]
theorem ret_eq {m : ME} {ρ : List Sl} {δ δ1 : Dk} {d : D} (h : m ρ δ = some (d, δ1)) : sRet m ρ δ = some (.rt d, ρ, δ1) := by unfold sRet; rw [h]; rfl
theorem if_t {c : MT} {a b : MS} {ρ : List Sl} {δ δ1 : Dk} (h : c ρ δ = some (true, δ1)) : sIf c a b ρ δ = a ρ δ1 := by unfold sIf; rw [h]; rfl
theorem if_f {c : MT} {a b : MS} {ρ : List Sl} {δ δ1 : Dk} (h : c ρ δ = some (false, δ1)) : sIf c a b ρ δ = b ρ δ1 := by unfold sIf; rw [h]; rfl
theorem bin_eq {f : D → D → Option D} {a b : ME} {ρ : List Sl} {δ δ1 δ2 : Dk} {x y z : D} (h1 : a ρ δ = some (x, δ1)) (h2 : b ρ δ1 = some (y, δ2)) (h3 : f x y = some z) : mBin f a b ρ δ = some (z, δ2) := by
  unfold mBin; rw [h1]; simp only [Option.bind_some]; rw [h2]; simp only [Option.bind_some]; rw [h3]; rfl
theorem mB_eq {m : ME} {ρ : List Sl} {δ δ1 : Dk} {b : Bool} (h : m ρ δ = some (.bool b, δ1)) : mB m ρ δ = some (b, δ1) := by unfold mB; rw [h]; rfl
theorem un_eq {f : D → Option D} {a : ME} {ρ : List Sl} {δ δ1 : Dk} {x z : D} (h1 : a ρ δ = some (x, δ1)) (h3 : f x = some z) : mUn f a ρ δ = some (z, δ1) := by
  unfold mUn; rw [h1]; simp only [Option.bind_some]; rw [h3]; rfl
theorem callK_eq {i : Nat} {m : List D → Dk → Option (D × Dk)} {r : MA} {ρ : List Sl} {δ δ1 δ2 : Dk} {ds : List D} {z : D} (hi : ρ[i]? = some .deck) (h1 : r ρ δ = some (ds, δ1)) (h2 : m ds δ1 = some (z, δ2)) : mCallK i m r ρ δ = some (z, δ2) := by
  unfold mCallK; rw [hi]; simp only; rw [h1]; exact h2
theorem call_eq {f : List D → Option D} {r : MA} {ρ : List Sl} {δ δ1 : Dk} {ds : List D} {z : D} (h1 : r ρ δ = some (ds, δ1)) (h2 : f ds = some z) : mCall f r ρ δ = some (z, δ1) := by
  unfold mCall; rw [h1]; simp only [Option.bind_some]; rw [h2]; rfl
theorem cons_eq {a : ME} {r : MA} {ρ : List Sl} {δ δ1 δ2 : Dk} {x : D} {xs : List D} (h1 : a ρ δ = some (x, δ1)) (h2 : r ρ δ1 = some (xs, δ2)) : mCons a r ρ δ = some (x :: xs, δ2) := by
  unfold mCons; rw [h1]; simp only [Option.bind_some]; rw [h2]; rfl
theorem sl_eq {a : ME} {lo hi : MO} {ρ : List Sl} {δ δ1 δ2 δ3 : Dk} {x z : D} {l h : Option Int} (h1 : a ρ δ = some (x, δ1)) (h2 : lo ρ δ1 = some (l, δ2)) (h3 : hi ρ δ2 = some (h, δ3)) (h4 : slD l h x = some z) : mSl a lo hi ρ δ = some (z, δ3) := by
  unfold mSl; rw [h1]; simp only [Option.bind_some]; rw [h2]; simp only [Option.bind_some]; rw [h3]; simp only [Option.bind_some]; rw [h4]; rfl
theorem os_eq {m : ME} {ρ : List Sl} {δ δ1 : Dk} {i : Int} (h : m ρ δ = some (.int i, δ1)) : oSome m ρ δ = some (some i, δ1) := by unfold oSome; rw [h]; rfl
theorem lst_eq {r : MA} {ρ : List Sl} {δ δ1 : Dk} {ds : List D} (h : r ρ δ = some (ds, δ1)) (hz : ds.length ≤ sizeLine) : mLst r ρ δ = some (.list ds, δ1) := by unfold mLst; rw [h]; simp only [Option.bind_some]; rw [if_pos hz]
theorem tup_eq {r : MA} {ρ : List Sl} {δ δ1 : Dk} {ds : List D} (h : r ρ δ = some (ds, δ1)) (hz : ds.length ≤ sizeLine) : mTup r ρ δ = some (.tuple ds, δ1) := by unfold mTup; rw [h]; simp only [Option.bind_some]; rw [if_pos hz]
theorem tru_eq {m : ME} {ρ : List Sl} {δ δ1 : Dk} {d : D} {b : Bool} (h : m ρ δ = some (d, δ1)) (h2 : truD d = some b) : mTru m ρ δ = some (b, δ1) := by unfold mTru; rw [h]; simp only [Option.bind_some]; rw [h2]; rfl
theorem lc_eq {mi : MA} {vs : List Nat} {g : MG} {tt : MT} {te : ME} {ρ : List Sl} {δ δ1 δ2 : Dk} {ds out : List D} (h1 : mi ρ δ = some (ds, δ1)) (hu : noU ρ vs = true) (h2 : compL g tt te (wipeR ρ vs) ds δ1 = some (out, δ2)) (hz : out.length ≤ sizeLine) : mLc mi vs g tt te ρ δ = some (.list out, δ2) := by
  unfold mLc; rw [h1]; simp only [Option.bind_some]; rw [if_pos hu, h2]; simp only [Option.bind_some]; rw [if_pos hz]
theorem it_eq {m : ME} {ρ : List Sl} {δ δ1 : Dk} {d : D} {ds : List D} (h : m ρ δ = some (d, δ1)) (h2 : itemsD d = some ds) : mItems m ρ δ = some (ds, δ1) := by unfold mItems; rw [h]; simp only [Option.bind_some]; rw [h2]; rfl
theorem inB_nat {j : Nat} (h : j ≤ 1000000) : inB (j : Int) = true := by
  have h1 : (-(4611686018427387904 : Int)) ≤ (j : Int) := by omega
  have h2 : (j : Int) < 4611686018427387904 := by omega
  have e : (2 : Int) ^ 62 = 4611686018427387904 := by decide
  unfold inB
  rw [e]
  exact decide_eq_true ⟨h1, h2⟩
def rngL (j : Nat) : List D := (List.range j).map fun (i : Nat) => .int (i : Int)
theorem rngL_eq (j : Nat) : ((List.range (j : Int).toNat).map fun (i : Nat) => PyData.int (0 + (i : Int))) = rngL j := by
  unfold rngL
  rw [Int.toNat_natCast]
  congr 1
  funext i
  rw [Int.zero_add]
theorem rng_eq {m : ME} {ρ : List Sl} {δ δ1 : Dk} {j : Nat} (h : m ρ δ = some (.int j, δ1)) (h2 : j ≤ 1000000) : mRng1 m ρ δ = some (rngL j, δ1) := by
  unfold mRng1
  rw [h, Option.bind_some]
  dsimp only
  rw [if_pos (inB_nat h2), rngL_eq]
/-- a comprehension without a draw: each item's element -/
theorem compL_map {α : Type} {g : MG} {te : ME} {ρ : List Sl} {δ : Dk} (enc : α → D) (f : α → D) : ∀ xs : List α, (∀ x ∈ xs, ∃ ρ2, g (enc x) ρ = some ρ2 ∧ te ρ2 δ = some (f x, δ)) → compL g mYes te ρ (xs.map enc) δ = some (xs.map f, δ)
  | [], _ => rfl
  | d :: ds, h => by
    obtain ⟨ρ2, e1, e2⟩ := h d (.head _)
    rw [List.map_cons]
    unfold compL
    rw [e1]
    simp only [Option.bind_some, mYes, ↓reduceIte]
    rw [e2]
    simp only [Option.bind_some]
    rw [compL_map enc f ds fun x hx => h x (.tail _ hx)]
    rfl
theorem compL_filter {α : Type} {g : MG} {tt : MT} {te : ME} {ρ : List Sl} {δ : Dk} (enc : α → D) (p : α → Bool) (f : α → D) : ∀ xs : List α, (∀ x ∈ xs, ∃ ρ2, g (enc x) ρ = some ρ2 ∧ tt ρ2 δ = some (p x, δ) ∧ (p x = true → te ρ2 δ = some (f x, δ))) → compL g tt te ρ (xs.map enc) δ = some ((xs.filter p).map f, δ)
  | [], _ => rfl
  | d :: ds, h => by
    obtain ⟨ρ2, e1, e2, e3⟩ := h d (.head _)
    rw [List.map_cons]
    unfold compL
    rw [e1]
    simp only [Option.bind_some]
    rw [e2]
    simp only [Option.bind_some]
    have ih := compL_filter enc p f ds fun x hx => h x (.tail _ hx)
    cases hp : p d with
    | false =>
      rw [List.filter_cons_of_neg (by rw [hp]; exact Bool.false_ne_true)]
      simp only [Bool.false_eq_true, ↓reduceIte]
      exact ih
    | true =>
      rw [List.filter_cons_of_pos hp]
      simp only [↓reduceIte]
      rw [e3 hp]
      simp only [Option.bind_some]
      rw [ih]
      rfl
theorem boolsD_map : ∀ bs : List Bool, boolsD (bs.map .bool) = some bs
  | [] => rfl
  | b :: r => by rw [List.map_cons]; unfold boolsD; rw [boolsD_map r]; rfl
theorem strsD_map : ∀ bs : List Str, strsD (bs.map .str) = some bs
  | [] => rfl
  | b :: r => by rw [List.map_cons]; unfold strsD; rw [strsD_map r]; rfl
/-- data that may be compared, so deep -/
def Sh (k : Nat) (d : D) : Prop := d.canLay0 = true ∧ d.depth ≤ k
theorem Sh.all {k : Nat} : ∀ {ds : List D}, (∀ d ∈ ds, Sh k d) → PyData.canLayAll0 ds = true ∧ PyData.depthAll ds ≤ k
  | [], _ => ⟨by simp [PyData.canLayAll0], by simp [PyData.depthAll]⟩
  | d :: ds, h => by
    obtain ⟨a1, a2⟩ := h d (.head _)
    obtain ⟨b1, b2⟩ := Sh.all (ds := ds) fun x hx => h x (.tail _ hx)
    refine ⟨by simp [PyData.canLayAll0, a1, b1], ?_⟩
    simp only [PyData.depthAll]
    omega
theorem Sh.lst {k : Nat} {ds : List D} (h : ∀ d ∈ ds, Sh k d) : Sh (k + 1) (.list ds) := by
  obtain ⟨a, b⟩ := Sh.all h
  exact ⟨by simp [PyData.canLay0, a], by simp only [PyData.depth]; omega⟩
theorem Sh.tup {k : Nat} {ds : List D} (h : ∀ d ∈ ds, Sh k d) : Sh (k + 1) (.tuple ds) := by
  obtain ⟨a, b⟩ := Sh.all h
  exact ⟨by simp [PyData.canLay0, a], by simp only [PyData.depth]; omega⟩
theorem Sh.int (i : Int) : Sh 0 (.int i) := ⟨by simp [PyData.canLay0], by simp [PyData.depth]⟩
theorem Sh.bool (i : Bool) : Sh 0 (.bool i) := ⟨by simp [PyData.canLay0], by simp [PyData.depth]⟩
theorem Sh.str {x : Str} (h : PyData.strOk x = true) : Sh 0 (.str x) := ⟨by simp [PyData.canLay0, h], by simp [PyData.depth]⟩
theorem Sh.mono {k l : Nat} {d : D} (h : Sh k d) (hl : k ≤ l) : Sh l d := ⟨h.1, Nat.le_trans h.2 hl⟩
theorem Sh.ok {k : Nat} {d : D} (h : Sh k d) (hl : k ≤ 64) : SeqAt.shaped d = true := by
  unfold SeqAt.shaped
  rw [h.1, decide_eq_true (Nat.le_trans h.2 hl)]
  rfl
theorem eqD_of {k l : Nat} {d e : D} (h : Sh k d) (h' : Sh l e) (hk : k ≤ 64) (hl : l ≤ 64) : eqD d e = some (.bool (PyData.eqv d e)) := by
  unfold eqD
  rw [h.ok hk, h'.ok hl]; rfl
theorem neD_of {k l : Nat} {d e : D} (h : Sh k d) (h' : Sh l e) (hk : k ≤ 64) (hl : l ≤ 64) : neD d e = some (.bool (!PyData.eqv d e)) := by
  unfold neD
  rw [h.ok hk, h'.ok hl]; rfl
theorem eqv_nil (ds : List D) : PyData.eqv (.list ds) (.list []) = ds.isEmpty := by cases ds <;> simp [PyData.eqv, PyData.eqvAll]
theorem eqv_nilT (ds : List D) : PyData.eqv (.tuple ds) (.tuple []) = ds.isEmpty := by cases ds <;> simp [PyData.eqv, PyData.eqvAll]
/-- a comprehension that draws: an invariant of the deck by the turn -/
theorem compL_inv {g : MG} {te : ME} {ρ : List Sl} (I : Nat → Dk → Prop) (R : D → D → Prop) : ∀ (ds : List D) (n : Nat) (δ : Dk), I n δ → (∀ d ∈ ds, ∀ (k : Nat) δ, k < n + ds.length → I k δ → ∃ ρ2 z δ', g d ρ = some ρ2 ∧ te ρ2 δ = some (z, δ') ∧ R d z ∧ I (k + 1) δ') →
    ∃ out δ', compL g mYes te ρ ds δ = some (out, δ') ∧ I (n + ds.length) δ' ∧ Paired R ds out
  | [], n, δ, h, _ => ⟨[], δ, rfl, h, .nil⟩
  | d :: ds, n, δ, h, hs => by
    obtain ⟨ρ2, z, δ1, e1, e2, r, h1⟩ := hs d (.head _) n δ (by simp) h
    obtain ⟨out, δ', e3, h3, r3⟩ := compL_inv I R ds (n + 1) δ1 h1 fun x hx k δ hk => hs x (.tail _ hx) k δ (by simp; omega)
    refine ⟨z :: out, δ', ?_, by rw [show n + (d :: ds).length = n + 1 + ds.length by simp; omega]; exact h3, .cons r r3⟩
    unfold compL
    rw [e1]
    simp only [Option.bind_some, mYes, ↓reduceIte]
    rw [e2]
    simp only [Option.bind_some]
    rw [e3]
    rfl
theorem fnP_eq {n np : Nat} {s : MS} {ds : List D} {d : D} {ρ' : List Sl} {δ' : Dk} (hl : ds.length = np ∧ np ≤ n) (h : s (slots n (ds.map .val)) ⟨[], 0⟩ = some (.rt d, ρ', δ')) : fnP n np s ds = some d := by
  unfold fnP
  rw [if_pos hl, h]; rfl
theorem fnK_eq {n np : Nat} {s : MS} {ds : List D} {d : D} {ρ' : List Sl} {δ δ' : Dk} (hl : ds.length + 1 = np ∧ np ≤ n) (h : s (slots n (.deck :: ds.map .val)) δ = some (.rt d, ρ', δ')) : fnK n np s ds δ = some (d, δ') := by
  unfold fnK
  rw [if_pos hl, h]; rfl
end PD

set_option maxHeartbeats 1000000
namespace K02
open PySem PySem.Spec PyProof.Rows L2 PD
def topS (i : Nat) : Stmt := PySem.Challenge.pw_tonguehouse_k02_forms_of_counts.main.body.getD i (.Pass ⟨0, 0, 0, 0⟩)
abbrev s_scale_of : Stmt := topS 1
abbrev N_scale_of : List Str := ["places", "scale", "place"]
theorem sc_scale_of : FnScope N_scale_of ["places"] (defScope s_scale_of) := ⟨rfl, rfl, rfl, by decide +kernel, rfl, by decide +kernel, by decide +kernel⟩
abbrev s_parts_of : Stmt := topS 2
abbrev N_parts_of : List Str := ["count", "n", "places", "whole", "rest"]
theorem sc_parts_of : FnScope N_parts_of ["count"] (defScope s_parts_of) := ⟨rfl, rfl, rfl, by decide +kernel, rfl, by decide +kernel, by decide +kernel⟩
abbrev s_holds_of : Stmt := topS 3
abbrev N_holds_of : List Str := ["test", "number", "what", "by", "low", "high", "yes", "left"]
theorem sc_holds_of : FnScope N_holds_of ["test", "number"] (defScope s_holds_of) := ⟨rfl, rfl, rfl, by decide +kernel, rfl, by decide +kernel, by decide +kernel⟩
abbrev s_rule_holds : Stmt := topS 4
abbrev N_rule_holds : List Str := ["rule", "parts", "test", "row"]
theorem sc_rule_holds : FnScope N_rule_holds ["rule", "parts"] (defScope s_rule_holds) := ⟨rfl, rfl, rfl, by decide +kernel, rfl, by decide +kernel, by decide +kernel⟩
abbrev s_forms_of : Stmt := topS 5
abbrev N_forms_of : List Str := ["forms", "count", "parts", "word", "rule"]
theorem sc_forms_of : FnScope N_forms_of ["forms", "count"] (defScope s_forms_of) := ⟨rfl, rfl, rfl, by decide +kernel, rfl, by decide +kernel, by decide +kernel⟩
abbrev s_l_deck : Stmt := topS 7
abbrev N_l_deck : List Str := ["_law_script", "_law_cell"]
theorem sc_l_deck : FnScope N_l_deck ["_law_script"] (defScope s_l_deck) := ⟨rfl, rfl, rfl, by decide +kernel, rfl, by decide +kernel, by decide +kernel⟩
abbrev s_l_draw : Stmt := topS 8
abbrev N_l_draw : List Str := ["_law_deck_here", "_law_many", "_law_cell", "_law_place"]
theorem sc_l_draw : FnScope N_l_draw ["_law_deck_here", "_law_many"] (defScope s_l_draw) := ⟨rfl, rfl, rfl, by decide +kernel, rfl, by decide +kernel, by decide +kernel⟩
abbrev s_l_names : Stmt := topS 9
abbrev N_l_names : List Str := ["_law_deck_here", "_law_many", "_law_letters", "_law_stem", "_law_k", "_law_at", "_law_first"]
theorem sc_l_names : FnScope N_l_names ["_law_deck_here", "_law_many"] (defScope s_l_names) := ⟨rfl, rfl, rfl, by decide +kernel, rfl, by decide +kernel, by decide +kernel⟩
abbrev s_l_test : Stmt := topS 10
abbrev N_l_test : List Str := ["_law_deck_here", "_law_menu", "_law_what", "_law_by", "_law_top", "_law_low", "_law_high"]
theorem sc_l_test : FnScope N_l_test ["_law_deck_here", "_law_menu"] (defScope s_l_test) := ⟨rfl, rfl, rfl, by decide +kernel, rfl, by decide +kernel, by decide +kernel⟩
abbrev s_l_turned : Stmt := topS 11
abbrev N_l_turned : List Str := ["_law_test_here"]
theorem sc_l_turned : FnScope N_l_turned ["_law_test_here"] (defScope s_l_turned) := ⟨rfl, rfl, rfl, by decide +kernel, rfl, by decide +kernel, by decide +kernel⟩
abbrev s_l_covering : Stmt := topS 12
abbrev N_l_covering : List Str := ["_law_deck_here", "_law_menu", "_law_by", "_law_tests", "_law_k", "_law_rows", "_law_test_here", "_law_names_here", "_law_many", "_law_rules", "_law_forms", "_law_first"]
theorem sc_l_covering : FnScope N_l_covering ["_law_deck_here"] (defScope s_l_covering) := ⟨rfl, rfl, rfl, by decide +kernel, rfl, by decide +kernel, by decide +kernel⟩
abbrev s_l_holds : Stmt := topS 13
abbrev N_l_holds : List Str := ["_law_test_here", "_law_n", "_law_d", "_law_what", "_law_by", "_law_low", "_law_high", "_law_yes", "_law_ten", "_law_number"]
theorem sc_l_holds : FnScope N_l_holds ["_law_test_here", "_law_n", "_law_d"] (defScope s_l_holds) := ⟨rfl, rfl, rfl, by decide +kernel, rfl, by decide +kernel, by decide +kernel⟩
abbrev s_l_words : Stmt := topS 14
abbrev N_l_words : List Str := ["_law_forms", "_law_n", "_law_d", "_law_found", "_law_word", "_law_rule", "_law_row", "_law_test_here"]
theorem sc_l_words : FnScope N_l_words ["_law_forms", "_law_n", "_law_d"] (defScope s_l_words) := ⟨rfl, rfl, rfl, by decide +kernel, rfl, by decide +kernel, by decide +kernel⟩
abbrev s_l_bent_forms : Stmt := topS 15
abbrev N_l_bent_forms : List Str := ["_law_deck_here", "_law_forms", "_law_at", "_law_word", "_law_rule", "_law_way", "_law_spot", "_law_row", "_law_k", "_law_what", "_law_by", "_law_low", "_law_high", "_law_yes", "_law_far", "_law_name", "_law_one", "_law_other"]
theorem sc_l_bent_forms : FnScope N_l_bent_forms ["_law_deck_here", "_law_forms"] (defScope s_l_bent_forms) := ⟨rfl, rfl, rfl, by decide +kernel, rfl, by decide +kernel, by decide +kernel⟩
abbrev s_l_count : Stmt := topS 16
abbrev N_l_count : List Str := ["_law_deck_here", "_law_d", "_law_way", "_law_n"]
theorem sc_l_count : FnScope N_l_count ["_law_deck_here"] (defScope s_l_count) := ⟨rfl, rfl, rfl, by decide +kernel, rfl, by decide +kernel, by decide +kernel⟩
abbrev s_l_right : Stmt := topS 17
abbrev N_l_right : List Str := ["_law_forms", "_law_count_here", "_law_covers", "_law_found", "_law_due"]
theorem sc_l_right : FnScope N_l_right ["_law_forms", "_law_count_here", "_law_covers"] (defScope s_l_right) := ⟨rfl, rfl, rfl, by decide +kernel, rfl, by decide +kernel, by decide +kernel⟩
abbrev s_law : Stmt := topS 18
abbrev N_law : List Str := ["_law_script", "_law_deck_here", "_law_forms", "_law_other", "_law_counts", "_law_k", "_law_count_here", "_law_some"]
theorem sc_law : FnScope N_law ["_law_script"] (defScope s_law) := ⟨rfl, rfl, rfl, by decide +kernel, rfl, by decide +kernel, by decide +kernel⟩
structure Tx (K : PySem.W.Frag) (mg : Str → Option Value) where
  a_scale_of : Addr
  d_scale_of : FuncData
  F_scale_of : Fun K "scale_of" "scale_of" s_scale_of a_scale_of d_scale_of
  g_scale_of : mg "scale_of" = some (.ref a_scale_of)
  b_scale_of : Binds K d_scale_of ["places"] []
  a_parts_of : Addr
  d_parts_of : FuncData
  F_parts_of : Fun K "parts_of" "parts_of" s_parts_of a_parts_of d_parts_of
  g_parts_of : mg "parts_of" = some (.ref a_parts_of)
  b_parts_of : Binds K d_parts_of ["count"] []
  a_holds_of : Addr
  d_holds_of : FuncData
  F_holds_of : Fun K "holds_of" "holds_of" s_holds_of a_holds_of d_holds_of
  g_holds_of : mg "holds_of" = some (.ref a_holds_of)
  b_holds_of : Binds K d_holds_of ["test", "number"] []
  a_rule_holds : Addr
  d_rule_holds : FuncData
  F_rule_holds : Fun K "rule_holds" "rule_holds" s_rule_holds a_rule_holds d_rule_holds
  g_rule_holds : mg "rule_holds" = some (.ref a_rule_holds)
  b_rule_holds : Binds K d_rule_holds ["rule", "parts"] []
  a_forms_of : Addr
  d_forms_of : FuncData
  F_forms_of : Fun K "forms_of" "forms_of" s_forms_of a_forms_of d_forms_of
  g_forms_of : mg "forms_of" = some (.ref a_forms_of)
  b_forms_of : Binds K d_forms_of ["forms", "count"] []
  a_l_deck : Addr
  d_l_deck : FuncData
  F_l_deck : Fun K "_law_deck" "_law_deck" s_l_deck a_l_deck d_l_deck
  g_l_deck : mg "_law_deck" = some (.ref a_l_deck)
  b_l_deck : Binds K d_l_deck ["_law_script"] []
  a_l_draw : Addr
  d_l_draw : FuncData
  F_l_draw : Fun K "_law_draw" "_law_draw" s_l_draw a_l_draw d_l_draw
  g_l_draw : mg "_law_draw" = some (.ref a_l_draw)
  b_l_draw : Binds K d_l_draw ["_law_deck_here", "_law_many"] []
  a_l_names : Addr
  d_l_names : FuncData
  F_l_names : Fun K "_law_names" "_law_names" s_l_names a_l_names d_l_names
  g_l_names : mg "_law_names" = some (.ref a_l_names)
  b_l_names : Binds K d_l_names ["_law_deck_here", "_law_many"] []
  a_l_test : Addr
  d_l_test : FuncData
  F_l_test : Fun K "_law_test" "_law_test" s_l_test a_l_test d_l_test
  g_l_test : mg "_law_test" = some (.ref a_l_test)
  b_l_test : Binds K d_l_test ["_law_deck_here", "_law_menu"] []
  a_l_turned : Addr
  d_l_turned : FuncData
  F_l_turned : Fun K "_law_turned" "_law_turned" s_l_turned a_l_turned d_l_turned
  g_l_turned : mg "_law_turned" = some (.ref a_l_turned)
  b_l_turned : Binds K d_l_turned ["_law_test_here"] []
  a_l_covering : Addr
  d_l_covering : FuncData
  F_l_covering : Fun K "_law_covering" "_law_covering" s_l_covering a_l_covering d_l_covering
  g_l_covering : mg "_law_covering" = some (.ref a_l_covering)
  b_l_covering : Binds K d_l_covering ["_law_deck_here"] []
  a_l_holds : Addr
  d_l_holds : FuncData
  F_l_holds : Fun K "_law_holds" "_law_holds" s_l_holds a_l_holds d_l_holds
  g_l_holds : mg "_law_holds" = some (.ref a_l_holds)
  b_l_holds : Binds K d_l_holds ["_law_test_here", "_law_n", "_law_d"] []
  a_l_words : Addr
  d_l_words : FuncData
  F_l_words : Fun K "_law_words" "_law_words" s_l_words a_l_words d_l_words
  g_l_words : mg "_law_words" = some (.ref a_l_words)
  b_l_words : Binds K d_l_words ["_law_forms", "_law_n", "_law_d"] []
  a_l_bent_forms : Addr
  d_l_bent_forms : FuncData
  F_l_bent_forms : Fun K "_law_bent_forms" "_law_bent_forms" s_l_bent_forms a_l_bent_forms d_l_bent_forms
  g_l_bent_forms : mg "_law_bent_forms" = some (.ref a_l_bent_forms)
  b_l_bent_forms : Binds K d_l_bent_forms ["_law_deck_here", "_law_forms"] []
  a_l_count : Addr
  d_l_count : FuncData
  F_l_count : Fun K "_law_count" "_law_count" s_l_count a_l_count d_l_count
  g_l_count : mg "_law_count" = some (.ref a_l_count)
  b_l_count : Binds K d_l_count ["_law_deck_here"] []
  a_l_right : Addr
  d_l_right : FuncData
  F_l_right : Fun K "_law_right" "_law_right" s_l_right a_l_right d_l_right
  g_l_right : mg "_law_right" = some (.ref a_l_right)
  b_l_right : Binds K d_l_right ["_law_forms", "_law_count_here", "_law_covers"] []
  a_law : Addr
  d_law : FuncData
  F_law : Fun K "law" "law" s_law a_law d_law
  g_law : mg "law" = some (.ref a_law)
  b_law : Binds K d_law ["_law_script"] []
  m_abs : mg "abs" = none
  m_all : mg "all" = none
  m_any : mg "any" = none
  m_divmod : mg "divmod" = none
  m_int : mg "int" = none
  m_isinstance : mg "isinstance" = none
  m_len : mg "len" = none
  m_list : mg "list" = none
  m_max : mg "max" = none
  m_min : mg "min" = none
  m_range : mg "range" = none
  m_tuple : mg "tuple" = none
section
variable {P : Program} {w : World} {K : PySem.W.Frag} {mg : Str → Option Value} {base : Heap}
def m_scale_of : MS := (sSeq (sAsg (mC (.int 1)) (gSet 1))
  (sSeq (sFor (mRng1 (mVar 0)) (gSet 2) (sAug 1 mulI (mC (.int 10))))
  (sRet (mVar 1))))
def f_scale_of : List D → Option D := fnP 3 1 m_scale_of
theorem ok_scale_of (T : Tx K mg) : FnOk P w K mg base CX0 1 T.a_scale_of T.d_scale_of ["places"] (spP K f_scale_of) := okP (k := 0) T.F_scale_of sc_scale_of (by decide) fun cdv A outer s0 H E hr =>
  ((pdss_cons (pds_set 1 sc_scale_of.nd pd_int) (pdss_cons (pds_for PassesOwn.never rfl (pdi_range1 T.m_range (pd_var 0)) (pdg_name 2 sc_scale_of.nd) (pdss_one (pds_aug 1 sc_scale_of.nd as_mul pd_int))) (pdss_one (pds_ret (pd_var 1))))) : PDSs _ _ m_scale_of)
def m_holds_of : MS := (sSeq (sAsg (mVar 0) (gTupM 5 (gsCons (gSet 2) (gsCons (gSet 3) (gsCons (gSet 4) (gsCons (gSet 5) (gsCons (gSet 6) gsNil)))))))
  (sSeq (sAsg (mIf (mB (mBin eqD (mVar 3) (mC (.int 0)))) (mVar 1) (mBin modD (mVar 1) (mVar 3))) (gSet 7))
  (sRet (mBin eqD (mChain leD leD (mVar 4) (mVar 7) (mVar 5)) (mVar 6)))))
def f_holds_of : List D → Option D := fnP 8 2 m_holds_of
theorem ok_holds_of (T : Tx K mg) : FnOk P w K mg base CX0 1 T.a_holds_of T.d_holds_of ["test", "number"] (spP K f_holds_of) := okP (k := 0) T.F_holds_of sc_holds_of (by decide) fun cdv A outer s0 H E hr =>
  ((pdss_cons (pds_asg (pd_var 0) (pdg_tup rfl (pdgs_cons (pdg_name 2 sc_holds_of.nd) (pdgs_cons (pdg_name 3 sc_holds_of.nd) (pdgs_cons (pdg_name 4 sc_holds_of.nd) (pdgs_cons (pdg_name 5 sc_holds_of.nd) (pdgs_cons (pdg_name 6 sc_holds_of.nd) pdgs_nil))))))) (pdss_cons (pds_set 7 sc_holds_of.nd (pd_ifExp (pdt_cmp (cs_eq hr.units) (pd_var 3) pd_int (nomark _)) (pd_var 1) (pd_mod (pd_var 1) (pd_var 3)))) (pdss_one (pds_ret (pd_cmp (cs_eq hr.units) (pd_chain cs_le cs_le (pd_var 4) (pd_var 7) (pd_var 5)) (pd_var 6) (nomark _)))))) : PDSs _ _ m_holds_of)
theorem ok_l_deck (T : Tx K mg) : FnOk P w K mg base CX0 1 T.a_l_deck T.d_l_deck ["_law_script"] (spDeck K) := by
  refine T.F_l_deck.ok sc_l_deck (fun vs H Q E h => ?_) (fun cdv A outer s0 H vs Q E hr h => ?_)
  · obtain ⟨a, ns, rfl, _⟩ := h
    rfl
  · obtain ⟨a, ns, rfl, hS, q⟩ := h
    refine ⟨_, pss_one (ps_ret (pe_lst (pa_cons (pe_lc (own := [("_law_cell", 1)]) (g := gName 1) (tt := tYes) rfl sc_l_deck.nd (pi_list (pe_slice sl_list (pv 0) po_none (po_some pe_int)))
      (blkOk_by (own := [("_law_cell", 1)]) (N := N_l_deck) (sc := defScope s_l_deck) (by decide +kernel)) (fun _ _ _ _ _ => pg_name (i := 1) sc_l_deck.nd rfl (Or.inl rfl)) (fun _ _ _ _ _ => pts_nil)
      (fun _ _ _ _ _ => pe_callB call_abs (by rfl) T.m_abs (by decide +kernel) (pa_cons (pv 1) pa_nil))) (pa_cons pe_int pa_nil)))), ?_⟩
    exact snd_deck hS q
def m_l_draw : MS := (sSeq (sDk1 0 (mBin addD (onDk 0 fun δ => some (.int δ.k, δ)) (mC (.int 1))))
  (sSeq (sAsg (mC (.int 0)) (gSet 2))
  (sSeq (sAsg (mUn negD (mC (.int 1))) (gSet 3))
  (sSeq (sIf (mB (mBin gtD (onDk 0 fun δ => some (.int δ.cells.length, δ)) (mC (.int 0)))) (sSeq (sAsg (mBin modD (onDk 0 fun δ => some (.int δ.k, δ)) (onDk 0 fun δ => some (.int δ.cells.length, δ))) (gSet 3))
  (sAsg (mDkIx 0 (mVar 3)) (gSet 2))) sNext)
  (sSeq (sIf (mB (mBin geD (mVar 2) (mBin powD (mC (.int 10)) (mC (.int 18))))) (sSeq (sDk0 0 (mBin fdivD (mVar 2) (mVar 1)) (mVar 3))
  (sRet (mBin modD (mVar 2) (mVar 1)))) sNext)
  (sRet (mBin modD (mBin modD (mBin powD (mBin addD (mBin addD (mBin modD (mVar 2) (mC (.int 2147483587))) (mBin mulD (mC (.int 7919)) (onDk 0 fun δ => some (.int δ.k, δ)))) (mC (.int 1))) (mC (.int 5))) (mC (.int 2147483647))) (mVar 1))))))))
def f_l_draw : List D → Dk → Option (D × Dk) := fnK 4 2 m_l_draw
theorem ok_l_draw (T : Tx K mg) : FnOk P w K mg base CX0 1 T.a_l_draw T.d_l_draw ["_law_deck_here", "_law_many"] (spK K f_l_draw) := okK (k := 0) T.F_l_draw sc_l_draw (by decide) fun cdv A outer s0 H E hr =>
  ((pdss_cons (pds_dk1 0 (pd_add (pd_dk1 0) pd_int)) (pdss_cons (pds_set 2 sc_l_draw.nd pd_int) (pdss_cons (pds_set 3 sc_l_draw.nd (pd_neg pd_int)) (pdss_cons (pds_if (pdt_cmp cs_gt (pd_dkLen 0 T.m_len) pd_int (nomark _)) (pdss_cons (pds_set 3 sc_l_draw.nd (pd_mod (pd_dk1 0) (pd_dkLen 0 T.m_len))) (pdss_one (pds_set 2 sc_l_draw.nd (pd_dkIx 0 (pd_var 3))))) pdss_nil) (pdss_cons (pds_if (pdt_cmp cs_ge (pd_var 2) (pd_pow pd_int pd_int) (nomark _)) (pdss_cons (pds_dk0 0 (pd_fdiv (pd_var 2) (pd_var 1)) (pd_var 3)) (pdss_one (pds_ret (pd_mod (pd_var 2) (pd_var 1))))) pdss_nil) (pdss_one (pds_ret (pd_mod (pd_mod (pd_pow (pd_add (pd_add (pd_mod (pd_var 2) pd_int) (pd_mul pd_int (pd_dk1 0))) pd_int) pd_int) pd_int) (pd_var 1))))))))) : PDSs _ _ m_l_draw)
def m_l_turned : MS := (sRet (mBin addD (mSl (mVar 0) oNo (oSome (mC (.int 4)))) (mTup (mCons (mUn notD (mBin subD' (mVar 0) (mC (.int 4)))) mNil))))
def f_l_turned : List D → Option D := fnP 1 1 m_l_turned
theorem ok_l_turned (T : Tx K mg) : FnOk P w K mg base CX0 1 T.a_l_turned T.d_l_turned ["_law_test_here"] (spP K f_l_turned) := okP (k := 0) T.F_l_turned sc_l_turned (by decide) fun cdv A outer s0 H E hr =>
  ((pdss_one (pds_ret (pd_add (pd_sl (pd_var 0) pdo_no (pdo_some pd_int)) (pd_tup (pda_cons (pd_not (pd_ix (hu_of hr) (pd_var 0) pd_int)) pda_nil))))) : PDSs _ _ m_l_turned)
def m_l_holds : MS := (sSeq (sAsg (mVar 0) (gTupM 5 (gsCons (gSet 3) (gsCons (gSet 4) (gsCons (gSet 5) (gsCons (gSet 6) (gsCons (gSet 7) gsNil)))))))
  (sSeq (sAsg (mBin subD' (mLst (mCons (mC (.int 1)) (mCons (mC (.int 10)) (mCons (mC (.int 100)) mNil)))) (mVar 2)) (gSet 8))
  (sSeq (sAsg (mBin subD' (mDisp (pCons (mC (.str "whole")) (mBin fdivD (mVar 1) (mVar 8)) (pCons (mC (.str "rest")) (mBin modD (mVar 1) (mVar 8)) (pCons (mC (.str "places")) (mVar 2) pNil)))) (mVar 3)) (gSet 9))
  (sSeq (sIf (mB (mBin gtD (mVar 4) (mC (.int 0)))) (sAsg (mBin modD (mVar 9) (mVar 4)) (gSet 9)) sNext)
  (sRet (mBin eqD (mChain leD leD (mVar 5) (mVar 9) (mVar 6)) (mVar 7)))))))
def f_l_holds : List D → Option D := fnP 10 3 m_l_holds
theorem ok_l_holds (T : Tx K mg) : FnOk P w K mg base CX0 1 T.a_l_holds T.d_l_holds ["_law_test_here", "_law_n", "_law_d"] (spP K f_l_holds) := okP (k := 0) T.F_l_holds sc_l_holds (by decide) fun cdv A outer s0 H E hr =>
  ((pdss_cons (pds_asg (pd_var 0) (pdg_tup rfl (pdgs_cons (pdg_name 3 sc_l_holds.nd) (pdgs_cons (pdg_name 4 sc_l_holds.nd) (pdgs_cons (pdg_name 5 sc_l_holds.nd) (pdgs_cons (pdg_name 6 sc_l_holds.nd) (pdgs_cons (pdg_name 7 sc_l_holds.nd) pdgs_nil))))))) (pdss_cons (pds_set 8 sc_l_holds.nd (pd_ix (hu_of hr) (pd_lst (pda_cons pd_int (pda_cons pd_int (pda_cons pd_int pda_nil)))) (pd_var 2))) (pdss_cons (pds_set 9 sc_l_holds.nd (pd_ix (hu_of hr) (pd_disp (pdp_cons pd_str (pd_fdiv (pd_var 1) (pd_var 8)) (pdp_cons pd_str (pd_mod (pd_var 1) (pd_var 8)) (pdp_cons pd_str (pd_var 2) pdp_nil)))) (pd_var 3))) (pdss_cons (pds_if (pdt_cmp cs_gt (pd_var 4) pd_int (nomark _)) (pdss_one (pds_set 9 sc_l_holds.nd (pd_mod (pd_var 9) (pd_var 4)))) pdss_nil) (pdss_one (pds_ret (pd_cmp (cs_eq hr.units) (pd_chain cs_le cs_le (pd_var 5) (pd_var 9) (pd_var 6)) (pd_var 7) (nomark _)))))))) : PDSs _ _ m_l_holds)
def m_parts_of : MS := (sSeq (sAsg (mVar 0) (gTupM 2 (gsCons (gSet 1) (gsCons (gSet 2) gsNil))))
  (sSeq (sAsg (mCall divmodD (mCons (mVar 1) (mCons (mCall f_scale_of (mCons (mVar 2) mNil)) mNil))) (gTupM 2 (gsCons (gSet 3) (gsCons (gSet 4) gsNil))))
  (sRet (mDisp (pCons (mC (.str "whole")) (mVar 3) (pCons (mC (.str "rest")) (mVar 4) (pCons (mC (.str "places")) (mVar 2) pNil)))))))
def f_parts_of : List D → Option D := fnP 5 1 m_parts_of
theorem ok_parts_of (T : Tx K mg) : FnOk P w K mg base CX0 2 T.a_parts_of T.d_parts_of ["count"] (spP K f_parts_of) := okP (k := 1) T.F_parts_of sc_parts_of (by decide) fun cdv A outer s0 H E hr =>
  ((pdss_cons (pds_asg (pd_var 0) (pdg_tup rfl (pdgs_cons (pdg_name 1 sc_parts_of.nd) (pdgs_cons (pdg_name 2 sc_parts_of.nd) pdgs_nil)))) (pdss_cons (pds_asg (pd_divmod T.m_divmod (pda_cons (pd_var 1) (pda_cons (pd_callP (ok_scale_of T) (hr.mono (by decide)) T.g_scale_of T.F_scale_of.kp T.b_scale_of pass0 (pda_cons (pd_var 2) pda_nil)) pda_nil))) (pdg_tup rfl (pdgs_cons (pdg_name 3 sc_parts_of.nd) (pdgs_cons (pdg_name 4 sc_parts_of.nd) pdgs_nil)))) (pdss_one (pds_ret (pd_disp (pdp_cons pd_str (pd_var 3) (pdp_cons pd_str (pd_var 4) (pdp_cons pd_str (pd_var 2) pdp_nil)))))))) : PDSs _ _ m_parts_of)
def m_rule_holds : MS := (sRet (mCall anyD (mCons (mLc (mItems (mVar 0)) [3] (gSet 3) mYes (mCall allD (mCons (mLc (mItems (mVar 3)) [2] (gSet 2) mYes (mCall f_holds_of (mCons (mVar 2) (mCons (mBin subD' (mVar 1) (mBin subD' (mVar 2) (mC (.int 0)))) mNil)))) mNil))) mNil)))
def f_rule_holds : List D → Option D := fnP 4 2 m_rule_holds
theorem ok_rule_holds (T : Tx K mg) : FnOk P w K mg base CX0 2 T.a_rule_holds T.d_rule_holds ["rule", "parts"] (spP K f_rule_holds) := okP (k := 1) T.F_rule_holds sc_rule_holds (by decide) fun cdv A outer s0 H E hr =>
  ((pdss_one (pds_ret (pd_any T.m_any rfl (pda_cons (pd_lc (own := [("row", 3)]) rfl sc_rule_holds.nd (pdi_seq (pd_var 0)) (blkOk_by (own := [("row", 3)]) (N := N_rule_holds) (sc := defScope s_rule_holds) (by decide +kernel)) ⟨fun _ _ _ _ _ => (pdg_name 3 sc_rule_holds.nd), fun _ _ _ _ _ => pdts_nil, fun _ _ _ _ _ => (pd_all T.m_all rfl (pda_cons (pd_lc (own := [("test", 2)]) rfl sc_rule_holds.nd (pdi_seq (pd_var 3)) (blkOk_by (own := [("test", 2)]) (N := N_rule_holds) (sc := relS _ (defScope s_rule_holds)) (by decide +kernel)) ⟨fun _ _ _ _ _ => (pdg_name 2 sc_rule_holds.nd), fun _ _ _ _ _ => pdts_nil, fun _ _ _ _ _ => (pd_callP (ok_holds_of T) (hr.mono (by decide)) T.g_holds_of T.F_holds_of.kp T.b_holds_of pass0 (pda_cons (pd_var 2) (pda_cons (pd_ix (hu_of hr) (pd_var 1) (pd_ix (hu_of hr) (pd_var 2) pd_int)) pda_nil))), by decide⟩) pda_nil)), by decide⟩) pda_nil)))) : PDSs _ _ m_rule_holds)
def m_l_names : MS := (sSeq (sAsg (mC (.str "abcdefghijklmnopqrstuvwxyz")) (gSet 2))
  (sSeq (sAsg (mBin joinD (mC (.str "")) (mLc (mRng1 (mCallK 0 f_l_draw (mCons (mC (.int 8)) mNil))) [4] (gSet 4) mYes (mBin subD' (mVar 2) (mCallK 0 f_l_draw (mCons (mC (.int 26)) mNil))))) (gSet 3))
  (sSeq (sAsg (mCallK 0 f_l_draw (mCons (mBin addD (mCall lenD (mCons (mVar 3) mNil)) (mC (.int 1))) mNil)) (gSet 5))
  (sSeq (sAsg (mCallK 0 f_l_draw (mCons (mC (.int 26)) mNil)) (gSet 6))
  (sRet (mLc (mRng1 (mVar 1)) [4] (gSet 4) mYes (mBin addD (mBin addD (mSl (mVar 3) oNo (oSome (mVar 5))) (mBin subD' (mVar 2) (mBin modD (mBin addD (mVar 6) (mBin mulD (mC (.int 5)) (mVar 4))) (mC (.int 26))))) (mSl (mVar 3) (oSome (mVar 5)) oNo))))))))
def f_l_names : List D → Dk → Option (D × Dk) := fnK 7 2 m_l_names
theorem ok_l_names (T : Tx K mg) : FnOk P w K mg base CX0 2 T.a_l_names T.d_l_names ["_law_deck_here", "_law_many"] (spK K f_l_names) := okK (k := 1) T.F_l_names sc_l_names (by decide) fun cdv A outer s0 H E hr =>
  ((pdss_cons (pds_set 2 sc_l_names.nd pd_str) (pdss_cons (pds_set 3 sc_l_names.nd (pd_join pd_str (pd_lc (own := [("_law_k", 4)]) rfl sc_l_names.nd (pdi_range1 T.m_range (pd_callK 0 (ok_l_draw T) (hr.mono (by decide)) T.g_l_draw T.F_l_draw.kp T.b_l_draw pass0 (pda_cons pd_int pda_nil))) (blkOk_by (own := [("_law_k", 4)]) (N := N_l_names) (sc := defScope s_l_names) (by decide +kernel)) ⟨fun _ _ _ _ _ => (pdg_name 4 sc_l_names.nd), fun _ _ _ _ _ => pdts_nil, fun _ _ _ _ _ => (pd_ix (hu_of hr) (pd_var 2) (pd_callK 0 (ok_l_draw T) (hr.mono (by decide)) T.g_l_draw T.F_l_draw.kp T.b_l_draw pass0 (pda_cons pd_int pda_nil))), by decide⟩))) (pdss_cons (pds_set 5 sc_l_names.nd (pd_callK 0 (ok_l_draw T) (hr.mono (by decide)) T.g_l_draw T.F_l_draw.kp T.b_l_draw pass0 (pda_cons (pd_add (pd_len T.m_len (pda_cons (pd_var 3) pda_nil)) pd_int) pda_nil))) (pdss_cons (pds_set 6 sc_l_names.nd (pd_callK 0 (ok_l_draw T) (hr.mono (by decide)) T.g_l_draw T.F_l_draw.kp T.b_l_draw pass0 (pda_cons pd_int pda_nil))) (pdss_one (pds_ret (pd_lc (own := [("_law_k", 4)]) rfl sc_l_names.nd (pdi_range1 T.m_range (pd_var 1)) (blkOk_by (own := [("_law_k", 4)]) (N := N_l_names) (sc := defScope s_l_names) (by decide +kernel)) ⟨fun _ _ _ _ _ => (pdg_name 4 sc_l_names.nd), fun _ _ _ _ _ => pdts_nil, fun _ _ _ _ _ => (pd_add (pd_add (pd_sl (pd_var 3) pdo_no (pdo_some (pd_var 5))) (pd_ix (hu_of hr) (pd_var 2) (pd_mod (pd_add (pd_var 6) (pd_mul pd_int (pd_var 4))) pd_int))) (pd_sl (pd_var 3) (pdo_some (pd_var 5)) pdo_no)), by decide⟩))))))) : PDSs _ _ m_l_names)
def m_l_test : MS := (sSeq (sAsg (mBin subD' (mLst (mCons (mC (.str "whole")) (mCons (mC (.str "whole")) (mCons (mC (.str "whole")) (mCons (mC (.str "rest")) (mCons (mC (.str "places")) mNil)))))) (mCallK 0 f_l_draw (mCons (mC (.int 5)) mNil))) (gSet 2))
  (sSeq (sAsg (mBin subD' (mVar 1) (mCallK 0 f_l_draw (mCons (mCall lenD (mCons (mVar 1) mNil)) mNil))) (gSet 3))
  (sSeq (sAsg (mBin subD' (mLst (mCons (mC (.int 201)) (mCons (mVar 3) mNil))) (mCall intD (mCons (mBin gtD (mVar 3) (mC (.int 0))) mNil))) (gSet 4))
  (sSeq (sIf (mB (mBin eqD (mVar 2) (mC (.str "places")))) (sAsg (mC (.int 4)) (gSet 4)) sNext)
  (sSeq (sAsg (mCallK 0 f_l_draw (mCons (mBin subD' (mLst (mCons (mVar 4) (mCons (mCall minD (mCons (mVar 4) (mCons (mC (.int 12)) mNil))) mNil))) (mCallK 0 f_l_draw (mCons (mC (.int 2)) mNil))) mNil)) (gSet 5))
  (sSeq (sAsg (mCall minD (mCons (mC (.int 200)) (mCons (mBin addD (mVar 5) (mBin subD' (mLst (mCons (mC (.int 0)) (mCons (mC (.int 0)) (mCons (mC (.int 1)) (mCons (mC (.int 3)) (mCons (mCallK 0 f_l_draw (mCons (mC (.int 40)) mNil)) (mCons (mC (.int 200)) mNil))))))) (mCallK 0 f_l_draw (mCons (mC (.int 6)) mNil)))) mNil))) (gSet 6))
  (sRet (mTup (mCons (mVar 2) (mCons (mVar 3) (mCons (mVar 5) (mCons (mVar 6) (mCons (mBin gtD (mCallK 0 f_l_draw (mCons (mC (.int 3)) mNil)) (mC (.int 0))) mNil)))))))))))))
def f_l_test : List D → Dk → Option (D × Dk) := fnK 7 2 m_l_test
theorem ok_l_test (T : Tx K mg) : FnOk P w K mg base CX0 2 T.a_l_test T.d_l_test ["_law_deck_here", "_law_menu"] (spK K f_l_test) := okK (k := 1) T.F_l_test sc_l_test (by decide) fun cdv A outer s0 H E hr =>
  ((pdss_cons (pds_set 2 sc_l_test.nd (pd_ix (hu_of hr) (pd_lst (pda_cons pd_str (pda_cons pd_str (pda_cons pd_str (pda_cons pd_str (pda_cons pd_str pda_nil)))))) (pd_callK 0 (ok_l_draw T) (hr.mono (by decide)) T.g_l_draw T.F_l_draw.kp T.b_l_draw pass0 (pda_cons pd_int pda_nil)))) (pdss_cons (pds_set 3 sc_l_test.nd (pd_ix (hu_of hr) (pd_var 1) (pd_callK 0 (ok_l_draw T) (hr.mono (by decide)) T.g_l_draw T.F_l_draw.kp T.b_l_draw pass0 (pda_cons (pd_len T.m_len (pda_cons (pd_var 1) pda_nil)) pda_nil)))) (pdss_cons (pds_set 4 sc_l_test.nd (pd_ix (hu_of hr) (pd_lst (pda_cons pd_int (pda_cons (pd_var 3) pda_nil))) (pd_cint T.m_int (pda_cons (pd_cmp cs_gt (pd_var 3) pd_int (nomark _)) pda_nil)))) (pdss_cons (pds_if (pdt_cmp (cs_eq hr.units) (pd_var 2) pd_str (nomark _)) (pdss_one (pds_set 4 sc_l_test.nd pd_int)) pdss_nil) (pdss_cons (pds_set 5 sc_l_test.nd (pd_callK 0 (ok_l_draw T) (hr.mono (by decide)) T.g_l_draw T.F_l_draw.kp T.b_l_draw pass0 (pda_cons (pd_ix (hu_of hr) (pd_lst (pda_cons (pd_var 4) (pda_cons (pd_min T.m_min rfl (pda_cons (pd_var 4) (pda_cons pd_int pda_nil))) pda_nil))) (pd_callK 0 (ok_l_draw T) (hr.mono (by decide)) T.g_l_draw T.F_l_draw.kp T.b_l_draw pass0 (pda_cons pd_int pda_nil))) pda_nil))) (pdss_cons (pds_set 6 sc_l_test.nd (pd_min T.m_min rfl (pda_cons pd_int (pda_cons (pd_add (pd_var 5) (pd_ix (hu_of hr) (pd_lst (pda_cons pd_int (pda_cons pd_int (pda_cons pd_int (pda_cons pd_int (pda_cons (pd_callK 0 (ok_l_draw T) (hr.mono (by decide)) T.g_l_draw T.F_l_draw.kp T.b_l_draw pass0 (pda_cons pd_int pda_nil)) (pda_cons pd_int pda_nil))))))) (pd_callK 0 (ok_l_draw T) (hr.mono (by decide)) T.g_l_draw T.F_l_draw.kp T.b_l_draw pass0 (pda_cons pd_int pda_nil)))) pda_nil)))) (pdss_one (pds_ret (pd_tup (pda_cons (pd_var 2) (pda_cons (pd_var 3) (pda_cons (pd_var 5) (pda_cons (pd_var 6) (pda_cons (pd_cmp cs_gt (pd_callK 0 (ok_l_draw T) (hr.mono (by decide)) T.g_l_draw T.F_l_draw.kp T.b_l_draw pass0 (pda_cons pd_int pda_nil)) pd_int (nomark _)) pda_nil)))))))))))))) : PDSs _ _ m_l_test)
def m_l_words : MS := (sSeq (sUni 3 mNil)
  (sSeq (sFor (mItems (mVar 0)) (gTupM 2 (gsCons (gSet 4) (gsCons (gSet 5) gsNil))) (sIf (mB (mBin neD (mLc (mItems (mVar 5)) [6] (gSet 6) (mB (mBin eqD (mLc (mItems (mVar 6)) [7] (gSet 7) (tNotM (mTru (mCall f_l_holds (mCons (mVar 7) (mCons (mVar 1) (mCons (mVar 2) mNil)))))) (mVar 7)) (mLst mNil))) (mVar 6)) (mLst mNil))) (sApp 3 (mVar 4)) sNext))
  (sFrz 3 (sRet (mVar 3)))))
def f_l_words : List D → Option D := fnP 8 3 m_l_words
theorem ok_l_words (T : Tx K mg) : FnOk P w K mg base CX0 2 T.a_l_words T.d_l_words ["_law_forms", "_law_n", "_law_d"] (spP K f_l_words) := okP (k := 1) T.F_l_words sc_l_words (by decide) fun cdv A outer s0 H E hr =>
  ((pdss_cons (pds_uni 3 sc_l_words.nd pda_nil) (pdss_cons (pds_for PassesOwn.never rfl (pdi_seq (pd_var 0)) (pdg_tup rfl (pdgs_cons (pdg_name 4 sc_l_words.nd) (pdgs_cons (pdg_name 5 sc_l_words.nd) pdgs_nil))) (pdss_one (pds_if (pdt_cmp (cs_ne hr.units) (pd_lc (own := [("_law_row", 6)]) rfl sc_l_words.nd (pdi_seq (pd_var 5)) (blkOk_by (own := [("_law_row", 6)]) (N := N_l_words) (sc := defScope s_l_words) (by decide +kernel)) ⟨fun _ _ _ _ _ => (pdg_name 6 sc_l_words.nd), fun _ _ _ _ _ => (pdts_one (pdt_cmp (cs_eq hr.units) (pd_lc (own := [("_law_test_here", 7)]) rfl sc_l_words.nd (pdi_seq (pd_var 6)) (blkOk_by (own := [("_law_test_here", 7)]) (N := N_l_words) (sc := relS _ (defScope s_l_words)) (by decide +kernel)) ⟨fun _ _ _ _ _ => (pdg_name 7 sc_l_words.nd), fun _ _ _ _ _ => (pdts_one (pdt_not (pdt_tru (pd_callP (ok_l_holds T) (hr.mono (by decide)) T.g_l_holds T.F_l_holds.kp T.b_l_holds pass0 (pda_cons (pd_var 7) (pda_cons (pd_var 1) (pda_cons (pd_var 2) pda_nil))))))), fun _ _ _ _ _ => (pd_var 7), by decide⟩) (pd_lst pda_nil) (nomark _))), fun _ _ _ _ _ => (pd_var 6), by decide⟩) (pd_lst pda_nil) (nomark _)) (pdss_one (pds_app 3 (pd_var 4))) pdss_nil))) (pdss_frz 3 (pdss_one (pds_ret (pd_var 3)))))) : PDSs _ _ m_l_words)
def m_l_bent_forms : MS := (sSeq (sAsg (mCallK 0 f_l_draw (mCons (mCall lenD (mCons (mVar 1) mNil)) mNil)) (gSet 2))
  (sSeq (sAsg (mBin subD' (mVar 1) (mVar 2)) (gTupM 2 (gsCons (gSet 3) (gsCons (gSet 4) gsNil))))
  (sSeq (sAsg (mCallK 0 f_l_draw (mCons (mC (.int 5)) mNil)) (gSet 5))
  (sSeq (sIf (tAndM (mB (mBin neD (mVar 4) (mTup mNil))) (mB (mBin ltD (mVar 5) (mC (.int 3))))) (sSeq (sAsg (mCallK 0 f_l_draw (mCons (mCall lenD (mCons (mVar 4) mNil)) mNil)) (gSet 6))
  (sSeq (sAsg (mBin subD' (mVar 4) (mVar 6)) (gSet 7))
  (sSeq (sIf (tAndM (mB (mBin neD (mVar 7) (mTup mNil))) (mB (mBin eqD (mVar 5) (mC (.int 0))))) (sSeq (sAsg (mCallK 0 f_l_draw (mCons (mCall lenD (mCons (mVar 7) mNil)) mNil)) (gSet 8))
  (sSeq (sAsg (mBin subD' (mVar 7) (mVar 8)) (gTupM 5 (gsCons (gSet 9) (gsCons (gSet 10) (gsCons (gSet 11) (gsCons (gSet 12) (gsCons (gSet 13) gsNil)))))))
  (sSeq (sAsg (mCall minD (mCons (mVar 12) (mCons (mCall maxD (mCons (mC (.int 0)) (mCons (mBin subD (mBin addD (mVar 11) (mCallK 0 f_l_draw (mCons (mC (.int 3)) mNil))) (mC (.int 1))) mNil))) mNil))) (gSet 11))
  (sSeq (sAsg (mBin neD (mVar 13) (mBin eqD (mCallK 0 f_l_draw (mCons (mC (.int 3)) mNil)) (mC (.int 0)))) (gSet 13))
  (sAsg (mBin addD (mBin addD (mSl (mVar 7) oNo (oSome (mVar 8))) (mTup (mCons (mTup (mCons (mVar 9) (mCons (mVar 10) (mCons (mVar 11) (mCons (mVar 12) (mCons (mVar 13) mNil)))))) mNil))) (mSl (mVar 7) (oSome (mBin addD (mVar 8) (mC (.int 1)))) oNo)) (gSet 7)))))) sNext)
  (sSeq (sIf (tAndM (mB (mBin neD (mVar 7) (mTup mNil))) (mB (mBin eqD (mVar 5) (mC (.int 1))))) (sSeq (sAsg (mCallK 0 f_l_draw (mCons (mCall lenD (mCons (mVar 7) mNil)) mNil)) (gSet 8))
  (sAsg (mBin addD (mSl (mVar 7) oNo (oSome (mVar 8))) (mSl (mVar 7) (oSome (mBin addD (mVar 8) (mC (.int 1)))) oNo)) (gSet 7))) sNext)
  (sAsg (mBin addD (mBin addD (mSl (mVar 4) oNo (oSome (mVar 6))) (mBin subD' (mLst (mCons (mTup (mCons (mVar 7) mNil)) (mCons (mTup mNil) mNil))) (mCall intD (mCons (mBin eqD (mVar 5) (mC (.int 2))) mNil)))) (mSl (mVar 4) (oSome (mBin addD (mVar 6) (mC (.int 1)))) oNo)) (gSet 4)))))) (sIf (tAndM (mB (mBin eqD (mVar 5) (mC (.int 3)))) (mB (mBin ltD (mCall lenD (mCons (mVar 4) mNil)) (mC (.int 4))))) (sAsg (mBin addD (mVar 4) (mTup (mCons (mTup (mCons (mTup (mCons (mC (.str "whole")) (mCons (mC (.int 0)) (mCons (mCallK 0 f_l_draw (mCons (mC (.int 201)) mNil)) (mCons (mC (.int 200)) (mCons (mC (.bool true)) mNil)))))) mNil)) mNil))) (gSet 4)) (sIf (tAndM (mB (mBin eqD (mVar 5) (mC (.int 4)))) (mB (mBin ltD (mCall lenD (mCons (mVar 1) mNil)) (mC (.int 6))))) (sSeq (sAsg (mTup (mCons (mC (.str "whole")) (mCons (mC (.int 0)) (mCons (mCallK 0 f_l_draw (mCons (mC (.int 201)) mNil)) (mCons (mC (.int 200)) (mCons (mC (.bool true)) mNil)))))) (gSet 14))
  (sSeq (sAsg (mBin subD' (mLc (mItems (mTup (mCons (mC (.str "zzzzzzzz")) (mCons (mC (.str "y")) (mCons (mC (.str "x")) (mCons (mC (.str "w")) (mCons (mC (.str "v")) (mCons (mC (.str "u")) mNil)))))))) [15] (gSet 15) (mB (mBin (inD true) (mVar 15) (mLc (mItems (mVar 1)) [16, 17] (gTupM 2 (gsCons (gSet 16) (gsCons (gSet 17) gsNil))) mYes (mVar 16)))) (mVar 15)) (mC (.int 0))) (gSet 3))
  (sRet (mBin addD (mVar 1) (mTup (mCons (mTup (mCons (mVar 3) (mCons (mTup (mCons (mTup (mCons (mVar 14) (mCons (mTup (mCons (mC (.str "places")) (mCons (mC (.int 0)) (mCons (mC (.int 1)) (mCons (mC (.int 2)) (mCons (mC (.bool true)) mNil)))))) mNil))) mNil)) mNil))) mNil)))))) sNext)))
  (sRet (mBin addD (mBin addD (mSl (mVar 1) oNo (oSome (mVar 2))) (mTup (mCons (mTup (mCons (mVar 3) (mCons (mVar 4) mNil))) mNil))) (mSl (mVar 1) (oSome (mBin addD (mVar 2) (mC (.int 1)))) oNo)))))))
def f_l_bent_forms : List D → Dk → Option (D × Dk) := fnK 18 2 m_l_bent_forms
theorem ok_l_bent_forms (T : Tx K mg) : FnOk P w K mg base CX0 2 T.a_l_bent_forms T.d_l_bent_forms ["_law_deck_here", "_law_forms"] (spK K f_l_bent_forms) := okK (k := 1) T.F_l_bent_forms sc_l_bent_forms (by decide) fun cdv A outer s0 H E hr =>
  ((pdss_cons (pds_set 2 sc_l_bent_forms.nd (pd_callK 0 (ok_l_draw T) (hr.mono (by decide)) T.g_l_draw T.F_l_draw.kp T.b_l_draw pass0 (pda_cons (pd_len T.m_len (pda_cons (pd_var 1) pda_nil)) pda_nil))) (pdss_cons (pds_asg (pd_ix (hu_of hr) (pd_var 1) (pd_var 2)) (pdg_tup rfl (pdgs_cons (pdg_name 3 sc_l_bent_forms.nd) (pdgs_cons (pdg_name 4 sc_l_bent_forms.nd) pdgs_nil)))) (pdss_cons (pds_set 5 sc_l_bent_forms.nd (pd_callK 0 (ok_l_draw T) (hr.mono (by decide)) T.g_l_draw T.F_l_draw.kp T.b_l_draw pass0 (pda_cons pd_int pda_nil))) (pdss_cons (pds_if (PDW.pt (pdw_and (pdt_cmp (cs_ne hr.units) (pd_var 4) (pd_tup pda_nil) (nomark _)) (pdw_and1 (pdt_cmp cs_lt (pd_var 5) pd_int (nomark _))))) (pdss_cons (pds_set 6 sc_l_bent_forms.nd (pd_callK 0 (ok_l_draw T) (hr.mono (by decide)) T.g_l_draw T.F_l_draw.kp T.b_l_draw pass0 (pda_cons (pd_len T.m_len (pda_cons (pd_var 4) pda_nil)) pda_nil))) (pdss_cons (pds_set 7 sc_l_bent_forms.nd (pd_ix (hu_of hr) (pd_var 4) (pd_var 6))) (pdss_cons (pds_if (PDW.pt (pdw_and (pdt_cmp (cs_ne hr.units) (pd_var 7) (pd_tup pda_nil) (nomark _)) (pdw_and1 (pdt_cmp (cs_eq hr.units) (pd_var 5) pd_int (nomark _))))) (pdss_cons (pds_set 8 sc_l_bent_forms.nd (pd_callK 0 (ok_l_draw T) (hr.mono (by decide)) T.g_l_draw T.F_l_draw.kp T.b_l_draw pass0 (pda_cons (pd_len T.m_len (pda_cons (pd_var 7) pda_nil)) pda_nil))) (pdss_cons (pds_asg (pd_ix (hu_of hr) (pd_var 7) (pd_var 8)) (pdg_tup rfl (pdgs_cons (pdg_name 9 sc_l_bent_forms.nd) (pdgs_cons (pdg_name 10 sc_l_bent_forms.nd) (pdgs_cons (pdg_name 11 sc_l_bent_forms.nd) (pdgs_cons (pdg_name 12 sc_l_bent_forms.nd) (pdgs_cons (pdg_name 13 sc_l_bent_forms.nd) pdgs_nil))))))) (pdss_cons (pds_set 11 sc_l_bent_forms.nd (pd_min T.m_min rfl (pda_cons (pd_var 12) (pda_cons (pd_max T.m_max rfl (pda_cons pd_int (pda_cons (pd_sub (pd_add (pd_var 11) (pd_callK 0 (ok_l_draw T) (hr.mono (by decide)) T.g_l_draw T.F_l_draw.kp T.b_l_draw pass0 (pda_cons pd_int pda_nil))) pd_int) pda_nil))) pda_nil)))) (pdss_cons (pds_set 13 sc_l_bent_forms.nd (pd_cmp (cs_ne hr.units) (pd_var 13) (pd_cmp (cs_eq hr.units) (pd_callK 0 (ok_l_draw T) (hr.mono (by decide)) T.g_l_draw T.F_l_draw.kp T.b_l_draw pass0 (pda_cons pd_int pda_nil)) pd_int (nomark _)) (nomark _))) (pdss_one (pds_set 7 sc_l_bent_forms.nd (pd_add (pd_add (pd_sl (pd_var 7) pdo_no (pdo_some (pd_var 8))) (pd_tup (pda_cons (pd_tup (pda_cons (pd_var 9) (pda_cons (pd_var 10) (pda_cons (pd_var 11) (pda_cons (pd_var 12) (pda_cons (pd_var 13) pda_nil)))))) pda_nil))) (pd_sl (pd_var 7) (pdo_some (pd_add (pd_var 8) pd_int)) pdo_no)))))))) pdss_nil) (pdss_cons (pds_if (PDW.pt (pdw_and (pdt_cmp (cs_ne hr.units) (pd_var 7) (pd_tup pda_nil) (nomark _)) (pdw_and1 (pdt_cmp (cs_eq hr.units) (pd_var 5) pd_int (nomark _))))) (pdss_cons (pds_set 8 sc_l_bent_forms.nd (pd_callK 0 (ok_l_draw T) (hr.mono (by decide)) T.g_l_draw T.F_l_draw.kp T.b_l_draw pass0 (pda_cons (pd_len T.m_len (pda_cons (pd_var 7) pda_nil)) pda_nil))) (pdss_one (pds_set 7 sc_l_bent_forms.nd (pd_add (pd_sl (pd_var 7) pdo_no (pdo_some (pd_var 8))) (pd_sl (pd_var 7) (pdo_some (pd_add (pd_var 8) pd_int)) pdo_no))))) pdss_nil) (pdss_one (pds_set 4 sc_l_bent_forms.nd (pd_add (pd_add (pd_sl (pd_var 4) pdo_no (pdo_some (pd_var 6))) (pd_ix (hu_of hr) (pd_lst (pda_cons (pd_tup (pda_cons (pd_var 7) pda_nil)) (pda_cons (pd_tup pda_nil) pda_nil))) (pd_cint T.m_int (pda_cons (pd_cmp (cs_eq hr.units) (pd_var 5) pd_int (nomark _)) pda_nil)))) (pd_sl (pd_var 4) (pdo_some (pd_add (pd_var 6) pd_int)) pdo_no)))))))) (pdss_one (pds_if (PDW.pt (pdw_and (pdt_cmp (cs_eq hr.units) (pd_var 5) pd_int (nomark _)) (pdw_and1 (pdt_cmp cs_lt (pd_len T.m_len (pda_cons (pd_var 4) pda_nil)) pd_int (nomark _))))) (pdss_one (pds_set 4 sc_l_bent_forms.nd (pd_add (pd_var 4) (pd_tup (pda_cons (pd_tup (pda_cons (pd_tup (pda_cons pd_str (pda_cons pd_int (pda_cons (pd_callK 0 (ok_l_draw T) (hr.mono (by decide)) T.g_l_draw T.F_l_draw.kp T.b_l_draw pass0 (pda_cons pd_int pda_nil)) (pda_cons pd_int (pda_cons pd_bl pda_nil)))))) pda_nil)) pda_nil))))) (pdss_one (pds_if (PDW.pt (pdw_and (pdt_cmp (cs_eq hr.units) (pd_var 5) pd_int (nomark _)) (pdw_and1 (pdt_cmp cs_lt (pd_len T.m_len (pda_cons (pd_var 1) pda_nil)) pd_int (nomark _))))) (pdss_cons (pds_set 14 sc_l_bent_forms.nd (pd_tup (pda_cons pd_str (pda_cons pd_int (pda_cons (pd_callK 0 (ok_l_draw T) (hr.mono (by decide)) T.g_l_draw T.F_l_draw.kp T.b_l_draw pass0 (pda_cons pd_int pda_nil)) (pda_cons pd_int (pda_cons pd_bl pda_nil))))))) (pdss_cons (pds_set 3 sc_l_bent_forms.nd (pd_ix (hu_of hr) (pd_lc (own := [("_law_name", 15)]) rfl sc_l_bent_forms.nd (pdi_seq (pd_tup (pda_cons pd_str (pda_cons pd_str (pda_cons pd_str (pda_cons pd_str (pda_cons pd_str (pda_cons pd_str pda_nil)))))))) (blkOk_by (own := [("_law_name", 15)]) (N := N_l_bent_forms) (sc := defScope s_l_bent_forms) (by decide +kernel)) ⟨fun _ _ _ _ _ => (pdg_name 15 sc_l_bent_forms.nd), fun _ _ _ _ _ => (pdts_one (pdt_cmp (cs_notin (u65 hr)) (pd_var 15) (pd_lc (own := [("_law_one", 16), ("_law_other", 17)]) rfl sc_l_bent_forms.nd (pdi_seq (pd_var 1)) (blkOk_by (own := [("_law_one", 16), ("_law_other", 17)]) (N := N_l_bent_forms) (sc := relS _ (defScope s_l_bent_forms)) (by decide +kernel)) ⟨fun _ _ _ _ _ => (pdg_tup rfl (pdgs_cons (pdg_name 16 sc_l_bent_forms.nd) (pdgs_cons (pdg_name 17 sc_l_bent_forms.nd) pdgs_nil))), fun _ _ _ _ _ => pdts_nil, fun _ _ _ _ _ => (pd_var 16), by decide⟩) (by with_unfolding_all rfl))), fun _ _ _ _ _ => (pd_var 15), by decide⟩) pd_int)) (pdss_one (pds_ret (pd_add (pd_var 1) (pd_tup (pda_cons (pd_tup (pda_cons (pd_var 3) (pda_cons (pd_tup (pda_cons (pd_tup (pda_cons (pd_var 14) (pda_cons (pd_tup (pda_cons pd_str (pda_cons pd_int (pda_cons pd_int (pda_cons pd_int (pda_cons pd_bl pda_nil)))))) pda_nil))) pda_nil)) pda_nil))) pda_nil))))))) pdss_nil))))) (pdss_one (pds_ret (pd_add (pd_add (pd_sl (pd_var 1) pdo_no (pdo_some (pd_var 2))) (pd_tup (pda_cons (pd_tup (pda_cons (pd_var 3) (pda_cons (pd_var 4) pda_nil))) pda_nil))) (pd_sl (pd_var 1) (pdo_some (pd_add (pd_var 2) pd_int)) pdo_no)))))))) : PDSs _ _ m_l_bent_forms)
def m_l_count : MS := (sSeq (sAsg (mCallK 0 f_l_draw (mCons (mC (.int 3)) mNil)) (gSet 1))
  (sSeq (sAsg (mCallK 0 f_l_draw (mCons (mC (.int 4)) mNil)) (gSet 2))
  (sSeq (sAsg (mBin subD' (mLst (mCons (mCallK 0 f_l_draw (mCons (mC (.int 30)) mNil)) (mCons (mCallK 0 f_l_draw (mCons (mBin mulD (mC (.int 250)) (mBin subD' (mLst (mCons (mC (.int 1)) (mCons (mC (.int 10)) (mCons (mC (.int 100)) mNil)))) (mVar 1))) mNil)) (mCons (mCallK 0 f_l_draw (mCons (mBin addD (mBin powD (mC (.int 10)) (mC (.int 12))) (mC (.int 1))) mNil)) (mCons (mBin powD (mC (.int 10)) (mC (.int 12))) mNil))))) (mVar 2)) (gSet 3))
  (sRet (mTup (mCons (mVar 3) (mCons (mVar 1) mNil)))))))
def f_l_count : List D → Dk → Option (D × Dk) := fnK 4 1 m_l_count
theorem ok_l_count (T : Tx K mg) : FnOk P w K mg base CX0 2 T.a_l_count T.d_l_count ["_law_deck_here"] (spK K f_l_count) := okK (k := 1) T.F_l_count sc_l_count (by decide) fun cdv A outer s0 H E hr =>
  ((pdss_cons (pds_set 1 sc_l_count.nd (pd_callK 0 (ok_l_draw T) (hr.mono (by decide)) T.g_l_draw T.F_l_draw.kp T.b_l_draw pass0 (pda_cons pd_int pda_nil))) (pdss_cons (pds_set 2 sc_l_count.nd (pd_callK 0 (ok_l_draw T) (hr.mono (by decide)) T.g_l_draw T.F_l_draw.kp T.b_l_draw pass0 (pda_cons pd_int pda_nil))) (pdss_cons (pds_set 3 sc_l_count.nd (pd_ix (hu_of hr) (pd_lst (pda_cons (pd_callK 0 (ok_l_draw T) (hr.mono (by decide)) T.g_l_draw T.F_l_draw.kp T.b_l_draw pass0 (pda_cons pd_int pda_nil)) (pda_cons (pd_callK 0 (ok_l_draw T) (hr.mono (by decide)) T.g_l_draw T.F_l_draw.kp T.b_l_draw pass0 (pda_cons (pd_mul pd_int (pd_ix (hu_of hr) (pd_lst (pda_cons pd_int (pda_cons pd_int (pda_cons pd_int pda_nil)))) (pd_var 1))) pda_nil)) (pda_cons (pd_callK 0 (ok_l_draw T) (hr.mono (by decide)) T.g_l_draw T.F_l_draw.kp T.b_l_draw pass0 (pda_cons (pd_add (pd_pow pd_int pd_int) pd_int) pda_nil)) (pda_cons (pd_pow pd_int pd_int) pda_nil))))) (pd_var 2))) (pdss_one (pds_ret (pd_tup (pda_cons (pd_var 3) (pda_cons (pd_var 1) pda_nil)))))))) : PDSs _ _ m_l_count)
def m_forms_of : MS := (sSeq (sAsg (mCall f_parts_of (mCons (mVar 1) mNil)) (gSet 2))
  (sRet (mCall tupD (mCons (mLc (mItems (mVar 0)) [3, 4] (gTupM 2 (gsCons (gSet 3) (gsCons (gSet 4) gsNil))) (mTru (mCall f_rule_holds (mCons (mVar 4) (mCons (mVar 2) mNil)))) (mVar 3)) mNil))))
def f_forms_of : List D → Option D := fnP 5 2 m_forms_of
theorem ok_forms_of (T : Tx K mg) : FnOk P w K mg base CX0 3 T.a_forms_of T.d_forms_of ["forms", "count"] (spP K f_forms_of) := okP (k := 2) T.F_forms_of sc_forms_of (by decide) fun cdv A outer s0 H E hr =>
  ((pdss_cons (pds_set 2 sc_forms_of.nd (pd_callP (ok_parts_of T) (hr.mono (by decide)) T.g_parts_of T.F_parts_of.kp T.b_parts_of pass0 (pda_cons (pd_var 1) pda_nil))) (pdss_one (pds_ret (pd_ctup T.m_tuple (pda_cons (pd_lc (own := [("word", 3), ("rule", 4)]) rfl sc_forms_of.nd (pdi_seq (pd_var 0)) (blkOk_by (own := [("word", 3), ("rule", 4)]) (N := N_forms_of) (sc := defScope s_forms_of) (by decide +kernel)) ⟨fun _ _ _ _ _ => (pdg_tup rfl (pdgs_cons (pdg_name 3 sc_forms_of.nd) (pdgs_cons (pdg_name 4 sc_forms_of.nd) pdgs_nil))), fun _ _ _ _ _ => (pdts_one (pdt_tru (pd_callP (ok_rule_holds T) (hr.mono (by decide)) T.g_rule_holds T.F_rule_holds.kp T.b_rule_holds pass0 (pda_cons (pd_var 4) (pda_cons (pd_var 2) pda_nil))))), fun _ _ _ _ _ => (pd_var 3), by decide⟩) pda_nil))))) : PDSs _ _ m_forms_of)
def m_l_covering : MS := (sSeq (sAsg (mBin subD' (mLst (mCons (mLst (mCons (mC (.int 0)) (mCons (mC (.int 0)) (mCons (mC (.int 2)) (mCons (mC (.int 4)) (mCons (mC (.int 10)) mNil)))))) (mCons (mLst (mCons (mC (.int 0)) (mCons (mC (.int 10)) (mCons (mC (.int 60)) (mCons (mC (.int 12)) mNil))))) (mCons (mLst (mCons (mC (.int 0)) (mCons (mC (.int 7)) (mCons (mC (.int 8)) mNil)))) (mCons (mLst (mCons (mC (.int 0)) mNil)) (mCons (mLst (mCons (mC (.int 0)) (mCons (mC (.int 100)) (mCons (mC (.int 3)) (mCons (mC (.int 5)) mNil))))) mNil)))))) (mCallK 0 f_l_draw (mCons (mC (.int 5)) mNil))) (gSet 1))
  (sSeq (sAsg (mLc (mItems (mVar 1)) [2] (gSet 2) (mB (mBin leD (mVar 2) (mC (.int 60)))) (mVar 2)) (gSet 1))
  (sSeq (sAsg (mLc (mRng1 (mCallK 0 f_l_draw (mCons (mC (.int 5)) mNil))) [4] (gSet 4) mYes (mCallK 0 f_l_test (mCons (mVar 1) mNil))) (gSet 3))
  (sSeq (sUni 5 mNil)
  (sSeq (sFor (mRng1 (mCall lenD (mCons (mVar 3) mNil))) (gSet 4) (sApp 5 (mCall tupD (mCons (mBin addD (mLc (mItems (mSl (mVar 3) oNo (oSome (mVar 4)))) [6] (gSet 6) mYes (mCall f_l_turned (mCons (mVar 6) mNil))) (mLst (mCons (mBin subD' (mVar 3) (mVar 4)) mNil))) mNil))))
  (sSeq (sApp 5 (mCall tupD (mCons (mLc (mItems (mVar 3)) [6] (gSet 6) mYes (mCall f_l_turned (mCons (mVar 6) mNil))) mNil)))
  (sSeq (sAsg (mCallK 0 f_l_names (mCons (mC (.int 6)) mNil)) (gSet 7))
  (sFrz 5 (sSeq (sAsg (mCall maxD (mCons (mBin addD (mC (.int 1)) (mCall intD (mCons (mBin gtD (mCall lenD (mCons (mVar 5) mNil)) (mC (.int 4))) mNil))) (mCons (mBin addD (mC (.int 1)) (mCallK 0 f_l_draw (mCons (mCall lenD (mCons (mVar 5) mNil)) mNil))) mNil))) (gSet 8))
  (sSeq (sRules 9 (mRng1 (mVar 8)) (mRng1 (mCall lenD (mCons (mVar 5) mNil))) (gSet 4) (mBin subD' (mLst (mCons (mVar 4) (mCons (mCallK 0 f_l_draw (mCons (mVar 8) mNil)) mNil))) (mCall intD (mCons (mBin geD (mVar 4) (mVar 8)) mNil))) (mBin subD' (mVar 5) (mVar 4)))
  (sSeq (sAsg (mLc (mRng1 (mVar 8)) [4] (gSet 4) mYes (mTup (mCons (mBin subD' (mVar 7) (mVar 4)) (mCons (mCall tupD (mCons (mBin subD' (mVar 9) (mVar 4)) mNil)) mNil)))) (gSet 10))
  (sSeq (sAsg (mCallK 0 f_l_draw (mCons (mVar 8) mNil)) (gSet 11))
  (sRet (mCall tupD (mCons (mBin addD (mSl (mVar 10) (oSome (mVar 11)) oNo) (mSl (mVar 10) oNo (oSome (mVar 11)))) mNil)))))))))))))))
def f_l_covering : List D → Dk → Option (D × Dk) := fnK 12 1 m_l_covering
theorem ok_l_covering (T : Tx K mg) : FnOk P w K mg base CX0 3 T.a_l_covering T.d_l_covering ["_law_deck_here"] (spK K f_l_covering) := okK (k := 2) T.F_l_covering sc_l_covering (by decide) fun cdv A outer s0 H E hr =>
  ((pdss_cons (pds_set 1 sc_l_covering.nd (pd_ix (hu_of hr) (pd_lst (pda_cons (pd_lst (pda_cons pd_int (pda_cons pd_int (pda_cons pd_int (pda_cons pd_int (pda_cons pd_int pda_nil)))))) (pda_cons (pd_lst (pda_cons pd_int (pda_cons pd_int (pda_cons pd_int (pda_cons pd_int pda_nil))))) (pda_cons (pd_lst (pda_cons pd_int (pda_cons pd_int (pda_cons pd_int pda_nil)))) (pda_cons (pd_lst (pda_cons pd_int pda_nil)) (pda_cons (pd_lst (pda_cons pd_int (pda_cons pd_int (pda_cons pd_int (pda_cons pd_int pda_nil))))) pda_nil)))))) (pd_callK 0 (ok_l_draw T) (hr.mono (by decide)) T.g_l_draw T.F_l_draw.kp T.b_l_draw pass0 (pda_cons pd_int pda_nil)))) (pdss_cons (pds_set 1 sc_l_covering.nd (pd_lc (own := [("_law_by", 2)]) rfl sc_l_covering.nd (pdi_seq (pd_var 1)) (blkOk_by (own := [("_law_by", 2)]) (N := N_l_covering) (sc := defScope s_l_covering) (by decide +kernel)) ⟨fun _ _ _ _ _ => (pdg_name 2 sc_l_covering.nd), fun _ _ _ _ _ => (pdts_one (pdt_cmp cs_le (pd_var 2) pd_int (nomark _))), fun _ _ _ _ _ => (pd_var 2), by decide⟩)) (pdss_cons (pds_setLc 3 (own := [("_law_k", 4)]) rfl sc_l_covering.nd (pdi_range1 T.m_range (pd_callK 0 (ok_l_draw T) (hr.mono (by decide)) T.g_l_draw T.F_l_draw.kp T.b_l_draw pass0 (pda_cons pd_int pda_nil))) (blkOk_by (own := [("_law_k", 4)]) (N := N_l_covering) (sc := defScope s_l_covering) (by decide +kernel)) ⟨fun _ _ _ _ _ => (pdg_name 4 sc_l_covering.nd), fun _ _ _ _ _ => pdts_nil, fun _ _ _ _ _ => (pd_callK 0 (ok_l_test T) (hr.mono (by decide)) T.g_l_test T.F_l_test.kp T.b_l_test pass0 (pda_cons (pd_var 1) pda_nil)), by decide⟩ (sw_true rfl rfl rfl (by decide +kernel))) (pdss_cons (pds_uni 5 sc_l_covering.nd pda_nil) (pdss_cons (pds_for PassesOwn.never rfl (pdi_range1 T.m_range (pd_len T.m_len (pda_cons (pd_var 3) pda_nil))) (pdg_name 4 sc_l_covering.nd) (pdss_one (pds_app 5 (pd_ctup T.m_tuple (pda_cons (pd_add (pd_lc (own := [("_law_test_here", 6)]) rfl sc_l_covering.nd (pdi_seq (pd_sl (pd_var 3) pdo_no (pdo_some (pd_var 4)))) (blkOk_by (own := [("_law_test_here", 6)]) (N := N_l_covering) (sc := defScope s_l_covering) (by decide +kernel)) ⟨fun _ _ _ _ _ => (pdg_name 6 sc_l_covering.nd), fun _ _ _ _ _ => pdts_nil, fun _ _ _ _ _ => (pd_callP (ok_l_turned T) (hr.mono (by decide)) T.g_l_turned T.F_l_turned.kp T.b_l_turned pass0 (pda_cons (pd_var 6) pda_nil)), by decide⟩) (pd_lst (pda_cons (pd_ix (hu_of hr) (pd_var 3) (pd_var 4)) pda_nil))) pda_nil))))) (pdss_cons (pds_app 5 (pd_ctup T.m_tuple (pda_cons (pd_lc (own := [("_law_test_here", 6)]) rfl sc_l_covering.nd (pdi_seq (pd_var 3)) (blkOk_by (own := [("_law_test_here", 6)]) (N := N_l_covering) (sc := defScope s_l_covering) (by decide +kernel)) ⟨fun _ _ _ _ _ => (pdg_name 6 sc_l_covering.nd), fun _ _ _ _ _ => pdts_nil, fun _ _ _ _ _ => (pd_callP (ok_l_turned T) (hr.mono (by decide)) T.g_l_turned T.F_l_turned.kp T.b_l_turned pass0 (pda_cons (pd_var 6) pda_nil)), by decide⟩) pda_nil))) (pdss_cons (pds_set 7 sc_l_covering.nd (pd_callK 0 (ok_l_names T) (hr.mono (by decide)) T.g_l_names T.F_l_names.kp T.b_l_names pass0 (pda_cons pd_int pda_nil))) (pdss_frz 5 (pdss_cons (pds_set 8 sc_l_covering.nd (pd_max T.m_max rfl (pda_cons (pd_add pd_int (pd_cint T.m_int (pda_cons (pd_cmp cs_gt (pd_len T.m_len (pda_cons (pd_var 5) pda_nil)) pd_int (nomark _)) pda_nil))) (pda_cons (pd_add pd_int (pd_callK 0 (ok_l_draw T) (hr.mono (by decide)) T.g_l_draw T.F_l_draw.kp T.b_l_draw pass0 (pda_cons (pd_len T.m_len (pda_cons (pd_var 5) pda_nil)) pda_nil))) pda_nil)))) (pdss_rules 9 4 4 rfl (pdi_range1 T.m_range (pd_var 8)) (fun wi w1 => ps_set (i := 9) sc_l_covering.nd rfl (Or.inr rfl) (pe_lc (own := [("_law_k", 4)]) rfl sc_l_covering.nd w1 (blkOk_by (own := [("_law_k", 4)]) (N := N_l_covering) (sc := defScope s_l_covering) (by decide +kernel)) (fun _ _ _ _ _ => pg_name (i := 4) sc_l_covering.nd rfl (Or.inl rfl)) (fun _ _ _ _ _ => pts_nil) (fun _ _ _ _ _ => pe_lst pa_nil))) (pdi_range1 T.m_range (pd_len T.m_len (pda_cons (pd_var 5) pda_nil))) (pg_name (i := 4) sc_l_covering.nd rfl (by first | exact Or.inl rfl | exact Or.inr rfl)) (pd_ix (hu_of hr) (pd_lst (pda_cons (pd_var 4) (pda_cons (pd_callK 0 (ok_l_draw T) (hr.mono (by decide)) T.g_l_draw T.F_l_draw.kp T.b_l_draw pass0 (pda_cons (pd_var 8) pda_nil)) pda_nil))) (pd_cint T.m_int (pda_cons (pd_cmp cs_ge (pd_var 4) (pd_var 8) (nomark _)) pda_nil))) (pd_ix (hu_of hr) (pd_var 5) (pd_var 4)) (pdss_cons (pds_setLc 10 (own := [("_law_k", 4)]) rfl sc_l_covering.nd (pdi_range1 T.m_range (pd_var 8)) (blkOk_by (own := [("_law_k", 4)]) (N := N_l_covering) (sc := defScope s_l_covering) (by decide +kernel)) ⟨fun _ _ _ _ _ => (pdg_name 4 sc_l_covering.nd), fun _ _ _ _ _ => pdts_nil, fun _ _ _ _ _ => (pd_tup (pda_cons (pd_ix (hu_of hr) (pd_var 7) (pd_var 4)) (pda_cons (pd_ctup T.m_tuple (pda_cons (pd_ix (hu_of hr) (pd_var 9) (pd_var 4)) pda_nil)) pda_nil))), by decide⟩ (sw_true rfl rfl rfl (by decide +kernel))) (pdss_cons (pds_set 11 sc_l_covering.nd (pd_callK 0 (ok_l_draw T) (hr.mono (by decide)) T.g_l_draw T.F_l_draw.kp T.b_l_draw pass0 (pda_cons (pd_var 8) pda_nil))) (pdss_one (pds_ret (pd_ctup T.m_tuple (pda_cons (pd_add (pd_sl (pd_var 10) (pdo_some (pd_var 11)) pdo_no) (pd_sl (pd_var 10) pdo_no (pdo_some (pd_var 11)))) pda_nil)))))) (by decide) (hp := PassesOwn.never))))))))))) : PDSs _ _ m_l_covering)
def m_l_right : MS := (sSeq (sAsg (mCall f_forms_of (mCons (mVar 0) (mCons (mVar 1) mNil))) (gSet 3))
  (sSeq (sAsg (mCall f_l_words (mCons (mVar 0) (mCons (mBin subD' (mVar 1) (mC (.int 0))) (mCons (mBin subD' (mVar 1) (mC (.int 1))) mNil)))) (gSet 4))
  (sRet (mAnd (mUn (isiD "tuple") (mVar 3)) (mAnd (mBin eqD (mCall listD (mCons (mVar 3) mNil)) (mVar 4)) (mOr (mBin eqD (mCall lenD (mCons (mVar 3) mNil)) (mC (.int 1))) (mUn notD (mVar 2))))))))
def f_l_right : List D → Option D := fnP 5 3 m_l_right
theorem ok_l_right (T : Tx K mg) : FnOk P w K mg base CX0 4 T.a_l_right T.d_l_right ["_law_forms", "_law_count_here", "_law_covers"] (spP K f_l_right) := okP (k := 3) T.F_l_right sc_l_right (by decide) fun cdv A outer s0 H E hr =>
  ((pdss_cons (pds_set 3 sc_l_right.nd (pd_callP (ok_forms_of T) (hr.mono (by decide)) T.g_forms_of T.F_forms_of.kp T.b_forms_of pass0 (pda_cons (pd_var 0) (pda_cons (pd_var 1) pda_nil)))) (pdss_cons (pds_set 4 sc_l_right.nd (pd_callP (ok_l_words T) (hr.mono (by decide)) T.g_l_words T.F_l_words.kp T.b_l_words pass0 (pda_cons (pd_var 0) (pda_cons (pd_ix (hu_of hr) (pd_var 1) pd_int) (pda_cons (pd_ix (hu_of hr) (pd_var 1) pd_int) pda_nil))))) (pdss_one (pds_ret (pd_and (pd_isi (T := "tuple") (t := "tuple") (by decide +kernel) T.m_isinstance T.m_tuple (pd_var 3)) (pd_and (pd_cmp (cs_eq hr.units) (pd_clist T.m_list (pda_cons (pd_var 3) pda_nil)) (pd_var 4) (nomark _)) (pd_one (pd_or (pd_cmp (cs_eq hr.units) (pd_len T.m_len (pda_cons (pd_var 3) pda_nil)) pd_int (nomark _)) (pd_one (pd_not (pd_var 2))))))))))) : PDSs _ _ m_l_right)
def m_law : MS := (sSeq (sAsg (mCallK 1 f_l_covering mNil) (gSet 2))
  (sSeq (sAsg (mCallK 1 f_l_bent_forms (mCons (mCallK 1 f_l_bent_forms (mCons (mVar 2) mNil)) mNil)) (gSet 3))
  (sSeq (sAsg (mLc (mRng1 (mC (.int 12))) [5] (gSet 5) mYes (mCallK 1 f_l_count mNil)) (gSet 4))
  (sSeq (sFor (mItems (mVar 4)) (gSet 6) (sIf (tOrM (tNotM (mTru (mCall f_l_right (mCons (mVar 2) (mCons (mVar 6) (mCons (mC (.bool true)) mNil)))))) (tNotM (mTru (mCall f_l_right (mCons (mVar 3) (mCons (mVar 6) (mCons (mC (.bool false)) mNil))))))) (sRet (mC (.bool false))) sNext))
  (sSeq (sAsg (mTup (mCons (mTup (mCons (mC (.str "none")) (mCons (mTup mNil) mNil))) (mCons (mTup (mCons (mC (.str "all")) (mCons (mTup (mCons (mTup mNil) mNil)) mNil))) (mCons (mTup (mCons (mC (.str "never")) (mCons (mTup (mCons (mTup (mCons (mTup (mCons (mC (.str "places")) (mCons (mC (.int 0)) (mCons (mC (.int 3)) (mCons (mC (.int 9)) (mCons (mC (.bool true)) mNil)))))) mNil)) mNil)) mNil))) mNil)))) (gSet 7))
  (sRet (mBin eqD (mLc (mItems (mVar 4)) [6] (gSet 6) (mB (mBin neD (mCall f_forms_of (mCons (mVar 7) (mCons (mVar 6) mNil))) (mTup (mCons (mC (.str "all")) mNil)))) (mVar 6)) (mLst mNil))))))))
theorem ok_law (T : Tx K mg) (hm : ∀ ns : List Int, ns.length ≤ 63 → ∃ ρ' δ', m_law (slots N_law.length [.no, .deck]) (deckOf ns) = some (.rt (.bool true), ρ', δ')) : FnOk P w K mg base CX0 5 T.a_law T.d_law ["_law_script"] (spLaw K) :=
  okLaw (k := 4) T.F_law sc_law (by decide) rfl
    (fun cdv A outer s0 H E hr => ps_set (i := 1) sc_law.nd rfl (by first | exact Or.inl rfl | exact Or.inr rfl) (pe_call (ok_l_deck T) (hr.mono (by decide)) (by rfl) T.g_l_deck T.F_l_deck.kp T.b_l_deck .nil pass0 (pa_cons (pv 0) pa_nil)))
    (fun cdv A outer s0 H E hr => ((pdss_cons (pds_set 2 sc_law.nd (pd_callK 1 (ok_l_covering T) (hr.mono (by decide)) T.g_l_covering T.F_l_covering.kp T.b_l_covering pass0 pda_nil)) (pdss_cons (pds_set 3 sc_law.nd (pd_callK 1 (ok_l_bent_forms T) (hr.mono (by decide)) T.g_l_bent_forms T.F_l_bent_forms.kp T.b_l_bent_forms pass0 (pda_cons (pd_callK 1 (ok_l_bent_forms T) (hr.mono (by decide)) T.g_l_bent_forms T.F_l_bent_forms.kp T.b_l_bent_forms pass0 (pda_cons (pd_var 2) pda_nil)) pda_nil))) (pdss_cons (pds_setLc 4 (own := [("_law_k", 5)]) rfl sc_law.nd (pdi_range1 T.m_range pd_int) (blkOk_by (own := [("_law_k", 5)]) (N := N_law) (sc := defScope s_law) (by decide +kernel)) ⟨fun _ _ _ _ _ => (pdg_name 5 sc_law.nd), fun _ _ _ _ _ => pdts_nil, fun _ _ _ _ _ => (pd_callK 1 (ok_l_count T) (hr.mono (by decide)) T.g_l_count T.F_l_count.kp T.b_l_count pass0 pda_nil), by decide⟩ (sw_true rfl rfl rfl (by decide +kernel))) (pdss_cons (pds_for PassesOwn.never rfl (pdi_seq (pd_var 4)) (pdg_name 6 sc_law.nd) (pdss_one (pds_if (PDW.pt (pdw_or (pdt_not (pdt_tru (pd_callP (ok_l_right T) (hr.mono (by decide)) T.g_l_right T.F_l_right.kp T.b_l_right pass0 (pda_cons (pd_var 2) (pda_cons (pd_var 6) (pda_cons pd_bl pda_nil)))))) (pdw_or1 (pdt_not (pdt_tru (pd_callP (ok_l_right T) (hr.mono (by decide)) T.g_l_right T.F_l_right.kp T.b_l_right pass0 (pda_cons (pd_var 3) (pda_cons (pd_var 6) (pda_cons pd_bl pda_nil))))))))) (pdss_one (pds_ret pd_bl)) pdss_nil))) (pdss_cons (pds_set 7 sc_law.nd (pd_tup (pda_cons (pd_tup (pda_cons pd_str (pda_cons (pd_tup pda_nil) pda_nil))) (pda_cons (pd_tup (pda_cons pd_str (pda_cons (pd_tup (pda_cons (pd_tup pda_nil) pda_nil)) pda_nil))) (pda_cons (pd_tup (pda_cons pd_str (pda_cons (pd_tup (pda_cons (pd_tup (pda_cons (pd_tup (pda_cons pd_str (pda_cons pd_int (pda_cons pd_int (pda_cons pd_int (pda_cons pd_bl pda_nil)))))) pda_nil)) pda_nil)) pda_nil))) pda_nil))))) (pdss_one (pds_ret (pd_cmp (cs_eq hr.units) (pd_lc (own := [("_law_count_here", 6)]) rfl sc_law.nd (pdi_seq (pd_var 4)) (blkOk_by (own := [("_law_count_here", 6)]) (N := N_law) (sc := defScope s_law) (by decide +kernel)) ⟨fun _ _ _ _ _ => (pdg_name 6 sc_law.nd), fun _ _ _ _ _ => (pdts_one (pdt_cmp (cs_ne hr.units) (pd_callP (ok_forms_of T) (hr.mono (by decide)) T.g_forms_of T.F_forms_of.kp T.b_forms_of pass0 (pda_cons (pd_var 7) (pda_cons (pd_var 6) pda_nil))) (pd_tup (pda_cons pd_str pda_nil)) (nomark _))), fun _ _ _ _ _ => (pd_var 6), by decide⟩) (pd_lst pda_nil) (nomark _))))))))) : PDSs _ _ m_law)) hm
end
end K02

namespace K02
open PySem PySem.Spec PyProof.Rows L2 PD
local macro_rules | `(tactic| walk_at "ev") => `(tactic| simp only [*, Int.reduceLE, Int.reduceLT, Int.reduceAdd, Int.reduceSub, Int.reduceMul, Int.reduceNeg, Int.reducePow, Int.reduceToNat, Nat.reducePow, gt_iff_lt, ge_iff_le, fnK, fnP, outP, slots, sSeq, sAsg, sRet, sIf, sFrz, sUni, sApp, sFor, sNext, sDk1, sDk0, sAug, mVar, mC, mBin, mUn, mCall, mCallK, mCons, mNil, mTup, mLst, mIf, mB, mTru, mChain, mAnd, mOr, tAndM, tOrM, tNotM, onDk, mDkIx, gSet, gTupM, gsCons, gsNil, mItems, itemsD, mYes, mSl, oNo, oSome, mDisp, pCons, pNil, addD_int, subD_int, mulD_int, modD_int, fdivD_int, powD_int, ltD_int, leD_int, gtD_int, geD_int, eqD_int, eqD_bool, negD, notD, truD, maxD, minD, PD.intD, lenD, absD, listD, tupD, List.length_cons, List.length_nil, List.length_map, List.map_cons, List.map_nil, List.getElem?_cons_zero, List.getElem?_cons_succ, List.set_cons_zero, List.set_cons_succ, Option.bind_some, Option.bind_none, Option.map_some, Option.map_none, List.cons_append, List.nil_append, Nat.reduceAdd, Nat.reduceSub, Nat.reduceLT, Nat.reduceLeDiff, List.replicate_succ, List.replicate_zero, ↓reduceIte, and_self, and_true, true_and, decide_true, decide_false, Bool.true_and, Bool.false_and, Bool.false_eq_true, Bool.not_true, Bool.not_false])
structure DkOk (b : Nat) (δ : Dk) : Prop where
  k0 : 0 ≤ δ.k
  k1 : δ.k ≤ b
  c0 : ∀ c ∈ δ.cells, 0 ≤ c
theorem DkOk.mono {b c : Nat} {δ : Dk} (h : DkOk b δ) (hb : b ≤ c) : DkOk c δ := ⟨h.k0, by have := h.k1; omega, h.c0⟩
theorem ixN_in {n : Nat} {i : Int} (h0 : 0 ≤ i) (h1 : i < n) : ixN n i = some i.toNat := by
  unfold ixN
  rw [if_pos h0, if_pos h1]
theorem atI_in {α : Type} {xs : List α} {i : Int} (h0 : 0 ≤ i) (h1 : i < xs.length) : ∃ x, atI xs i = some x ∧ xs[i.toNat]? = some x ∧ x ∈ xs := by
  have hl : i.toNat < xs.length := by omega
  refine ⟨xs[i.toNat], ?_, List.getElem?_eq_getElem hl, List.getElem_mem hl⟩
  unfold atI
  rw [ixN_in h0 h1]
  exact List.getElem?_eq_getElem hl
theorem log_ok {many : Int} (h0 : 0 < many) (h1 : many ≤ 10000000000000) : many.natAbs.log2 < 9000 := by
  have h2 : many.natAbs < 2 ^ 64 := Nat.lt_of_le_of_lt (show many.natAbs ≤ 10000000000000 by omega) (by decide)
  exact Nat.lt_of_lt_of_le (PySem.Flt.log2_lt_of (by decide) h2) (by decide)
theorem draw_ok {b : Nat} {δ : Dk} {many : Int} (h : DkOk b δ) (hb : b ≤ 1000000000) (h0 : 0 < many) (h1 : many ≤ 10000000000000) : ∃ r δ', f_l_draw [.int many] δ = some (.int r, δ') ∧ 0 ≤ r ∧ r < many ∧ DkOk (b + 1) δ' := by
  obtain ⟨cells, k⟩ := δ
  obtain ⟨k0, k1, c0⟩ := h
  dsimp only at k0 k1 c0
  have hlog := log_ok h0 h1
  have small : ∀ cell : Int, (cell % 2147483587 + 7919 * (k + 1) + 1).natAbs < 18446744073709551616 := fun cell => by
    have a1 := Int.emod_nonneg cell (show (2147483587 : Int) ≠ 0 by decide)
    have a2 := Int.emod_lt_of_pos cell (show (0 : Int) < 2147483587 by decide)
    omega
  have ten : Int.natAbs 10 < 18446744073709551616 := by decide
  have m1 : mulOk 7919 (k + 1) = true := rfl
  have rd : ∀ x : Int, 0 ≤ x % many ∧ x % many < many := fun x => ⟨Int.emod_nonneg _ (by omega), Int.emod_lt_of_pos _ h0⟩
  have kk : DkOk (b + 1) ⟨cells, k + 1⟩ := ⟨show (0 : Int) ≤ k + 1 by omega, show k + 1 ≤ ((b + 1 : Nat) : Int) by omega, c0⟩
  unfold f_l_draw m_l_draw
  rcases Nat.eq_zero_or_pos cells.length with hl | hl
  · have hl1 : ¬ (0 : Int) < (cells.length : Int) := by omega
    refine ⟨_, ⟨cells, k + 1⟩, ?_, (rd ((0 % 2147483587 + 7919 * (k + 1) + 1) ^ 5 % 2147483647)).1, (rd _).2, kk⟩
    clear hl
    walk_at "ev"
  · have hl1 : (0 : Int) < (cells.length : Int) := by omega
    obtain ⟨cell, e1, e2, e3⟩ := atI_in (xs := cells) (i := (k + 1) % (cells.length : Int)) (Int.emod_nonneg _ (by omega)) (Int.emod_lt_of_pos _ hl1)
    have hix := ixN_in (n := cells.length) (i := (k + 1) % (cells.length : Int)) (Int.emod_nonneg _ (by omega)) (Int.emod_lt_of_pos _ hl1)
    have cell0 := c0 cell e3
    by_cases hbig : (1000000000000000000 : Int) ≤ cell
    · refine ⟨_, ⟨cells.set ((k + 1) % (cells.length : Int)).toNat (cell / many), k + 1⟩, ?_, (rd cell).1, (rd cell).2, ⟨kk.k0, kk.k1, fun c hc => ?_⟩⟩
      · walk_at "ev"
      · rcases List.mem_or_eq_of_mem_set hc with hc | hc
        · exact c0 c hc
        · rw [hc]; exact Int.ediv_nonneg cell0 (by omega)
    · refine ⟨_, ⟨cells, k + 1⟩, ?_, (rd ((cell % 2147483587 + 7919 * (k + 1) + 1) ^ 5 % 2147483647)).1, (rd _).2, kk⟩
      walk_at "ev"

/-! ### tests, rows, forms as data -/
inductive Wh where
  | whole | rest | places
def Wh.str : Wh → Str
  | .whole => "whole" | .rest => "rest" | .places => "places"
structure Tt where
  w : Wh
  by_ : Int
  lo : Int
  hi : Int
  yes : Bool
abbrev Row := List Tt
abbrev Rule := List Row
abbrev Forms := List (Str × Rule)
def dT (t : Tt) : D := .tuple [.str t.w.str, .int t.by_, .int t.lo, .int t.hi, .bool t.yes]
def dRow (r : Row) : D := .tuple (r.map dT)
def dRule (r : Rule) : D := .tuple (r.map dRow)
def dForm (f : Str × Rule) : D := .tuple [.str f.1, dRule f.2]
def dForms (f : Forms) : D := .tuple (f.map dForm)
def num (n d : Int) : Wh → Int
  | .whole => n / 10 ^ d.toNat
  | .rest => n % 10 ^ d.toNat
  | .places => d
def holdsN (t : Tt) (x : Int) : Bool := let left := if t.by_ = 0 then x else x % t.by_; (decide (t.lo ≤ left) && decide (left ≤ t.hi)) == t.yes
def holds (t : Tt) (n d : Int) : Bool := holdsN t (num n d t.w)
def ruleH (r : Rule) (n d : Int) : Bool := r.any fun row => row.all fun t => holds t n d
def words (f : Forms) (n d : Int) : List Str := (f.filter fun p => ruleH p.2 n d).map (·.1)
structure CntOk (n d : Int) : Prop where
  n0 : 0 ≤ n
  d0 : d = 0 ∨ d = 1 ∨ d = 2
theorem holds_of_eq {t : Tt} (h : 0 ≤ t.by_) (x : Int) : f_holds_of [dT t, .int x] = some (.bool (holdsN t x)) := by
  obtain ⟨w, b, lo, hi, y⟩ := t
  dsimp only at h
  unfold f_holds_of m_holds_of dT holdsN
  by_cases hb : b = 0
  · by_cases hc : lo ≤ x
    · walk_at "ev"
    · walk_at "ev"
  · have hb1 : 0 < b := by omega
    by_cases hc : lo ≤ x % b
    · walk_at "ev"
    · walk_at "ev"

theorem scale_eq {d : Int} (h : d = 0 ∨ d = 1 ∨ d = 2) : f_scale_of [.int d] = some (.int (10 ^ d.toNat)) := by
  rcases h with rfl | rfl | rfl <;> rfl
def partsD (n d : Int) : D := .dict [(.str "whole", .int (num n d .whole)), (.str "rest", .int (num n d .rest)), (.str "places", .int d)]
theorem parts_eq {n d : Int} (h : CntOk n d) : f_parts_of [.tuple [.int n, .int d]] = some (partsD n d) := by
  have hs := scale_eq h.d0
  have hd : divmodD [.int n, .int (10 ^ d.toNat)] = some (.tuple [.int (n / 10 ^ d.toNat), .int (n % 10 ^ d.toNat)]) := by
    rcases h.d0 with rfl | rfl | rfl <;> rfl
  have hn : ∀ a b c : D, nodupK [(Sum.inr "whole", a), (Sum.inr "rest", b), (Sum.inr "places", c)] = true := fun a b c => rfl
  unfold f_parts_of m_parts_of partsD
  walk_at "ev"
  simp only [keyOf, Option.bind_some, Option.map_some, hn, List.length_cons, List.length_nil, Nat.reduceAdd, Nat.reduceLeDiff, and_self, ↓reduceIte, List.map_cons, List.map_nil, keyD, num]
theorem parts_ix (n d : Int) (w : Wh) : subD' (partsD n d) (.str w.str) = some (.int (num n d w)) := by
  cases w <;> rfl
structure RuleOk (r : Rule) : Prop where
  len : r.length ≤ 1000
  row : ∀ x ∈ r, x.length ≤ 1000
  by0 : ∀ x ∈ r, ∀ t ∈ x, 0 ≤ t.by_
theorem sz {n : Nat} (h : n ≤ 1000) : n ≤ sizeLine := Nat.le_trans h (by decide)
theorem rule_eq {r : Rule} (h : RuleOk r) (n d : Int) : f_rule_holds [dRule r, partsD n d] = some (.bool (ruleH r n d)) := by
  unfold f_rule_holds m_rule_holds
  have inner : ∀ row ∈ r, ∀ δ, mCall allD (mCons (mLc (mItems (mVar 3)) [2] (gSet 2) mYes (mCall f_holds_of (mCons (mVar 2) (mCons (mBin subD' (mVar 1) (mBin subD' (mVar 2) (mC (.int 0)))) mNil)))) mNil) [.val (dRule r), .val (partsD n d), .no, .val (dRow row)] δ = some (.bool (row.all fun t => holds t n d), δ) := fun row hrow δ => by
    refine call_eq (cons_eq (lc_eq (it_eq rfl rfl) rfl (compL_map dT (fun t => .bool (holds t n d)) row fun t ht => ⟨_, rfl, ?_⟩) (by rw [List.length_map]; exact sz (h.row row hrow))) rfl) ?_
    · refine call_eq (cons_eq rfl (cons_eq (bin_eq rfl (bin_eq rfl rfl rfl) (parts_ix n d t.w)) rfl)) (holds_of_eq (h.by0 row hrow t ht) _)
    · show (boolsD (row.map fun t => .bool (holds t n d))).map _ = _
      rw [show (row.map fun t => PyData.bool (holds t n d)) = (row.map fun t => holds t n d).map .bool by rw [List.map_map]; rfl, boolsD_map]
      simp
  have outer : mCall anyD (mCons (mLc (mItems (mVar 0)) [3] (gSet 3) mYes (mCall allD (mCons (mLc (mItems (mVar 3)) [2] (gSet 2) mYes (mCall f_holds_of (mCons (mVar 2) (mCons (mBin subD' (mVar 1) (mBin subD' (mVar 2) (mC (.int 0)))) mNil)))) mNil))) mNil) [.val (dRule r), .val (partsD n d), .no, .no] ⟨[], 0⟩ = some (.bool (ruleH r n d), ⟨[], 0⟩) := by
    refine call_eq (cons_eq (lc_eq (it_eq rfl rfl) rfl (compL_map dRow (fun row => .bool (row.all fun t => holds t n d)) r fun row hrow => ⟨_, rfl, inner row hrow _⟩) (by rw [List.length_map]; exact sz h.len)) rfl) ?_
    show (boolsD (r.map fun row => .bool (row.all fun t => holds t n d))).map _ = _
    rw [show (r.map fun row => PyData.bool (row.all fun t => holds t n d)) = (r.map fun row => row.all fun t => holds t n d).map .bool by rw [List.map_map]; rfl, boolsD_map]
    simp [ruleH]
  exact fnP_eq ⟨rfl, by decide⟩ (ret_eq outer)
structure FormsOk (f : Forms) : Prop where
  len : f.length ≤ 1000
  rule : ∀ x ∈ f, RuleOk x.2
  name : ∀ x ∈ f, PyData.strOk x.1 = true
theorem forms_eq {f : Forms} (h : FormsOk f) {n d : Int} (hc : CntOk n d) : f_forms_of [dForms f, .tuple [.int n, .int d]] = some (.tuple ((words f n d).map .str)) := by
  unfold f_forms_of m_forms_of
  have e : mCall tupD (mCons (mLc (mItems (mVar 0)) [3, 4] (gTupM 2 (gsCons (gSet 3) (gsCons (gSet 4) gsNil))) (mTru (mCall f_rule_holds (mCons (mVar 4) (mCons (mVar 2) mNil)))) (mVar 3)) mNil) [.val (dForms f), .val (.tuple [.int n, .int d]), .val (partsD n d), .no, .no] ⟨[], 0⟩ = some (.tuple ((words f n d).map .str), ⟨[], 0⟩) := by
    refine call_eq (cons_eq (lc_eq (it_eq rfl rfl) rfl (compL_filter dForm (fun p => ruleH p.2 n d) (fun p => .str p.1) f fun p hp => ⟨_, rfl, tru_eq (call_eq (cons_eq rfl (cons_eq rfl rfl)) (rule_eq (h.rule p hp) n d)) rfl, fun _ => rfl⟩) ?_) rfl) ?_
    · rw [List.length_map]
      exact sz (Nat.le_trans (List.length_filter_le _ _) h.len)
    · show some (PyData.tuple ((f.filter fun p => ruleH p.2 n d).map fun p => .str p.1)) = _
      unfold words
      rw [List.map_map]
      rfl
  exact fnP_eq ⟨rfl, by decide⟩ ((seq_nx (asg_eq (call_eq (cons_eq rfl rfl) (parts_eq hc)) rfl)).trans (ret_eq e))
theorem tens {d : Int} (h : d = 0 ∨ d = 1 ∨ d = 2) : subD' (.list [.int 1, .int 10, .int 100]) (.int d) = some (.int (10 ^ d.toNat)) := by
  rcases h with rfl | rfl | rfl <;> rfl
theorem pow_pos {d : Int} (h : d = 0 ∨ d = 1 ∨ d = 2) : (0 : Int) < 10 ^ d.toNat ∧ ((10 : Int) ^ d.toNat).natAbs.log2 < 9000 := by
  rcases h with rfl | rfl | rfl <;> exact ⟨by decide, by decide⟩
theorem l_holds_eq {t : Tt} (h : 0 ≤ t.by_) {n d : Int} (hc : CntOk n d) : f_l_holds [dT t, .int n, .int d] = some (.bool (holds t n d)) := by
  have h1 := tens hc.d0
  obtain ⟨h2, h3⟩ := pow_pos hc.d0
  have hn : ∀ a b c : D, nodupK [(Sum.inr "whole", a), (Sum.inr "rest", b), (Sum.inr "places", c)] = true := fun a b c => rfl
  have h4 : ∀ (ρ : List Sl) (δ : Dk), ρ[1]? = some (.val (.int n)) → ρ[2]? = some (.val (.int d)) → ρ[8]? = some (.val (.int (10 ^ d.toNat))) → mDisp (pCons (mC (.str "whole")) (mBin fdivD (mVar 1) (mVar 8)) (pCons (mC (.str "rest")) (mBin modD (mVar 1) (mVar 8)) (pCons (mC (.str "places")) (mVar 2) pNil))) ρ δ = some (partsD n d, δ) := fun ρ δ r1 r2 r8 => by
    simp only [mDisp, pCons, pNil, mC, mBin, mVar, r1, r2, r8, Option.bind_some, keyOf, fdivD_int h2 h3, modD_int h2, Option.map_some, hn, List.length_cons, List.length_nil, Nat.reduceAdd, Nat.reduceLeDiff, and_self, ↓reduceIte, List.map_cons, List.map_nil, keyD]
    rfl
  have h5 := parts_ix n d t.w
  obtain ⟨w, b, lo, hi, y⟩ := t
  dsimp only at h h5
  unfold f_l_holds m_l_holds
  by_cases hb : b = 0
  · subst hb
    have e5 : ∀ ρ : List Sl, ∀ δ : Dk, ρ[4]? = some (.val (.int 0)) → mB (mBin gtD (mVar 4) (mC (.int 0))) ρ δ = some (false, δ) := fun ρ δ hr => by simp [mB, mBin, mVar, mC, hr, gtD_int]
    have e6 : ∀ ρ : List Sl, ∀ δ : Dk, ρ[5]? = some (.val (.int lo)) → ρ[6]? = some (.val (.int hi)) → ρ[7]? = some (.val (.bool y)) → ρ[9]? = some (.val (.int (num n d w))) → mBin eqD (mChain leD leD (mVar 5) (mVar 9) (mVar 6)) (mVar 7) ρ δ = some (.bool (holds ⟨w, 0, lo, hi, y⟩ n d), δ) := fun ρ δ r5 r6 r7 r9 => by
      unfold holds holdsN
      by_cases hlo : lo ≤ num n d w
      · simp [mBin, mChain, mVar, r5, r6, r7, r9, leD_int, eqD_bool, hlo]
      · simp [mBin, mChain, mVar, r5, r6, r7, r9, leD_int, eqD_bool, hlo]
    exact fnP_eq ⟨rfl, by decide⟩ ((seq_nx (asg_eq rfl rfl)).trans ((seq_nx (asg_eq (bin_eq (lst_eq rfl (by decide)) rfl h1) rfl)).trans ((seq_nx (asg_eq (bin_eq (h4 _ _ rfl rfl rfl) rfl h5) rfl)).trans ((seq_nx ((if_f (e5 _ _ rfl)).trans rfl)).trans (ret_eq (e6 _ _ rfl rfl rfl rfl))))))
  · have hb1 : 0 < b := by omega
    have e5 : ∀ ρ : List Sl, ∀ δ : Dk, ρ[4]? = some (.val (.int b)) → mB (mBin gtD (mVar 4) (mC (.int 0))) ρ δ = some (true, δ) := fun ρ δ hr => by simp [mB, mBin, mVar, mC, hr, gtD_int, hb1]
    have e6 : ∀ ρ : List Sl, ∀ δ : Dk, ρ[5]? = some (.val (.int lo)) → ρ[6]? = some (.val (.int hi)) → ρ[7]? = some (.val (.bool y)) → ρ[9]? = some (.val (.int (num n d w % b))) → mBin eqD (mChain leD leD (mVar 5) (mVar 9) (mVar 6)) (mVar 7) ρ δ = some (.bool (holds ⟨w, b, lo, hi, y⟩ n d), δ) := fun ρ δ r5 r6 r7 r9 => by
      unfold holds holdsN
      by_cases hlo : lo ≤ num n d w % b
      · simp [mBin, mChain, mVar, r5, r6, r7, r9, leD_int, eqD_bool, hlo, hb]
      · simp [mBin, mChain, mVar, r5, r6, r7, r9, leD_int, eqD_bool, hlo, hb]
    exact fnP_eq ⟨rfl, by decide⟩ ((seq_nx (asg_eq rfl rfl)).trans ((seq_nx (asg_eq (bin_eq (lst_eq rfl (by decide)) rfl h1) rfl)).trans ((seq_nx (asg_eq (bin_eq (h4 _ _ rfl rfl rfl) rfl h5) rfl)).trans ((seq_nx ((if_t (e5 _ _ rfl)).trans (asg_eq (bin_eq rfl rfl (modD_int hb1)) rfl))).trans (ret_eq (e6 _ _ rfl rfl rfl rfl))))))
end K02

namespace K02
open PySem PySem.Spec PyProof.Rows L2 PD
theorem not_eq {t : MT} {ρ : List Sl} {δ δ1 : Dk} {b : Bool} (h : t ρ δ = some (b, δ1)) : tNotM t ρ δ = some (!b, δ1) := by unfold tNotM; rw [h]; rfl
theorem for_eq {mi : MA} {g : MG} {s : MS} {ρ : List Sl} {δ δ1 : Dk} {ds : List D} (h : mi ρ δ = some (ds, δ1)) : sFor mi g s ρ δ = forL g s ds ρ δ1 := by unfold sFor; rw [h]; rfl
theorem w_ok (w : Wh) : PyData.strOk w.str = true := by cases w <;> decide +kernel
theorem sh_T (t : Tt) : Sh 1 (dT t) := Sh.tup fun d hd => by
  simp only [List.mem_cons, List.not_mem_nil, or_false] at hd
  rcases hd with rfl | rfl | rfl | rfl | rfl
  · exact Sh.str (w_ok _)
  · exact Sh.int _
  · exact Sh.int _
  · exact Sh.int _
  · exact Sh.bool _
theorem sh_Row (r : Row) : Sh 2 (dRow r) := Sh.tup fun d hd => by
  obtain ⟨t, _, rfl⟩ := List.mem_map.mp hd
  exact sh_T t
theorem sh_Rule (r : Rule) : Sh 3 (dRule r) := Sh.tup fun d hd => by
  obtain ⟨t, _, rfl⟩ := List.mem_map.mp hd
  exact sh_Row t
theorem sh_nil : Sh 1 (.list []) := Sh.lst (k := 0) fun d hd => by simp at hd
theorem sh_nilT : Sh 1 (.tuple []) := Sh.tup (k := 0) fun d hd => by simp at hd
theorem filter_emp {α : Type} (p : α → Bool) : ∀ l : List α, (l.filter fun x => !p x).isEmpty = l.all p
  | [] => rfl
  | x :: l => by
    cases h : p x with
    | true => rw [List.filter_cons_of_neg (by simp [h]), filter_emp p l]; simp [h]
    | false => rw [List.filter_cons_of_pos (by simp [h])]; simp [h]
theorem filter_any {α : Type} (p : α → Bool) : ∀ l : List α, (!(l.filter p).isEmpty) = l.any p
  | [] => rfl
  | x :: l => by
    cases h : p x with
    | false => rw [List.filter_cons_of_neg (by simp [h]), filter_any p l]; simp [h]
    | true => rw [List.filter_cons_of_pos h]; simp [h]
theorem map_emp {α β : Type} (f : α → β) (l : List α) : (l.map f).isEmpty = l.isEmpty := by cases l <;> rfl
section
variable {n d : Int} (hc : CntOk n d)
abbrev rowsM : ME := mLc (mItems (mVar 5)) [6] (gSet 6) (mB (mBin eqD (mLc (mItems (mVar 6)) [7] (gSet 7) (tNotM (mTru (mCall f_l_holds (mCons (mVar 7) (mCons (mVar 1) (mCons (mVar 2) mNil)))))) (mVar 7)) (mLst mNil))) (mVar 6)
include hc in
theorem rows_eq {r : Rule} (h : RuleOk r) (F a w : D) (acc : List D) (δ : Dk) : mB (mBin neD rowsM (mLst mNil)) [.val F, .val (.int n), .val (.int d), .uni acc, .val w, .val (dRule r), .no, .no] δ = some (ruleH r n d, δ) := by
  have e : rowsM [.val F, .val (.int n), .val (.int d), .uni acc, .val w, .val (dRule r), .no, .no] δ = some (.list ((r.filter fun row => row.all fun t => holds t n d).map dRow), δ) := by
    refine lc_eq (it_eq rfl rfl) rfl (compL_filter dRow (fun row => row.all fun t => holds t n d) dRow r fun row hrow => ⟨_, rfl, ?_, fun _ => rfl⟩) (by rw [List.length_map]; exact sz (Nat.le_trans (List.length_filter_le _ _) h.len))
    refine mB_eq (bin_eq (lc_eq (it_eq rfl rfl) rfl (compL_filter dT (fun t => !holds t n d) dT row fun t ht => ⟨_, rfl, ?_, fun _ => rfl⟩) (by rw [List.length_map]; exact sz (Nat.le_trans (List.length_filter_le _ _) (h.row row hrow)))) (lst_eq rfl (by decide)) ?_)
    · exact not_eq (tru_eq (call_eq (cons_eq rfl (cons_eq rfl (cons_eq rfl rfl))) (l_holds_eq (h.by0 row hrow t ht) hc)) rfl)
    · rw [eqD_of (Sh.lst (k := 1) fun d hd => by
        obtain ⟨t, _, rfl⟩ := List.mem_map.mp hd
        exact sh_T t) sh_nil (by decide) (by decide), eqv_nil, map_emp, filter_emp]
  refine mB_eq (bin_eq e (lst_eq rfl (by decide)) ?_)
  rw [neD_of (Sh.lst (k := 2) fun d hd => by
    obtain ⟨t, _, rfl⟩ := List.mem_map.mp hd
    exact sh_Row t) sh_nil (by decide) (by decide), eqv_nil, map_emp, filter_any]
  rfl
theorem words_cons (f : Str × Rule) (fs : Forms) (n d : Int) : words (f :: fs) n d = if ruleH f.2 n d = true then f.1 :: words fs n d else words fs n d := by
  unfold words
  cases h : ruleH f.2 n d with
  | true => rw [List.filter_cons_of_pos (by exact h)]; simp
  | false => rw [List.filter_cons_of_neg (by simp [h])]; simp
include hc in
theorem words_loop (F : D) : ∀ (fs : Forms), FormsOk fs → ∀ (acc : List D) (s4 s5 : Sl) (δ : Dk), acc.length + fs.length ≤ 1000 → ∃ s4' s5', forL (gTupM 2 (gsCons (gSet 4) (gsCons (gSet 5) gsNil))) (sIf (mB (mBin neD rowsM (mLst mNil))) (sApp 3 (mVar 4)) sNext) (fs.map dForm) [.val F, .val (.int n), .val (.int d), .uni acc, s4, s5, .no, .no] δ
    = some (.nx, [.val F, .val (.int n), .val (.int d), .uni (acc ++ (words fs n d).map .str), s4', s5', .no, .no], δ)
  | [], _, acc, s4, s5, δ, _ => ⟨s4, s5, by simp [forL, words]⟩
  | f :: fs, h, acc, s4, s5, δ, hl => by
    have hf : FormsOk fs := ⟨by have := h.len; simp at this; omega, fun x hx => h.rule x (.tail _ hx), fun x hx => h.name x (.tail _ hx)⟩
    have e1 := rows_eq hc (h.rule f (.head _)) F (.none) (.str f.1) acc δ
    rw [words_cons]
    cases hr : ruleH f.2 n d with
    | true =>
      rw [hr] at e1
      obtain ⟨a, b, ih⟩ := words_loop F fs hf (acc ++ [.str f.1]) (.val (.str f.1)) (.val (dRule f.2)) δ (by simp at hl ⊢; omega)
      refine ⟨a, b, ?_⟩
      rw [List.map_cons]
      unfold forL
      show (Option.bind (sIf _ _ _ [.val F, .val (.int n), .val (.int d), .uni acc, .val (.str f.1), .val (dRule f.2), .no, .no] δ) _) = _
      rw [if_t e1]
      have e2 : sApp 3 (mVar 4) [.val F, .val (.int n), .val (.int d), .uni acc, .val (.str f.1), .val (dRule f.2), .no, .no] δ = some (.nx, [.val F, .val (.int n), .val (.int d), .uni (acc ++ [.str f.1]), .val (.str f.1), .val (dRule f.2), .no, .no], δ) := by
        have : acc.length < sizeLine := Nat.lt_of_le_of_lt (show acc.length ≤ 1000 by simp at hl; omega) (by decide)
        simp [sApp, mVar, this]
      rw [e2]
      simp only [Option.bind_some, ↓reduceIte, List.map_cons]
      rw [ih]
      simp
    | false =>
      rw [hr] at e1
      obtain ⟨a, b, ih⟩ := words_loop F fs hf acc (.val (.str f.1)) (.val (dRule f.2)) δ (by simp at hl ⊢; omega)
      refine ⟨a, b, ?_⟩
      rw [List.map_cons]
      unfold forL
      show (Option.bind (sIf _ _ _ [.val F, .val (.int n), .val (.int d), .uni acc, .val (.str f.1), .val (dRule f.2), .no, .no] δ) _) = _
      rw [if_f e1]
      simp only [sNext, Option.bind_some, Bool.false_eq_true, ↓reduceIte]
      exact ih
include hc in
theorem l_words_eq {f : Forms} (h : FormsOk f) : f_l_words [dForms f, .int n, .int d] = some (.list ((words f n d).map .str)) := by
  obtain ⟨a, b, e⟩ := words_loop hc (dForms f) f h [] .no .no ⟨[], 0⟩ (by simpa using h.len)
  exact fnP_eq (ρ' := [.val (dForms f), .val (.int n), .val (.int d), .val (.list ((words f n d).map .str)), a, b, .no, .no]) (δ' := ⟨[], 0⟩) ⟨rfl, by decide⟩ ((seq_nx (ρ1 := [.val (dForms f), .val (.int n), .val (.int d), .uni [], .no, .no, .no, .no]) (δ1 := ⟨[], 0⟩) rfl).trans ((seq_nx ((for_eq (it_eq rfl rfl)).trans e)).trans rfl))
theorem eqv_strs : ∀ ws : List Str, PyData.eqvAll (ws.map .str) (ws.map .str) = true
  | [] => by simp [PyData.eqvAll]
  | w :: ws => by simp [PyData.eqvAll, PyData.eqv, eqv_strs ws]
include hc in
theorem l_right_eq {f : Forms} (h : FormsOk f) (c : Bool) : f_l_right [dForms f, .tuple [.int n, .int d], .bool c] = some (.bool (decide ((words f n d).length = 1) || !c)) := by
  have hw : ∀ w ∈ words f n d, PyData.strOk w = true := fun w hw => by
    unfold words at hw
    obtain ⟨p, hp, rfl⟩ := List.mem_map.mp hw
    exact h.name p (List.mem_filter.mp hp).1
  have hs : Sh 1 (.list ((words f n d).map .str)) := Sh.lst (k := 0) fun x hx => by
    obtain ⟨w, h1, rfl⟩ := List.mem_map.mp hx
    exact Sh.str (hw w h1)
  have e : eqD (.list ((words f n d).map .str)) (.list ((words f n d).map .str)) = some (.bool true) := by
    rw [eqD_of hs hs (by decide) (by decide)]
    simp [PyData.eqv, eqv_strs]
  have e2 : isiD "tuple" (.tuple ((words f n d).map .str)) = some (.bool true) := by
    have : kitB "tuple" "tuple" = some true := by decide +kernel
    show (kitB "tuple" "tuple").map _ = _
    rw [this]; rfl
  refine fnP_eq ⟨rfl, by decide⟩ ((seq_nx (asg_eq (call_eq (cons_eq rfl (cons_eq rfl rfl)) (forms_eq h hc)) rfl)).trans ((seq_nx (asg_eq (call_eq (cons_eq rfl (cons_eq (bin_eq rfl rfl rfl) (cons_eq (bin_eq rfl rfl rfl) rfl))) (l_words_eq hc h)) rfl)).trans (ret_eq (δ1 := ⟨[], 0⟩) ?_)))
  have q : ∀ k : Nat, ((k : Int) = 1) ↔ k = 1 := fun k => by omega
  simp only [mAnd, mOr, mUn, mBin, mCall, mCons, mNil, mVar, mC, slots, gSet, List.set_cons_succ, List.set_cons_zero, List.map_cons, List.map_nil, List.cons_append, List.nil_append, List.length_cons, List.length_nil, List.replicate_succ, List.replicate_zero, Nat.reduceAdd, Nat.reduceSub, List.getElem?_cons_succ, List.getElem?_cons_zero, Option.bind_some, Option.map_some, e2, listD, e, lenD, eqD_int, List.length_map, notD]
  by_cases hk : (words f n d).length = 1
  · simp [hk]
  · have : ¬ (((words f n d).length : Int) = 1) := fun z => hk ((q _).mp z)
    simp [hk, this]
end
end K02

namespace K02
open PySem PySem.Spec PyProof.Rows L2 PD
theorem szr {ds : List D} (h : Nat.ble ds.length 1000 = true) : ds.length ≤ sizeLine := sz (Nat.le_of_ble_eq_true h)
def flip (t : Tt) : Tt := { t with yes := !t.yes }
theorem turned_eq (t : Tt) : f_l_turned [dT t] = some (dT (flip t)) := rfl
theorem mul250 {d : Int} (h : d = 0 ∨ d = 1 ∨ d = 2) : mulD (.int 250) (.int (10 ^ d.toNat)) = some (.int (250 * 10 ^ d.toNat)) := mulD_int rfl
theorem count_ok {b : Nat} {δ : Dk} (h : DkOk b δ) (hb : b ≤ 100000) : ∃ n d δ', f_l_count [] δ = some (.tuple [.int n, .int d], δ') ∧ CntOk n d ∧ DkOk (b + 5) δ' := by
  obtain ⟨d, δ1, e1, d0, d1, D1⟩ := draw_ok (many := 3) h (by omega) (by decide) (by decide)
  obtain ⟨w, δ2, e2, w0, w1, D2⟩ := draw_ok (many := 4) D1 (by omega) (by decide) (by decide)
  obtain ⟨r1, δ3, e3, a0, a1, D3⟩ := draw_ok (many := 30) D2 (by omega) (by decide) (by decide)
  have hd : d = 0 ∨ d = 1 ∨ d = 2 := by omega
  have hp : (0 : Int) < 250 * 10 ^ d.toNat ∧ (250 * 10 ^ d.toNat : Int) ≤ 25000 := by rcases hd with rfl | rfl | rfl <;> decide
  obtain ⟨r2, δ4, e4, b0, b1, D4⟩ := draw_ok (many := 250 * 10 ^ d.toNat) D3 (by omega) hp.1 (by omega)
  obtain ⟨r3, δ5, e5, c0, c1, D5⟩ := draw_ok (many := 1000000000001) D4 (by omega) (by decide) (by decide)
  have p12 : powD (.int 10) (.int 12) = some (.int 1000000000000) := powD_int (by decide) (by decide) (by decide)
  obtain ⟨n, hn, n0⟩ : ∃ n, subD' (.list [.int r1, .int r2, .int r3, .int 1000000000000]) (.int w) = some (.int n) ∧ 0 ≤ n := by
    have hw : w = 0 ∨ w = 1 ∨ w = 2 ∨ w = 3 := by omega
    rcases hw with rfl | rfl | rfl | rfl
    · exact ⟨r1, rfl, a0⟩
    · exact ⟨r2, rfl, b0⟩
    · exact ⟨r3, rfl, c0⟩
    · exact ⟨_, rfl, by decide⟩
  refine ⟨n, d, δ5, ?_, ⟨n0, hd⟩, D5⟩
  exact fnK_eq ⟨rfl, by decide⟩ ((seq_nx (asg_eq (callK_eq rfl (cons_eq rfl rfl) e1) rfl)).trans ((seq_nx (asg_eq (callK_eq rfl (cons_eq rfl rfl) e2) rfl)).trans ((seq_nx (asg_eq (bin_eq (lst_eq (cons_eq (callK_eq rfl (cons_eq rfl rfl) e3) (cons_eq (callK_eq rfl (cons_eq (bin_eq rfl (bin_eq (lst_eq rfl (szr rfl)) rfl (tens hd)) (mul250 hd)) rfl) e4) (cons_eq (callK_eq rfl (cons_eq (bin_eq (bin_eq rfl rfl p12) rfl rfl) rfl) e5) (cons_eq (bin_eq rfl rfl p12) rfl)))) (szr rfl)) rfl hn) rfl)).trans (ret_eq (tup_eq rfl (szr rfl))))))
/-- a test that is drawn -/
theorem test_ok {b : Nat} {δ : Dk} {menu : List Int} (h : DkOk b δ) (hb : b ≤ 100000) (hl : 1 ≤ menu.length) (hl2 : menu.length ≤ 1000) (hm : ∀ x ∈ menu, 0 ≤ x ∧ x ≤ 1000) : ∃ t δ', f_l_test [.list (menu.map .int)] δ = some (dT t, δ') ∧ 0 ≤ t.by_ ∧ DkOk (b + 8) δ' := by
  obtain ⟨r5, δ1, e1, x0, x1, D1⟩ := draw_ok (many := 5) h (by omega) (by decide) (by decide)
  obtain ⟨w, hw⟩ : ∃ w : Wh, subD' (.list [.str "whole", .str "whole", .str "whole", .str "rest", .str "places"]) (.int r5) = some (.str w.str) := by
    have hw : r5 = 0 ∨ r5 = 1 ∨ r5 = 2 ∨ r5 = 3 ∨ r5 = 4 := by omega
    rcases hw with rfl | rfl | rfl | rfl | rfl
    · exact ⟨.whole, rfl⟩
    · exact ⟨.whole, rfl⟩
    · exact ⟨.whole, rfl⟩
    · exact ⟨.rest, rfl⟩
    · exact ⟨.places, rfl⟩
  obtain ⟨rm, δ2, e2, m0, m1, D2⟩ := draw_ok (many := (menu.length : Int)) D1 (by omega) (by omega) (by omega)
  obtain ⟨by_, hby, _, hbm⟩ := atI_in (xs := menu) (i := rm) m0 m1
  obtain ⟨by0, by1⟩ := hm by_ hbm
  have hbyD : subD' (.list (menu.map .int)) (.int rm) = some (.int by_) := ix_lst _ _ (by rw [atI_map, hby]; rfl)
  have elen : lenD [.list (menu.map .int)] = some (.int (menu.length : Int)) := by simp [lenD]
  -- the top
  obtain ⟨top, htop, t0, t1⟩ : ∃ top : Int, subD' (.list [.int 201, .int by_]) (.int (if decide (0 < by_) = true then 1 else 0)) = some (.int top) ∧ 0 < top ∧ top ≤ 1000 := by
    by_cases hp : 0 < by_
    · refine ⟨by_, ?_, hp, by1⟩
      rw [if_pos (decide_eq_true hp)]; rfl
    · refine ⟨201, ?_, by decide, by decide⟩
      rw [if_neg (by rw [decide_eq_false hp]; exact Bool.false_ne_true)]; rfl
  obtain ⟨top2, htop2, t2, t3⟩ : ∃ top2 : Int, sIf (mB (mBin eqD (mVar 2) (mC (.str "places")))) (sAsg (mC (.int 4)) (gSet 4)) sNext [.deck, .val (.list (menu.map .int)), .val (.str w.str), .val (.int by_), .val (.int top), .no, .no] δ2 = some (.nx, [.deck, .val (.list (menu.map .int)), .val (.str w.str), .val (.int by_), .val (.int top2), .no, .no], δ2) ∧ 0 < top2 ∧ top2 ≤ 1000 := by
    cases w with
    | places => exact ⟨4, (if_t (mB_eq (bin_eq rfl rfl (eqD_str (by decide +kernel) (by decide +kernel))))).trans rfl, by decide, by decide⟩
    | whole => exact ⟨top, (if_f (mB_eq (bin_eq rfl rfl (eqD_str (by decide +kernel) (by decide +kernel))))).trans rfl, t0, t1⟩
    | rest => exact ⟨top, (if_f (mB_eq (bin_eq rfl rfl (eqD_str (by decide +kernel) (by decide +kernel))))).trans rfl, t0, t1⟩
  obtain ⟨r2, δ3, e3, y0, y1, D3⟩ := draw_ok (many := 2) D2 (by omega) (by decide) (by decide)
  obtain ⟨many, hmany, g0, g1⟩ : ∃ many : Int, subD' (.list [.int top2, .int (if 12 < top2 then 12 else top2)]) (.int r2) = some (.int many) ∧ 0 < many ∧ many ≤ 1000 := by
    have hw : r2 = 0 ∨ r2 = 1 := by omega
    rcases hw with rfl | rfl
    · exact ⟨top2, rfl, t2, t3⟩
    · refine ⟨_, rfl, ?_, ?_⟩ <;> split <;> omega
  obtain ⟨lo, δ4, e4, l0, l1, D4⟩ := draw_ok (many := many) D3 (by omega) g0 (by omega)
  obtain ⟨r40, δ5, e5, q0, q1, D5⟩ := draw_ok (many := 40) D4 (by omega) (by decide) (by decide)
  obtain ⟨r6, δ6, e6, s0, s1, D6⟩ := draw_ok (many := 6) D5 (by omega) (by decide) (by decide)
  obtain ⟨more, hmore⟩ : ∃ more : Int, subD' (.list [.int 0, .int 0, .int 1, .int 3, .int r40, .int 200]) (.int r6) = some (.int more) := by
    have hw : r6 = 0 ∨ r6 = 1 ∨ r6 = 2 ∨ r6 = 3 ∨ r6 = 4 ∨ r6 = 5 := by omega
    rcases hw with rfl | rfl | rfl | rfl | rfl | rfl <;> exact ⟨_, rfl⟩
  obtain ⟨r3, δ7, e7, u0, u1, D7⟩ := draw_ok (many := 3) D6 (by omega) (by decide) (by decide)
  refine ⟨⟨w, by_, lo, if lo + more < 200 then lo + more else 200, decide (0 < r3)⟩, δ7, ?_, by0, D7.mono (by omega)⟩
  exact fnK_eq ⟨rfl, by decide⟩ ((seq_nx (asg_eq (bin_eq (lst_eq rfl (szr rfl)) (callK_eq rfl (cons_eq rfl rfl) e1) hw) rfl)).trans ((seq_nx (asg_eq (bin_eq rfl (callK_eq rfl (cons_eq (call_eq (cons_eq rfl rfl) elen) rfl) e2) hbyD) rfl)).trans ((seq_nx (asg_eq (bin_eq (lst_eq rfl (szr rfl)) (call_eq (cons_eq (bin_eq rfl rfl (gtD_int _ _)) rfl) rfl) htop) rfl)).trans ((seq_nx htop2).trans ((seq_nx (asg_eq (callK_eq rfl (cons_eq (bin_eq (lst_eq (cons_eq rfl (cons_eq (call_eq (cons_eq rfl (cons_eq rfl rfl)) rfl) rfl)) (szr rfl)) (callK_eq rfl (cons_eq rfl rfl) e3) hmany) rfl) e4) rfl)).trans ((seq_nx (asg_eq (call_eq (cons_eq rfl (cons_eq (bin_eq rfl (bin_eq (lst_eq (cons_eq rfl (cons_eq rfl (cons_eq rfl (cons_eq rfl (cons_eq (callK_eq rfl (cons_eq rfl rfl) e5) (cons_eq rfl rfl)))))) (szr rfl)) (callK_eq rfl (cons_eq rfl rfl) e6) hmore) (addD_int _ _)) rfl)) rfl) rfl)).trans (ret_eq (tup_eq (cons_eq rfl (cons_eq rfl (cons_eq rfl (cons_eq rfl (cons_eq (bin_eq (callK_eq rfl (cons_eq rfl rfl) e7) rfl (gtD_int _ _)) rfl))))) (szr rfl)))))))))
end K02

namespace K02
open PySem PySem.Spec PyProof.Rows L2 PD
/-! ### texts of low signs -/
def Lo (x : Str) (k : Nat) : Prop := (∀ c ∈ x.cps.toList, c < 128) ∧ x.cps.size ≤ k
theorem Lo.ok {x : Str} {k : Nat} (h : Lo x k) : PyData.strOk x = true := by
  unfold PyData.strOk
  rw [Array.all_eq_true']
  intro c hc
  have := h.1 c (by simpa using hc)
  exact decide_eq_true (by omega)
theorem Lo.app {x y : Str} {k l : Nat} (h : Lo x k) (g : Lo y l) : Lo (x ++ y) (k + l) := by
  have e : (x ++ y).cps = x.cps ++ y.cps := rfl
  refine ⟨fun c hc => ?_, ?_⟩
  · rw [e, Array.toList_append] at hc
    rcases List.mem_append.mp hc with z | z
    · exact h.1 c z
    · exact g.1 c z
  · rw [e, Array.size_append]
    have := h.2
    have := g.2
    omega
theorem Lo.mono {x : Str} {k l : Nat} (h : Lo x k) (hl : k ≤ l) : Lo x l := ⟨h.1, Nat.le_trans h.2 hl⟩
theorem Lo.cut {x : Str} {k : Nat} (h : Lo x k) (a b : Option Int) : Lo (cutS x a b) k := by
  unfold cutS
  refine ⟨fun c hc => h.1 c (List.mem_of_mem_drop (List.mem_of_mem_take (by simpa using hc))), ?_⟩
  have := h.2
  simp
  omega
theorem Lo.join_go : ∀ (r : List Str) (acc : Array Nat) (k : Nat), (∀ c ∈ acc.toList, c < 128) → acc.size ≤ k → (∀ y ∈ r, Lo y 1) → (∀ c ∈ (r.foldl (fun acc p => acc ++ (Str.ofString "").cps ++ p.cps) acc).toList, c < 128) ∧ (r.foldl (fun acc p => acc ++ (Str.ofString "").cps ++ p.cps) acc).size ≤ k + r.length
  | [], acc, k, h, hk, _ => ⟨h, hk⟩
  | y :: r, acc, k, h, hk, hy => by
    have hy1 := hy y (.head _)
    have e0 : (Str.ofString "").cps = #[] := by decide +kernel
    have := Lo.join_go r (acc ++ (Str.ofString "").cps ++ y.cps) (k + 1) (fun c hc => by
      rw [e0] at hc
      simp at hc
      rcases hc with z | z
      · exact h c (by simpa using z)
      · exact hy1.1 c (by simpa using z)) (by
      rw [e0]
      simp
      have := hy1.2
      omega) fun z hz => hy z (.tail _ hz)
    refine ⟨this.1, ?_⟩
    have h2 := this.2
    simp only [List.foldl_cons, List.length_cons]
    omega
theorem Lo.join {ys : List Str} (h : ∀ y ∈ ys, Lo y 1) : Lo (Txt.join "" ys) ys.length := by
  unfold Txt.join Builtin.Str.glued
  cases ys with
  | nil => exact ⟨fun c hc => by simp [Str.empty] at hc, by simp [Str.empty]⟩
  | cons y r =>
    have hy := h y (.head _)
    have := Lo.join_go r y.cps 1 hy.1 hy.2 fun z hz => h z (.tail _ hz)
    refine ⟨this.1, ?_⟩
    have h2 := this.2
    simp only [List.length_cons]
    show (r.foldl (fun acc p => acc ++ (Str.ofString "").cps ++ p.cps) y.cps).size ≤ r.length + 1
    omega
abbrev letters : Str := "abcdefghijklmnopqrstuvwxyz"
theorem let_low : ∀ c ∈ letters.cps.toList, c < 128 := by decide +kernel
theorem let_len : letters.cps.toList.length = 26 := by decide +kernel
theorem let_sz : letters.length ≤ sizeLine := by decide +kernel
theorem ix_str' {x : Str} {i : Int} {c : Nat} (hz : x.length ≤ sizeLine) (h : atI x.cps.toList i = some c) : subD' (.str x) (.int i) = some (.str ⟨#[c]⟩) := by
  show (Option.orElse (if x.length ≤ sizeLine then (atI x.cps.toList i).map (fun c => PyData.str ⟨#[c]⟩) else none) _) = _
  rw [if_pos hz, h]; rfl
theorem let_ix {r : Int} (h0 : 0 ≤ r) (h1 : r < 26) : ∃ c : Nat, subD' (.str letters) (.int r) = some (.str ⟨#[c]⟩) ∧ c < 128 ∧ letters.cps.toList[r.toNat]? = some c := by
  obtain ⟨c, e1, e2, e3⟩ := atI_in (xs := letters.cps.toList) h0 (by rw [let_len]; exact h1)
  exact ⟨c, ix_str' let_sz e1, let_low c e3, e2⟩
theorem Lo.one {c : Nat} (h : c < 128) : Lo ⟨#[c]⟩ 1 := ⟨fun x hx => by simp at hx; omega, by simp⟩
theorem paired_strs {R : D → D → Prop} (hR : ∀ d z, R d z → ∃ y, z = .str y ∧ Lo y 1) : ∀ {ds out : List D}, Paired R ds out → ∃ ys : List Str, out = ys.map .str ∧ (∀ y ∈ ys, Lo y 1) ∧ ys.length = ds.length
  | _, _, .nil => ⟨[], rfl, fun y hy => by simp at hy, rfl⟩
  | _, _, .cons r t => by
    obtain ⟨y, rfl, hy⟩ := hR _ _ r
    obtain ⟨ys, rfl, hys, hl⟩ := paired_strs hR t
    exact ⟨y :: ys, rfl, fun z hz => by
      rcases List.mem_cons.mp hz with z | z
      · rw [z]; exact hy
      · exact hys _ z, by simp [hl]⟩
theorem joinSz_ok {ys : List Str} (h : ∀ y ∈ ys, Lo y 1) (hl : ys.length ≤ 100) : joinSz "" ys = true := by
  have e : ∀ zs : List Str, (∀ y ∈ zs, Lo y 1) → (zs.map (·.length)).sum ≤ zs.length := fun zs => by
    induction zs with
    | nil => intro _; simp
    | cons z zs ih =>
      intro hz
      have h1 := (hz z (.head _)).2
      have h2 := ih fun y hy => hz y (.tail _ hy)
      have h3 : z.length ≤ 1 := h1
      simp only [List.map_cons, List.sum_cons, List.length_cons]
      omega
  have e0 : (Str.ofString "").length = 0 := by decide +kernel
  have := e ys h
  refine decide_eq_true ?_
  rw [e0]
  omega
def nm (S : Str) (at' first : Int) (i : Nat) : Str := cutS S none (some at') ++ ⟨#[letters.cps.toList.getD ((first + 5 * (i : Int)) % 26).toNat 0]⟩ ++ cutS S (some at') none
theorem names_ok {b : Nat} {δ : Dk} (h : DkOk b δ) (hb : b ≤ 100000) : ∃ (ns : List Str) (δ' : Dk), f_l_names [.int 6] δ = some (.list (ns.map .str), δ') ∧ ns.length = 6 ∧ (∀ x ∈ ns, PyData.strOk x = true) ∧ DkOk (b + 12) δ' := by
  obtain ⟨r8, δ1, e1, a0, a1, D1⟩ := draw_ok (many := 8) h (by omega) (by decide) (by decide)
  obtain ⟨j, rfl⟩ : ∃ j : Nat, r8 = (j : Int) := ⟨r8.toNat, by omega⟩
  have hj : j ≤ 7 := by omega
  obtain ⟨out, δ2, e2, D2, pr⟩ := compL_inv (g := gSet 4) (te := mBin subD' (mVar 2) (mCallK 0 f_l_draw (mCons (mC (.int 26)) mNil))) (ρ := wipeR [.deck, .val (.int 6), .val (.str letters), .no, .no, .no, .no] [4]) (fun k δ => DkOk (b + 1 + k) δ) (fun _ z => ∃ y, z = .str y ∧ Lo y 1) (rngL j) 0 δ1 (D1.mono (by omega)) (fun d hd k δ hk hD => by
    have hlen : (rngL j).length = j := by simp [rngL]
    obtain ⟨r, δ', e, x0, x1, D'⟩ := draw_ok (many := 26) hD (by omega) (by decide) (by decide)
    obtain ⟨c, e3, hc, _⟩ := let_ix x0 x1
    exact ⟨_, _, δ', rfl, bin_eq rfl (callK_eq rfl (cons_eq rfl rfl) e) e3, ⟨_, rfl, Lo.one hc⟩, D'.mono (by omega)⟩)
  obtain ⟨ys, rfl, hys, hyl⟩ := paired_strs (fun _ _ h => h) pr
  have hlen : ys.length = j := by rw [hyl]; simp [rngL]
  have hS := (Lo.join hys).mono (show ys.length ≤ 7 by omega)
  generalize hSd : Txt.join "" ys = S at hS
  have ej : joinD (.str "") (.list (ys.map .str)) = some (.str S) := by
    show (strsD (ys.map .str)).bind _ = _
    rw [strsD_map, Option.bind_some, if_pos (joinSz_ok hys (by omega)), hSd]
  have hSl : S.length ≤ 7 := hS.2
  have D2 : DkOk (b + 8) δ2 := D2.mono (by have : (rngL j).length = j := by simp [rngL]
                                           omega)
  have elen : lenD [.str S] = some (.int (S.length : Int)) := if_pos (Nat.le_trans hSl (by decide))
  obtain ⟨at', δ3, e3, b0, b1, D3⟩ := draw_ok (many := (S.length : Int) + 1) D2 (by omega) (by omega) (by omega)
  obtain ⟨first, δ4, e4, c0, c1, D4⟩ := draw_ok (many := 26) D3 (by omega) (by decide) (by decide)
  have hnm : ∀ i : Nat, Lo (nm S at' first i) 15 ∧ ∃ c : Nat, c < 128 ∧ subD' (.str letters) (.int ((first + 5 * (i : Int)) % 26)) = some (.str ⟨#[c]⟩) ∧ letters.cps.toList.getD ((first + 5 * (i : Int)) % 26).toNat 0 = c := fun i => by
    obtain ⟨c, f1, f2, f3⟩ := let_ix (r := (first + 5 * (i : Int)) % 26) (Int.emod_nonneg _ (by decide)) (Int.emod_lt_of_pos _ (by decide))
    have f4 : letters.cps.toList.getD ((first + 5 * (i : Int)) % 26).toNat 0 = c := by rw [List.getD_eq_getElem?_getD, f3]; rfl
    refine ⟨?_, c, f2, f1, f4⟩
    unfold nm
    rw [f4]
    exact (((hS.cut none (some at')).app (Lo.one f2)).app (hS.cut (some at') none)).mono (by decide)
  refine ⟨(List.range 6).map (nm S at' first), δ4, ?_, by simp, fun x hx => ?_, D4.mono (by omega)⟩
  · refine fnK_eq ⟨rfl, by decide⟩ ((seq_nx (asg_eq rfl rfl)).trans ((seq_nx (asg_eq (bin_eq rfl (lc_eq (rng_eq (callK_eq rfl (cons_eq rfl rfl) e1) (by omega)) rfl e2 (by rw [List.length_map]; exact sz (by omega))) ej) rfl)).trans ((seq_nx (asg_eq (callK_eq rfl (cons_eq (bin_eq (call_eq (cons_eq rfl rfl) elen) rfl (addD_int _ _)) rfl) e3) rfl)).trans ((seq_nx (asg_eq (callK_eq rfl (cons_eq rfl rfl) e4) rfl)).trans (ret_eq (lc_eq (out := ((List.range 6).map (nm S at' first)).map .str) (rng_eq (j := 6) rfl (by decide)) rfl ?_ (szr rfl)))))))
    rw [List.map_map]
    refine compL_map (fun (i : Nat) => .int (i : Int)) _ (List.range 6) fun i hi => ⟨_, rfl, ?_⟩
    obtain ⟨hl, c, f2, f1, f4⟩ := hnm i
    have hi6 : i < 6 := List.mem_range.mp hi
    have em : mulD (.int 5) (.int (i : Int)) = some (.int (5 * (i : Int))) := mulD_int rfl
    have hc1 : (cutS S none (some at')).length ≤ 7 := (hS.cut none (some at')).2
    have hc2 : (cutS S (some at') none).length ≤ 7 := (hS.cut (some at') none).2
    have hc3 : (⟨#[c]⟩ : Str).length = 1 := rfl
    have s1 : slD none (some at') (.str S) = some (.str (cutS S none (some at'))) := if_pos (Nat.le_trans hSl (by decide))
    have s2 : slD (some at') none (.str S) = some (.str (cutS S (some at') none)) := if_pos (Nat.le_trans hSl (by decide))
    have a1 : addD (.str (cutS S none (some at'))) (.str ⟨#[c]⟩) = some (.str (cutS S none (some at') ++ ⟨#[c]⟩)) := addD_str (sz (by omega))
    have hc4 : (cutS S none (some at') ++ (⟨#[c]⟩ : Str)).length ≤ 8 := ((hS.cut none (some at')).app (Lo.one f2)).2
    have a2 : addD (.str (cutS S none (some at') ++ ⟨#[c]⟩)) (.str (cutS S (some at') none)) = some (.str (nm S at' first i)) := by
      rw [addD_str (sz (by omega))]
      unfold nm
      rw [f4]
    exact bin_eq (bin_eq (sl_eq rfl rfl (os_eq rfl) s1) (bin_eq rfl (bin_eq (bin_eq rfl (bin_eq rfl rfl em) (addD_int _ _)) rfl (modD_int (by decide))) f1) a1) (sl_eq rfl (os_eq rfl) rfl s2) a2
  · obtain ⟨i, _, rfl⟩ := List.mem_map.mp hx
    exact (hnm i).1.ok
end K02

namespace K02
open PySem PySem.Spec PyProof.Rows L2 PD
theorem forL_inv {α : Type} {g : MG} {s : MS} (enc : α → D) (I : Nat → List Sl → Dk → Prop) : ∀ (xs : List α) (n : Nat) (ρ : List Sl) (δ : Dk), I n ρ δ → (∀ (k : Nat) x ρ δ, xs[k]? = some x → I (n + k) ρ δ → ∃ ρ1 ρ' δ', g (enc x) ρ = some ρ1 ∧ s ρ1 δ = some (.nx, ρ', δ') ∧ I (n + k + 1) ρ' δ') →
    ∃ ρ' δ', forL g s (xs.map enc) ρ δ = some (.nx, ρ', δ') ∧ I (n + xs.length) ρ' δ'
  | [], n, ρ, δ, h, _ => ⟨ρ, δ, rfl, h⟩
  | x :: xs, n, ρ, δ, h, hs => by
    obtain ⟨ρ1, ρ2, δ2, e1, e2, h2⟩ := hs 0 x ρ δ rfl h
    obtain ⟨ρ', δ', e3, h3⟩ := forL_inv enc I xs (n + 1) ρ2 δ2 h2 fun k y ρ δ hy hI => by
      obtain ⟨a, b, c, f1, f2, f3⟩ := hs (k + 1) y ρ δ (by rw [List.getElem?_cons_succ]; exact hy) (by rw [show n + (k + 1) = n + 1 + k by omega]; exact hI)
      exact ⟨a, b, c, f1, f2, by rw [show n + 1 + k + 1 = n + (k + 1) + 1 by omega]; exact f3⟩
    refine ⟨ρ', δ', ?_, by rw [List.length_cons, show n + (xs.length + 1) = n + 1 + xs.length by omega]; exact h3⟩
    rw [List.map_cons]
    unfold forL
    rw [e1, Option.bind_some, e2, Option.bind_some]
    exact e3
/-! ### the rows of a cover -/
def rowsP : Row → List Tt → List Row
  | pre, [] => [pre]
  | pre, t :: ts => (pre ++ [t]) :: rowsP (pre ++ [flip t]) ts
theorem holds_flip (t : Tt) (n d : Int) : holds (flip t) n d = !holds t n d := by
  unfold holds holdsN flip
  dsimp only
  cases t.yes <;> simp
theorem rowsP_one (h : Tt → Bool) (hf : ∀ t, h (flip t) = !h t) : ∀ (ts : List Tt) (pre : Row), ((rowsP pre ts).filter fun r => r.all h).length = if pre.all h then 1 else 0
  | [], pre => by
    unfold rowsP
    cases e : pre.all h with
    | true => rw [List.filter_cons_of_pos (by exact e)]; rfl
    | false => rw [List.filter_cons_of_neg (by simp [e])]; rfl
  | t :: ts, pre => by
    unfold rowsP
    have ih := rowsP_one h hf ts (pre ++ [flip t])
    have e1 : (pre ++ [t]).all h = (pre.all h && h t) := by simp [List.all_append]
    have e2 : (pre ++ [flip t]).all h = (pre.all h && !h t) := by simp [List.all_append, hf]
    rw [e2] at ih
    cases hp : pre.all h with
    | false =>
      rw [hp] at ih e1
      rw [List.filter_cons_of_neg (by rw [e1]; simp)]
      simpa using ih
    | true =>
      rw [hp] at ih e1
      cases ht : h t with
      | true =>
        rw [ht] at ih e1
        rw [List.filter_cons_of_pos (by rw [e1]; rfl), List.length_cons]
        have : ((rowsP (pre ++ [flip t]) ts).filter fun r => r.all h).length = 0 := by simpa using ih
        rw [this]
        rfl
      | false =>
        rw [ht] at ih e1
        rw [List.filter_cons_of_neg (by rw [e1]; simp)]
        simpa using ih
theorem rowsP_get : ∀ (ts : List Tt) (pre : Row) (k : Nat), (rowsP pre ts)[k]? = if k < ts.length then (ts[k]?).map (fun t => pre ++ (ts.take k).map flip ++ [t]) else if k = ts.length then some (pre ++ ts.map flip) else none
  | [], pre, 0 => by simp [rowsP]
  | [], pre, k + 1 => by simp [rowsP]
  | t :: ts, pre, 0 => by simp [rowsP]
  | t :: ts, pre, k + 1 => by
    unfold rowsP
    rw [List.getElem?_cons_succ, rowsP_get ts (pre ++ [flip t]) k]
    simp only [List.length_cons, Nat.add_lt_add_iff_right, List.getElem?_cons_succ, List.take_succ_cons, List.map_cons, Nat.add_right_cancel_iff]
    by_cases h1 : k < ts.length
    · rw [if_pos h1, if_pos h1]; simp
    · rw [if_neg h1, if_neg h1]; simp
theorem rowsP_len : ∀ (ts : List Tt) (pre : Row), (rowsP pre ts).length = ts.length + 1
  | [], _ => rfl
  | t :: ts, pre => by unfold rowsP; rw [List.length_cons, rowsP_len]; rfl
theorem rowsP_mem (P : Tt → Prop) (hf : ∀ t, P t → P (flip t)) : ∀ (ts : List Tt) (pre : Row), (∀ t ∈ ts, P t) → (∀ t ∈ pre, P t) → ∀ r ∈ rowsP pre ts, (∀ t ∈ r, P t) ∧ r.length ≤ pre.length + ts.length
  | [], pre, _, hp, r, hr => by
    simp [rowsP] at hr
    subst hr
    exact ⟨hp, by simp⟩
  | t :: ts, pre, ht, hp, r, hr => by
    unfold rowsP at hr
    rcases List.mem_cons.mp hr with rfl | hr
    · refine ⟨fun x hx => ?_, by simp⟩
      rcases List.mem_append.mp hx with z | z
      · exact hp x z
      · simp at z; rw [z]; exact ht t (.head _)
    · obtain ⟨a, b⟩ := rowsP_mem P hf ts (pre ++ [flip t]) (fun x hx => ht x (.tail _ hx)) (fun x hx => by
        rcases List.mem_append.mp hx with z | z
        · exact hp x z
        · simp at z; rw [z]; exact hf t (ht t (.head _))) r hr
      refine ⟨a, ?_⟩
      simp at b ⊢
      omega
/-! ### rows shared out among rules -/
def put (rss : List Rule) (j : Nat) (x : Row) : List Rule := rss.set j (rss.getD j [] ++ [x])
theorem put_filter (p : Row → Bool) (rss : List Rule) (j : Nat) (x : Row) (hj : j < rss.length) : ((put rss j x).filter fun r => r.any p).length = if p x = true ∧ (rss.getD j []).any p = false then (rss.filter fun r => r.any p).length + 1 else (rss.filter fun r => r.any p).length := by
  unfold put
  induction rss generalizing j with
  | nil => simp at hj
  | cons r rss ih =>
    cases j with
    | zero =>
      simp only [List.set_cons_zero, List.getD_cons_zero, List.filter_cons, List.any_append, List.any_cons, List.any_nil, Bool.or_false]
      cases hp : p x <;> cases hr : r.any p <;> simp
    | succ j =>
      have := ih j (by simpa using hj)
      simp only [List.set_cons_succ, List.getD_cons_succ, List.filter_cons] at this ⊢
      cases hr : r.any p
      · simp only [Bool.false_eq_true, ↓reduceIte]; exact this
      · simp only [↓reduceIte, List.length_cons, this]
        split <;> rfl
theorem any_of_filter (p : Row → Bool) : ∀ (rss : List Rule) (j : Nat), (rss.filter fun r => r.any p).length = 0 → (rss.getD j []).any p = false
  | [], j, _ => by simp
  | r :: rss, j, h => by
    rw [List.filter_cons] at h
    cases hr : r.any p with
    | true => rw [hr] at h; simp at h
    | false =>
      rw [hr] at h
      cases j with
      | zero => simpa using hr
      | succ j => rw [List.getD_cons_succ]; exact any_of_filter p rss j (by simpa using h)
end K02

namespace K02
open PySem PySem.Spec PyProof.Rows L2 PD
theorem frz_eq {i : Nat} {s : MS} {ρ : List Sl} {δ : Dk} {ds : List D} (h : ρ[i]? = some (.uni ds)) : sFrz i s ρ δ = s (ρ.set i (.val (.list ds))) δ := by unfold sFrz; rw [h]
theorem cut_take (ds : List D) (k : Nat) : PD.cutD ds none (some (k : Int)) = ds.take k := by
  unfold PD.cutD
  rw [HT.sIx_nat ds.length ds.length k, HT.sIx_none, List.drop_zero, Nat.sub_zero]
  rcases Nat.le_total k ds.length with h | h
  · rw [Nat.min_eq_left h]
  · rw [Nat.min_eq_right h, List.take_of_length_le h, List.take_of_length_le (Nat.le_refl _)]
theorem cut_drop (ds : List D) (k : Nat) : PD.cutD ds (some (k : Int)) none = ds.drop k := by
  unfold PD.cutD
  rw [HT.sIx_nat ds.length 0 k, HT.sIx_none]
  rcases Nat.le_total k ds.length with h | h
  · rw [Nat.min_eq_left h]
    exact List.take_of_length_le (by rw [List.length_drop]; exact Nat.le_refl _)
  · rw [Nat.min_eq_right h, List.drop_of_length_le h, Nat.sub_self, List.take_zero]
theorem ixL {ds : List D} {k : Nat} {d : D} (h : ds[k]? = some d) : subD' (.list ds) (.int (k : Int)) = some d := ix_lst _ _ (atI_nat h)
theorem ixT {ds : List D} {k : Nat} {d : D} (h : ds[k]? = some d) : subD' (.tuple ds) (.int (k : Int)) = some d := ix_tupl _ _ (atI_nat h)
theorem menu_ok {r : Int} (h0 : 0 ≤ r) (h1 : r < 5) : ∃ m : List Int, subD' (.list [.list [.int 0, .int 0, .int 2, .int 4, .int 10], .list [.int 0, .int 10, .int 60, .int 12], .list [.int 0, .int 7, .int 8], .list [.int 0], .list [.int 0, .int 100, .int 3, .int 5]]) (.int r) = some (.list (m.map .int)) ∧ 0 ∈ m ∧ (∀ x ∈ m, 0 ≤ x) ∧ m.length ≤ 5 := by
  have hr : r = 0 ∨ r = 1 ∨ r = 2 ∨ r = 3 ∨ r = 4 := by omega
  rcases hr with rfl | rfl | rfl | rfl | rfl
  · exact ⟨[0, 0, 2, 4, 10], rfl, by decide, by decide, by decide⟩
  · exact ⟨[0, 10, 60, 12], rfl, by decide, by decide, by decide⟩
  · exact ⟨[0, 7, 8], rfl, by decide, by decide, by decide⟩
  · exact ⟨[0], rfl, by decide, by decide, by decide⟩
  · exact ⟨[0, 100, 3, 5], rfl, by decide, by decide, by decide⟩
theorem paired_tests {R : D → D → Prop} (hR : ∀ d z, R d z → ∃ t : Tt, z = dT t ∧ 0 ≤ t.by_) : ∀ {ds out : List D}, Paired R ds out → ∃ ts : List Tt, out = ts.map dT ∧ (∀ t ∈ ts, 0 ≤ t.by_) ∧ ts.length = ds.length
  | _, _, .nil => ⟨[], rfl, fun y hy => by simp at hy, rfl⟩
  | _, _, .cons r t => by
    obtain ⟨y, rfl, hy⟩ := hR _ _ r
    obtain ⟨ys, rfl, hys, hl⟩ := paired_tests hR t
    exact ⟨y :: ys, rfl, fun z hz => by
      rcases List.mem_cons.mp hz with z | z
      · rw [z]; exact hy
      · exact hys _ z, by simp [hl]⟩
/-- the rules' loop -/
theorem rules_loop {b : Nat} (M T NM : D) (rows : List Row) (many : Nat) (hmany : 1 ≤ many) (hm5 : many ≤ 1000) (hrl : rows.length ≤ 100) (hb : b ≤ 100000) : ∀ (rest : List Row) (i : Nat) (s4 : Sl) (rss : List Rule) (δ : Dk), rows.drop i = rest → i + rest.length = rows.length → DkOk (b + i) δ → rss.length = many → (∀ r ∈ rss, r.length ≤ i ∧ ∀ x ∈ r, x ∈ rows) →
    (∀ ds, s4 ≠ .uni ds) → ∃ (s4' : Sl) (rss' : List Rule) (δ' : Dk), (∀ ds, s4' ≠ .uni ds) ∧ rulesL (gSet 4) (mBin subD' (mLst (mCons (mVar 4) (mCons (mCallK 0 f_l_draw (mCons (mVar 8) mNil)) mNil))) (mCall PD.intD (mCons (mBin geD (mVar 4) (mVar 8)) mNil))) (mBin subD' (mVar 5) (mVar 4))
      ((List.range' i rest.length).map fun (k : Nat) => .int (k : Int)) [.deck, .val M, .no, .val T, s4, .val (.list (rows.map dRow)), .no, .val NM, .val (.int (many : Int)), .no, .no, .no] δ (rss.map (·.map dRow))
      = some ([.deck, .val M, .no, .val T, s4', .val (.list (rows.map dRow)), .no, .val NM, .val (.int (many : Int)), .no, .no, .no], δ', rss'.map (·.map dRow)) ∧ DkOk (b + rows.length) δ' ∧ rss'.length = many ∧ (∀ r ∈ rss', r.length ≤ rows.length ∧ ∀ x ∈ r, x ∈ rows) ∧
      ∀ p : Row → Bool, (rss.filter fun r => r.any p).length + (rest.filter p).length ≤ 1 → (rss'.filter fun r => r.any p).length = (rss.filter fun r => r.any p).length + (rest.filter p).length
  | [], i, s4, rss, δ, hd, hil, hD, hl, hr, hu => by
    have : rows.length = i := by simp at hil; omega
    exact ⟨s4, rss, δ, hu, rfl, by rw [this]; exact hD, hl, fun r h => by rw [this]; exact hr r h, fun p _ => by simp⟩
  | x :: rest, i, s4, rss, δ, hd, hil, hD, hl, hr, hu => by
    have hlen : i < rows.length := by simp at hil; omega
    have hx : rows[i]? = some x := by
      have := congrArg (fun l => l[0]?) hd
      simpa [List.getElem?_drop] using this
    have hxm : x ∈ rows := List.mem_of_getElem? hx
    have hd' : rows.drop (i + 1) = rest := by
      rw [← List.drop_drop, hd]; rfl
    obtain ⟨r, δ1, e1, r0, r1, D1⟩ := draw_ok (many := (many : Int)) hD (by omega) (by omega) (by omega)
    obtain ⟨jn, hj, hjl⟩ : ∃ jn : Nat, subD' (.list [.int (i : Int), .int r]) (.int (if decide ((many : Int) ≤ (i : Int)) = true then 1 else 0)) = some (.int (jn : Int)) ∧ jn < many := by
      by_cases hm : (many : Int) ≤ (i : Int)
      · refine ⟨r.toNat, ?_, by omega⟩
        rw [if_pos (decide_eq_true hm)]
        show some (PyData.int r) = _
        rw [Int.toNat_of_nonneg r0]
      · refine ⟨i, ?_, by omega⟩
        rw [if_neg (by rw [decide_eq_false hm]; exact Bool.false_ne_true)]
        rfl
    have hixn : ixN (rss.map (·.map dRow)).length (jn : Int) = some jn := by
      rw [ixN_in (by omega) (by rw [List.length_map, hl]; omega)]; simp
    have hgd : (rss.map (·.map dRow)).getD jn [] = (rss.getD jn []).map dRow := by
      rw [List.getD_eq_getElem?_getD, List.getD_eq_getElem?_getD, List.getElem?_map]
      cases rss[jn]? <;> rfl
    have hgl : (rss.getD jn []).length ≤ i ∧ ∀ y ∈ rss.getD jn [], y ∈ rows := by
      have : jn < rss.length := by omega
      rw [List.getD_eq_getElem?_getD, List.getElem?_eq_getElem this]
      exact hr _ (List.getElem_mem this)
    have hput : (rss.map (·.map dRow)).set jn ((rss.map (·.map dRow)).getD jn [] ++ [dRow x]) = (put rss jn x).map (·.map dRow) := by
      unfold put
      rw [List.map_set, hgd, List.map_append]
      rfl
    have hpl : (put rss jn x).length = many := by unfold put; rw [List.length_set]; exact hl
    obtain ⟨s4', rss', δ', hu', e2, D2, l2, h2, c2⟩ := rules_loop M T NM rows many hmany hm5 hrl hb rest (i + 1) (.val (.int (i : Int))) (put rss jn x) δ1 hd' (by simp at hil; omega) (by rw [show b + (i + 1) = b + i + 1 by omega]; exact D1) hpl (fun q hq => by
      unfold put at hq
      rcases List.mem_or_eq_of_mem_set hq with z | z
      · exact ⟨by have := (hr q z).1; omega, (hr q z).2⟩
      · rw [z]
        refine ⟨by rw [List.length_append]; exact Nat.add_le_add_right hgl.1 1, fun y hy => ?_⟩
        rcases List.mem_append.mp hy with w | w
        · exact hgl.2 y w
        · simp at w; rw [w]; exact hxm) (fun ds z => nomatch z)
    refine ⟨s4', rss', δ', hu', ?_, D2, l2, h2, fun p hp => ?_⟩
    · rw [List.length_cons, List.range'_succ, List.map_cons]
      unfold rulesL
      have em : (mBin subD' (mLst (mCons (mVar 4) (mCons (mCallK 0 f_l_draw (mCons (mVar 8) mNil)) mNil))) (mCall PD.intD (mCons (mBin geD (mVar 4) (mVar 8)) mNil))) [.deck, .val M, .no, .val T, .val (.int (i : Int)), .val (.list (rows.map dRow)), .no, .val NM, .val (.int (many : Int)), .no, .no, .no] δ = some (.int (jn : Int), δ1) :=
        bin_eq (lst_eq (cons_eq rfl (cons_eq (callK_eq rfl (cons_eq rfl rfl) e1) rfl)) (szr rfl)) (call_eq (cons_eq (bin_eq rfl rfl (geD_int _ _)) rfl) rfl) hj
      have ee : (mBin subD' (mVar 5) (mVar 4)) [.deck, .val M, .no, .val T, .val (.int (i : Int)), .val (.list (rows.map dRow)), .no, .val NM, .val (.int (many : Int)), .no, .no, .no] δ1 = some (dRow x, δ1) :=
        bin_eq rfl rfl (ixL (by rw [List.getElem?_map, hx]; rfl))
      have hset : gSet 4 (.int (i : Int)) [.deck, .val M, .no, .val T, s4, .val (.list (rows.map dRow)), .no, .val NM, .val (.int (many : Int)), .no, .no, .no] = some [.deck, .val M, .no, .val T, .val (.int (i : Int)), .val (.list (rows.map dRow)), .no, .val NM, .val (.int (many : Int)), .no, .no, .no] := rfl
      rw [hset, Option.bind_some, em, Option.bind_some]
      dsimp only
      rw [hixn, Option.bind_some, ee, Option.bind_some]
      dsimp only
      rw [if_pos (by rw [hgd, List.length_map]; exact Nat.lt_of_le_of_lt (show _ ≤ 1000 by omega) (by decide)), hput]
      exact e2
    · have hq := put_filter p rss jn x (by omega)
      cases hpx : p x with
      | true =>
        rw [List.filter_cons_of_pos hpx, List.length_cons] at hp ⊢
        have h0 : (rss.filter fun r => r.any p).length = 0 := by omega
        rw [hpx, any_of_filter p rss jn h0] at hq
        simp only [and_self, ↓reduceIte] at hq
        rw [c2 p (by omega), hq]
        omega
      | false =>
        rw [List.filter_cons_of_neg (by simp [hpx])] at hp ⊢
        rw [hpx] at hq
        simp only [Bool.false_eq_true, false_and, ↓reduceIte] at hq
        rw [c2 p (by omega), hq]

structure WF (f : Forms) : Prop where
  l1 : 1 ≤ f.length
  l6 : f.length ≤ 6
  rule : ∀ x ∈ f, x.2.length ≤ 100
  row : ∀ x ∈ f, ∀ r ∈ x.2, r.length ≤ 100
  by0 : ∀ x ∈ f, ∀ r ∈ x.2, ∀ t ∈ r, 0 ≤ t.by_
  name : ∀ x ∈ f, PyData.strOk x.1 = true
theorem WF.ok {f : Forms} (h : WF f) : FormsOk f := ⟨Nat.le_trans h.l6 (by decide), fun x hx => ⟨Nat.le_trans (h.rule x hx) (by decide), fun r hr => Nat.le_trans (h.row x hx r hr) (by decide), h.by0 x hx⟩, h.name⟩
theorem words_len (f : Forms) (n d : Int) : (words f n d).length = ((f.map (·.2)).filter fun r => ruleH r n d).length := by
  unfold words
  rw [List.length_map, List.filter_map, List.length_map]
  rfl
theorem covering_ok {b : Nat} {δ : Dk} (h : DkOk b δ) (hb : b ≤ 10000) : ∃ (f : Forms) (δ' : Dk), f_l_covering [] δ = some (dForms f, δ') ∧ WF f ∧ (∀ n d, (words f n d).length = 1) ∧ DkOk (b + 100) δ' := by
  obtain ⟨r5, δ1, e1, a0, a1, D1⟩ := draw_ok (many := 5) h (by omega) (by decide) (by decide)
  obtain ⟨m, hm, hm0, hmn, hml⟩ := menu_ok a0 a1
  -- the menu without what is too great
  have hM : ∀ δ, mLc (mItems (mVar 1)) [2] (gSet 2) (mB (mBin leD (mVar 2) (mC (.int 60)))) (mVar 2) [.deck, .val (.list (m.map .int)), .no, .no, .no, .no, .no, .no, .no, .no, .no, .no] δ = some (.list ((m.filter fun x => decide (x ≤ 60)).map .int), δ) := fun δ =>
    lc_eq (it_eq rfl rfl) rfl (compL_filter PyData.int (fun x => decide (x ≤ 60)) PyData.int m fun x hx => ⟨_, rfl, mB_eq (bin_eq rfl rfl (leD_int _ _)), fun _ => rfl⟩) (by rw [List.length_map]; exact sz (Nat.le_trans (List.length_filter_le _ _) (by omega)))
  generalize hMd : (m.filter fun x => decide (x ≤ 60)) = M at hM
  have hM1 : 1 ≤ M.length := by
    have : (0 : Int) ∈ M := by rw [← hMd]; exact List.mem_filter.mpr ⟨hm0, by decide⟩
    exact List.length_pos_of_mem this
  have hM2 : ∀ x ∈ M, 0 ≤ x ∧ x ≤ 1000 := fun x hx => by
    rw [← hMd] at hx
    obtain ⟨p, q⟩ := List.mem_filter.mp hx
    exact ⟨hmn x p, by have := of_decide_eq_true q; omega⟩
  have hM3 : M.length ≤ 1000 := by rw [← hMd]; exact Nat.le_trans (List.length_filter_le _ _) (by omega)
  -- the tests
  obtain ⟨rt, δ2, e2, b0, b1, D2⟩ := draw_ok (many := 5) D1 (by omega) (by decide) (by decide)
  obtain ⟨j, rfl⟩ : ∃ j : Nat, rt = (j : Int) := ⟨rt.toNat, by omega⟩
  have hj : j ≤ 4 := by omega
  obtain ⟨out, δ3, e3, D3, pr⟩ := compL_inv (g := gSet 4) (te := mCallK 0 f_l_test (mCons (mVar 1) mNil)) (ρ := wipeR [.deck, .val (.list (M.map .int)), .no, .no, .no, .no, .no, .no, .no, .no, .no, .no] [4]) (fun k δ => DkOk (b + 2 + 8 * k) δ) (fun _ z => ∃ t : Tt, z = dT t ∧ 0 ≤ t.by_) (rngL j) 0 δ2 (D2.mono (by omega)) (fun d hd k δ hk hD => by
    have hlen : (rngL j).length = j := by simp [rngL]
    obtain ⟨t, δ', e, t0, D'⟩ := test_ok hD (by omega) hM1 hM3 hM2
    exact ⟨_, _, δ', rfl, callK_eq rfl (cons_eq rfl rfl) e, ⟨t, rfl, t0⟩, D'.mono (by omega)⟩)
  obtain ⟨ts, rfl, hts, htl⟩ := paired_tests (fun _ _ h => h) pr
  have hjl : ts.length = j := by rw [htl]; simp [rngL]
  have D3 : DkOk (b + 34) δ3 := D3.mono (by have : (rngL j).length = j := by simp [rngL]
                                            omega)
  -- the rows
  generalize hrows : rowsP [] ts = rows
  have hrl : rows.length = j + 1 := by rw [← hrows, rowsP_len, hjl]
  have elen : lenD [.list (ts.map dT)] = some (.int (j : Int)) := by
    show some (PyData.int ((ts.map dT).length : Int)) = _
    rw [List.length_map, hjl]
  obtain ⟨ρ5, δ5, e5, hδ5, s45, hu45, rfl⟩ := forL_inv (g := gSet 4) (s := sApp 5 (mCall tupD (mCons (mBin addD (mLc (mItems (mSl (mVar 3) oNo (oSome (mVar 4)))) [6] (gSet 6) mYes (mCall f_l_turned (mCons (mVar 6) mNil))) (mLst (mCons (mBin subD' (mVar 3) (mVar 4)) mNil))) mNil))) (fun (i : Nat) => PyData.int (i : Int))
    (fun k ρ δ => δ = δ3 ∧ ∃ s4, (∀ ds, s4 ≠ .uni ds) ∧ ρ = [.deck, .val (.list (M.map .int)), .no, .val (.list (ts.map dT)), s4, .uni ((rows.take k).map dRow), .no, .no, .no, .no, .no, .no]) (List.range j) 0 [.deck, .val (.list (M.map .int)), .no, .val (.list (ts.map dT)), .no, .uni [], .no, .no, .no, .no, .no, .no] δ3 ⟨rfl, .no, (fun ds z => nomatch z), rfl⟩ (fun k x ρ δ hx hI => by
      obtain ⟨rfl, s4, _, rfl⟩ := hI
      have hkj : k < j := by
        rcases Nat.lt_or_ge k j with h | h
        · exact h
        · rw [List.getElem?_eq_none (by simpa using h)] at hx; cases hx
      have hxk : x = k := by
        rw [List.getElem?_range hkj] at hx
        exact (Option.some.inj hx).symm
      subst hxk
      rw [Nat.zero_add]
      obtain ⟨t, ht⟩ : ∃ t, ts[x]? = some t := ⟨ts[x]'(by omega), List.getElem?_eq_getElem (by omega)⟩
      have hrow : rows[x]? = some ((ts.take x).map flip ++ [t]) := by
        rw [← hrows, rowsP_get, if_pos (by omega), ht]; rfl
      have ecomp : (mLc (mItems (mSl (mVar 3) oNo (oSome (mVar 4)))) [6] (gSet 6) mYes (mCall f_l_turned (mCons (mVar 6) mNil))) [.deck, .val (.list (M.map .int)), .no, .val (.list (ts.map dT)), .val (.int (x : Int)), .uni ((rows.take x).map dRow), .no, .no, .no, .no, .no, .no] δ = some (.list ((ts.take x).map fun t => dT (flip t)), δ) := by
        refine lc_eq (it_eq (d := .list ((ts.take x).map dT)) (sl_eq rfl rfl (os_eq rfl) ?_) rfl) rfl (compL_map dT (fun t => dT (flip t)) (ts.take x) fun t ht => ⟨_, rfl, call_eq (cons_eq rfl rfl) (turned_eq t)⟩) (by rw [List.length_map, List.length_take]; exact sz (by omega))
        show some (PyData.list (PD.cutD (ts.map dT) none (some (x : Int)))) = _
        rw [cut_take, List.map_take]
      have eix : (mLst (mCons (mBin subD' (mVar 3) (mVar 4)) mNil)) [.deck, .val (.list (M.map .int)), .no, .val (.list (ts.map dT)), .val (.int (x : Int)), .uni ((rows.take x).map dRow), .no, .no, .no, .no, .no, .no] δ = some (.list [dT t], δ) :=
        lst_eq (cons_eq (bin_eq rfl rfl (ixL (by rw [List.getElem?_map, ht]; rfl))) rfl) (szr rfl)
      refine ⟨_, [.deck, .val (.list (M.map .int)), .no, .val (.list (ts.map dT)), .val (.int (x : Int)), .uni ((rows.take (x + 1)).map dRow), .no, .no, .no, .no, .no, .no], δ, rfl, ?_, rfl, .val (.int (x : Int)), (fun ds z => nomatch z), rfl⟩
      have etup : mCall tupD (mCons (mBin addD (mLc (mItems (mSl (mVar 3) oNo (oSome (mVar 4)))) [6] (gSet 6) mYes (mCall f_l_turned (mCons (mVar 6) mNil))) (mLst (mCons (mBin subD' (mVar 3) (mVar 4)) mNil))) mNil) [.deck, .val (.list (M.map .int)), .no, .val (.list (ts.map dT)), .val (.int (x : Int)), .uni ((rows.take x).map dRow), .no, .no, .no, .no, .no, .no] δ = some (dRow ((ts.take x).map flip ++ [t]), δ) := by
        refine call_eq (cons_eq (bin_eq ecomp eix (addD_lst (by rw [List.length_map, List.length_take]; exact sz (by simp; omega)))) rfl) ?_
        show some (PyData.tuple _) = _
        unfold dRow
        rw [List.map_append, List.map_map]
        rfl
      show sApp 5 _ [.deck, .val (.list (M.map .int)), .no, .val (.list (ts.map dT)), .val (.int (x : Int)), .uni ((rows.take x).map dRow), .no, .no, .no, .no, .no, .no] δ = _
      unfold sApp
      simp only [List.getElem?_cons_succ, List.getElem?_cons_zero]
      rw [etup, Option.bind_some]
      rw [if_pos (by rw [List.length_map, List.length_take]; exact Nat.lt_of_le_of_lt (show _ ≤ 1000 by omega) (by decide))]
      rw [List.take_add_one, hrow]
      simp)
  subst hδ5
  rw [show 0 + (List.range j).length = j by simp] at e5
  -- the last row
  have hlast : rows[j]? = some (ts.map flip) := by
    rw [← hrows, rowsP_get, if_neg (by omega), if_pos (by omega)]; rfl
  have hall : (rows.take j).map dRow ++ [dRow (ts.map flip)] = rows.map dRow := by
    have : rows.take (j + 1) = rows := List.take_of_length_le (by omega)
    rw [List.take_add_one, hlast] at this
    have h2 : rows.map dRow = (rows.take j ++ [ts.map flip]).map dRow := congrArg (List.map dRow) this.symm
    rw [h2, List.map_append]
    rfl
  have e6 : sApp 5 (mCall tupD (mCons (mLc (mItems (mVar 3)) [6] (gSet 6) mYes (mCall f_l_turned (mCons (mVar 6) mNil))) mNil)) [.deck, .val (.list (M.map .int)), .no, .val (.list (ts.map dT)), s45, .uni ((rows.take j).map dRow), .no, .no, .no, .no, .no, .no] δ5 = some (.nx, [.deck, .val (.list (M.map .int)), .no, .val (.list (ts.map dT)), s45, .uni (rows.map dRow), .no, .no, .no, .no, .no, .no], δ5) := by
    have etup : mCall tupD (mCons (mLc (mItems (mVar 3)) [6] (gSet 6) mYes (mCall f_l_turned (mCons (mVar 6) mNil))) mNil) [.deck, .val (.list (M.map .int)), .no, .val (.list (ts.map dT)), s45, .uni ((rows.take j).map dRow), .no, .no, .no, .no, .no, .no] δ5 = some (dRow (ts.map flip), δ5) := by
      refine call_eq (cons_eq (lc_eq (it_eq rfl rfl) rfl (compL_map dT (fun t => dT (flip t)) ts fun t ht => ⟨_, rfl, call_eq (cons_eq rfl rfl) (turned_eq t)⟩) (by rw [List.length_map]; exact sz (by omega))) rfl) ?_
      show some (PyData.tuple _) = _
      unfold dRow
      rw [List.map_map]
      rfl
    unfold sApp
    simp only [List.getElem?_cons_succ, List.getElem?_cons_zero]
    rw [etup, Option.bind_some]
    rw [if_pos (by rw [List.length_map, List.length_take]; exact Nat.lt_of_le_of_lt (show _ ≤ 1000 by omega) (by decide))]
    simp only [hall, List.set_cons_succ, List.set_cons_zero]
  obtain ⟨ns, δ6, e7, nl, nok, D6⟩ := names_ok D3 (by omega)
  -- how many
  have elr : lenD [.list (rows.map dRow)] = some (.int ((j + 1 : Nat) : Int)) := by
    show some (PyData.int ((rows.map dRow).length : Int)) = _
    rw [List.length_map, hrl]
  obtain ⟨r, δ7, e8, c0, c1, D7⟩ := draw_ok (many := ((j + 1 : Nat) : Int)) D6 (by omega) (by omega) (by omega)
  obtain ⟨many, hmany, k1, k5⟩ : ∃ many : Nat, maxD [.int (1 + (if decide ((4 : Int) < ((j + 1 : Nat) : Int)) = true then 1 else 0)), .int (1 + r)] = some (.int (many : Int)) ∧ 1 ≤ many ∧ many ≤ 5 := by
    have hx : ∃ x : Int, (1 + (if decide ((4 : Int) < ((j + 1 : Nat) : Int)) = true then (1 : Int) else 0)) = x ∧ 1 ≤ x ∧ x ≤ 2 := by
      by_cases h4 : (4 : Int) < ((j + 1 : Nat) : Int)
      · exact ⟨2, by rw [if_pos (decide_eq_true h4)]; rfl, by decide, by decide⟩
      · exact ⟨1, by rw [if_neg (by rw [decide_eq_false h4]; exact Bool.false_ne_true)]; rfl, by decide, by decide⟩
    obtain ⟨x, hx, x1, x2⟩ := hx
    rw [hx]
    refine ⟨(if 1 + r > x then 1 + r else x).toNat, ?_, ?_, ?_⟩
    · show some (PyData.int (if 1 + r > x then 1 + r else x)) = _
      rw [Int.toNat_of_nonneg (by split <;> omega)]
    · split <;> omega
    · split <;> omega
  -- the rules
  have hrr : ∀ n : Nat, rngL n = (List.range' 0 n).map fun (k : Nat) => PyData.int (k : Int) := fun n => by unfold rngL; rw [List.range_eq_range']
  obtain ⟨s4', rss, δ8, hu4, e9, D8, rl, hr, hcnt⟩ := rules_loop (b := b + 47) (.list (M.map .int)) (.list (ts.map dT)) (.list (ns.map .str)) rows many k1 (by omega) (by omega) (by omega) rows 0 s45 (List.replicate many []) δ7 rfl (by omega) (D7.mono (by omega)) (by simp) (fun q hq => by
    have := List.eq_of_mem_replicate hq
    subst this
    exact ⟨by simp, fun x hx => by simp at hx⟩) hu45
  have e10 : sRules 9 (mRng1 (mVar 8)) (mRng1 (mCall lenD (mCons (mVar 5) mNil))) (gSet 4) (mBin subD' (mLst (mCons (mVar 4) (mCons (mCallK 0 f_l_draw (mCons (mVar 8) mNil)) mNil))) (mCall PD.intD (mCons (mBin geD (mVar 4) (mVar 8)) mNil))) (mBin subD' (mVar 5) (mVar 4)) [.deck, .val (.list (M.map .int)), .no, .val (.list (ts.map dT)), s45, .val (.list (rows.map dRow)), .no, .val (.list (ns.map .str)), .val (.int (many : Int)), .no, .no, .no] δ7 = some (.nx, [.deck, .val (.list (M.map .int)), .no, .val (.list (ts.map dT)), s4', .val (.list (rows.map dRow)), .no, .val (.list (ns.map .str)), .val (.int (many : Int)), .val (.list ((rss.map (·.map dRow)).map .list)), .no, .no], δ8) := by
    unfold sRules
    rw [rng_eq (j := many) rfl (by omega), Option.bind_some]
    dsimp only
    rw [if_pos ⟨by simp only [rngL, List.length_map, List.length_range]; exact sz (by omega), show 9 < 12 by decide⟩]
    rw [show ([Sl.deck, .val (.list (M.map .int)), .no, .val (.list (ts.map dT)), s45, .val (.list (rows.map dRow)), .no, .val (.list (ns.map .str)), .val (.int (many : Int)), .no, .no, .no].set 9 .no) = [.deck, .val (.list (M.map .int)), .no, .val (.list (ts.map dT)), s45, .val (.list (rows.map dRow)), .no, .val (.list (ns.map .str)), .val (.int (many : Int)), .no, .no, .no] from rfl]
    rw [rng_eq (j := j + 1) (call_eq (cons_eq rfl rfl) elr) (by omega), Option.bind_some]
    dsimp only
    have hrep : List.replicate (rngL many).length ([] : List D) = (List.replicate many ([] : Rule)).map (·.map dRow) := by
      simp [rngL]
    rw [hrep, hrr (j + 1), ← hrl, e9]
    rfl
  -- the forms
  have hfs : ∀ δ, mLc (mRng1 (mVar 8)) [4] (gSet 4) mYes (mTup (mCons (mBin subD' (mVar 7) (mVar 4)) (mCons (mCall tupD (mCons (mBin subD' (mVar 9) (mVar 4)) mNil)) mNil))) [.deck, .val (.list (M.map .int)), .no, .val (.list (ts.map dT)), s4', .val (.list (rows.map dRow)), .no, .val (.list (ns.map .str)), .val (.int (many : Int)), .val (.list ((rss.map (·.map dRow)).map .list)), .no, .no] δ = some (.list (((List.range many).map fun i => (ns.getD i "", rss.getD i [])).map dForm), δ) := fun δ => by
    refine lc_eq (rng_eq (j := many) rfl (by omega)) (by
      cases s4' with
      | uni ds => exact absurd rfl (hu4 ds)
      | _ => rfl) ?_ (by simp; exact sz (by omega))
    rw [show (((List.range many).map fun i => (ns.getD i "", rss.getD i [])).map dForm) = (List.range many).map (dForm ∘ fun i => (ns.getD i "", rss.getD i [])) from List.map_map]
    unfold rngL
    refine compL_map (fun (i : Nat) => PyData.int (i : Int)) (dForm ∘ fun i => (ns.getD i "", rss.getD i [])) (List.range many) ?_
    intro i hi
    refine ⟨_, rfl, ?_⟩
    have hi' : i < many := List.mem_range.mp hi
    have h1 : (ns.map PyData.str)[i]? = some (.str (ns.getD i "")) := by
      rw [List.getElem?_map, List.getD_eq_getElem?_getD, List.getElem?_eq_getElem (by omega)]; rfl
    have h2 : ((rss.map (·.map dRow)).map PyData.list)[i]? = some (.list ((rss.getD i []).map dRow)) := by
      rw [List.getElem?_map, List.getElem?_map, List.getD_eq_getElem?_getD, List.getElem?_eq_getElem (by omega)]; rfl
    exact tup_eq (cons_eq (bin_eq rfl rfl (ixL h1)) (cons_eq (call_eq (cons_eq (bin_eq rfl rfl (ixL h2)) rfl) rfl) rfl)) (szr rfl)
  generalize hfd : ((List.range many).map fun i => (ns.getD i "", rss.getD i [])) = fs at hfs
  have hfl : fs.length = many := by rw [← hfd]; simp
  have hf2 : fs.map (·.2) = rss := by
    rw [← hfd, List.map_map]
    refine List.ext_getElem? fun i => ?_
    rw [List.getElem?_map]
    by_cases hi : i < many
    · rw [List.getElem?_range hi]
      show some (rss.getD i []) = rss[i]?
      rw [List.getD_eq_getElem?_getD, List.getElem?_eq_getElem (by omega)]
      rfl
    · rw [List.getElem?_eq_none (by simpa using hi), List.getElem?_eq_none (by omega)]
      rfl
  have hfm : ∀ x ∈ fs, PyData.strOk x.1 = true ∧ x.2 ∈ rss := fun x hx => by
    refine ⟨?_, by rw [← hf2]; exact List.mem_map_of_mem hx⟩
    rw [← hfd] at hx
    obtain ⟨i, hi, rfl⟩ := List.mem_map.mp hx
    have hi' : i < many := List.mem_range.mp hi
    dsimp only
    rw [List.getD_eq_getElem?_getD, List.getElem?_eq_getElem (by omega)]
    exact nok _ (List.getElem_mem (by omega))
  obtain ⟨rf, δ9, e11, g0, g1, D9⟩ := draw_ok (many := (many : Int)) D8 (by omega) (by omega) (by omega)
  obtain ⟨q, rfl⟩ : ∃ q : Nat, rf = (q : Int) := ⟨rf.toNat, by omega⟩
  have hrowsOk := rowsP_mem (fun t => 0 ≤ t.by_) (fun t ht => ht) ts [] hts (fun t ht => by simp at ht)
  rw [hrows] at hrowsOk
  have hmem : ∀ x ∈ fs.drop q ++ fs.take q, x ∈ fs := fun x hx => by
    rcases List.mem_append.mp hx with z | z
    · exact List.mem_of_mem_drop z
    · exact List.mem_of_mem_take z
  refine ⟨fs.drop q ++ fs.take q, δ9, ?_, ⟨by simp; omega, by simp; omega, fun x hx => ?_, fun x hx r hr' => ?_, fun x hx r hr' t ht => ?_, fun x hx => (hfm x (hmem x hx)).1⟩, fun n d => ?_, D9.mono (by omega)⟩
  · have s1 : slD (some (q : Int)) none (.list (fs.map dForm)) = some (.list ((fs.map dForm).drop q)) := by
      show some (PyData.list (PD.cutD _ _ _)) = _
      rw [cut_drop]
    have s2 : slD none (some (q : Int)) (.list (fs.map dForm)) = some (.list ((fs.map dForm).take q)) := by
      show some (PyData.list (PD.cutD _ _ _)) = _
      rw [cut_take]
    have s3 : tupD [.list ((fs.map dForm).drop q ++ (fs.map dForm).take q)] = some (dForms (fs.drop q ++ fs.take q)) := by
      show some (PyData.tuple _) = _
      unfold dForms
      rw [List.map_append, List.map_drop, List.map_take]
    exact fnK_eq ⟨rfl, by decide⟩ ((seq_nx (asg_eq (bin_eq (lst_eq (cons_eq (lst_eq rfl (szr rfl)) (cons_eq (lst_eq rfl (szr rfl)) (cons_eq (lst_eq rfl (szr rfl)) (cons_eq (lst_eq rfl (szr rfl)) (cons_eq (lst_eq rfl (szr rfl)) rfl))))) (szr rfl)) (callK_eq rfl (cons_eq rfl rfl) e1) hm) rfl)).trans ((seq_nx (asg_eq (hM _) rfl)).trans ((seq_nx (asg_eq (lc_eq (rng_eq (callK_eq rfl (cons_eq rfl rfl) e2) (by omega)) rfl e3 (by rw [List.length_map]; exact sz (by omega))) rfl)).trans
      ((seq_nx (ρ1 := [.deck, .val (.list (M.map .int)), .no, .val (.list (ts.map dT)), .no, .uni [], .no, .no, .no, .no, .no, .no]) (δ1 := δ5) rfl).trans ((seq_nx ((for_eq (rng_eq (j := j) (call_eq (cons_eq rfl rfl) elen) (by omega))).trans e5)).trans ((seq_nx e6).trans ((seq_nx (asg_eq (callK_eq rfl (cons_eq rfl rfl) e7) rfl)).trans ((frz_eq rfl).trans
      ((seq_nx (asg_eq (call_eq (cons_eq (bin_eq rfl (call_eq (cons_eq (bin_eq (call_eq (cons_eq rfl rfl) elr) rfl (gtD_int _ _)) rfl) rfl) (addD_int _ _)) (cons_eq (bin_eq rfl (callK_eq rfl (cons_eq (call_eq (cons_eq rfl rfl) elr) rfl) e8) (addD_int _ _)) rfl)) hmany) rfl)).trans ((seq_nx e10).trans ((seq_nx (asg_eq (hfs _) rfl)).trans ((seq_nx (asg_eq (callK_eq rfl (cons_eq rfl rfl) e11) rfl)).trans (ret_eq (call_eq (cons_eq (bin_eq (sl_eq rfl (os_eq rfl) rfl s1) (sl_eq rfl rfl (os_eq rfl) s2) (addD_lst (by simp; exact sz (by omega)))) rfl) s3))))))))))))))
  · have := (hr _ (hfm x (hmem x hx)).2).1
    omega
  · have h1 := (hr _ (hfm x (hmem x hx)).2).2 r hr'
    have h2 := (hrowsOk r h1).2
    simp at h2
    omega
  · exact (hrowsOk r ((hr _ (hfm x (hmem x hx)).2).2 r hr')).1 t ht
  · rw [words_len, List.map_append, List.filter_append, List.length_append, Nat.add_comm, ← List.length_append, ← List.filter_append, List.map_take, List.map_drop, List.take_append_drop, hf2]
    have h1 := rowsP_one (fun t => holds t n d) (fun t => holds_flip t n d) ts []
    rw [hrows] at h1
    have h0 : ((List.replicate many ([] : Rule)).filter fun r => r.any fun row => row.all fun t => holds t n d).length = 0 := by
      rw [List.filter_eq_nil_iff.mpr (fun r hr => by have := List.eq_of_mem_replicate hr; subst this; simp)]; rfl
    have h2 := hcnt (fun row => row.all fun t => holds t n d) (by rw [h0, h1]; simp)
    rw [h0, h1] at h2
    simpa [ruleH] using h2
end K02

namespace K02
open PySem PySem.Spec PyProof.Rows L2 PD
theorem and_f {a b : MT} {ρ : List Sl} {δ δ1 : Dk} (h : a ρ δ = some (false, δ1)) : tAndM a b ρ δ = some (false, δ1) := by unfold tAndM; rw [h]; rfl
theorem and_t {a b : MT} {ρ : List Sl} {δ δ1 : Dk} (h : a ρ δ = some (true, δ1)) : tAndM a b ρ δ = b ρ δ1 := by unfold tAndM; rw [h]; rfl
theorem ne_row (row : Row) : neD (dRow row) (.tuple []) = some (.bool (!row.isEmpty)) := by
  rw [neD_of (sh_Row row) sh_nilT (by decide) (by decide)]
  unfold dRow
  rw [eqv_nilT, map_emp]
theorem ne_rule (r : Rule) : neD (dRule r) (.tuple []) = some (.bool (!r.isEmpty)) := by
  rw [neD_of (sh_Rule r) sh_nilT (by decide) (by decide)]
  unfold dRule
  rw [eqv_nilT, map_emp]
theorem sl_takeT (ds : List D) (k : Nat) : slD none (some (k : Int)) (.tuple ds) = some (.tuple (ds.take k)) := by
  show some (PyData.tuple (PD.cutD _ _ _)) = _
  rw [cut_take]
theorem sl_dropT (ds : List D) (k : Nat) : slD (some ((k : Int) + 1)) none (.tuple ds) = some (.tuple (ds.drop (k + 1))) := by
  show some (PyData.tuple (PD.cutD _ _ _)) = _
  rw [show (k : Int) + 1 = ((k + 1 : Nat) : Int) by omega, cut_drop]
abbrev st (F at' w rule way : D) (s6 s7 s8 s9 s10 s11 s12 s13 : Sl) : List Sl := [.deck, .val F, .val at', .val w, .val rule, .val way, s6, s7, s8, s9, s10, s11, s12, s13, .no, .no, .no, .no]
structure RowOk (r : Row) : Prop where
  len : r.length ≤ 100
  by0 : ∀ t ∈ r, 0 ≤ t.by_
theorem RowOk.cut {r : Row} (h : RowOk r) (k : Nat) : RowOk (r.take k ++ r.drop (k + 1)) := ⟨by have := h.len; simp; omega, fun t ht => by
  rcases List.mem_append.mp ht with z | z
  · exact h.by0 t (List.mem_of_mem_take z)
  · exact h.by0 t (List.mem_of_mem_drop z)⟩
theorem RowOk.put {r : Row} (h : RowOk r) (k : Nat) (hk : k < r.length) {t' : Tt} (ht' : 0 ≤ t'.by_) : RowOk (r.take k ++ [t'] ++ r.drop (k + 1)) := ⟨by have := h.len; simp; omega, fun t ht => by
  rcases List.mem_append.mp ht with z | z
  · rcases List.mem_append.mp z with y | y
    · exact h.by0 t (List.mem_of_mem_take y)
    · simp at y; rw [y]; exact ht'
  · exact h.by0 t (List.mem_of_mem_drop z)⟩
abbrev if1 : MS := sIf (tAndM (mB (mBin neD (mVar 7) (mTup mNil))) (mB (mBin eqD (mVar 5) (mC (.int 0))))) (sSeq (sAsg (mCallK 0 f_l_draw (mCons (mCall lenD (mCons (mVar 7) mNil)) mNil)) (gSet 8))
  (sSeq (sAsg (mBin subD' (mVar 7) (mVar 8)) (gTupM 5 (gsCons (gSet 9) (gsCons (gSet 10) (gsCons (gSet 11) (gsCons (gSet 12) (gsCons (gSet 13) gsNil)))))))
  (sSeq (sAsg (mCall minD (mCons (mVar 12) (mCons (mCall maxD (mCons (mC (.int 0)) (mCons (mBin subD (mBin addD (mVar 11) (mCallK 0 f_l_draw (mCons (mC (.int 3)) mNil))) (mC (.int 1))) mNil))) mNil))) (gSet 11))
  (sSeq (sAsg (mBin neD (mVar 13) (mBin eqD (mCallK 0 f_l_draw (mCons (mC (.int 3)) mNil)) (mC (.int 0)))) (gSet 13))
  (sAsg (mBin addD (mBin addD (mSl (mVar 7) oNo (oSome (mVar 8))) (mTup (mCons (mTup (mCons (mVar 9) (mCons (mVar 10) (mCons (mVar 11) (mCons (mVar 12) (mCons (mVar 13) mNil)))))) mNil))) (mSl (mVar 7) (oSome (mBin addD (mVar 8) (mC (.int 1)))) oNo)) (gSet 7)))))) sNext
theorem if1_ok {b : Nat} {δ : Dk} (F at' w rule : D) (way : Int) (s6 s8 s9 s10 s11 s12 s13 : Sl) {row : Row} (hrow : RowOk row) (h : DkOk b δ) (hb : b ≤ 100000) : ∃ row' a8 a9 a10 a11 a12 a13 δ', if1 (st F at' w rule (.int way) s6 (.val (dRow row)) s8 s9 s10 s11 s12 s13) δ = some (.nx, st F at' w rule (.int way) s6 (.val (dRow row')) a8 a9 a10 a11 a12 a13, δ') ∧ RowOk row' ∧ DkOk (b + 3) δ' := by
  by_cases hr : row.isEmpty = true
  · exact ⟨row, s8, s9, s10, s11, s12, s13, δ, if_f (and_f (mB_eq (bin_eq rfl (tup_eq rfl (szr rfl)) (by rw [ne_row, hr]; rfl)))), hrow, h.mono (by omega)⟩
  · have hr : row.isEmpty = false := by simpa using hr
    have hne : mB (mBin neD (mVar 7) (mTup mNil)) (st F at' w rule (.int way) s6 (.val (dRow row)) s8 s9 s10 s11 s12 s13) δ = some (true, δ) := mB_eq (bin_eq rfl (tup_eq rfl (szr rfl)) (by rw [ne_row, hr]; rfl))
    by_cases hw : way = 0
    · subst hw
      have hl : 1 ≤ row.length := by
        cases row with
        | nil => cases hr
        | cons _ _ => simp
      have elen : lenD [dRow row] = some (.int (row.length : Int)) := by
        show some (PyData.int ((row.map dT).length : Int)) = _
        rw [List.length_map]
      have h100 := hrow.len
      obtain ⟨rk, δ1, e1, a0, a1, D1⟩ := draw_ok (many := (row.length : Int)) h (by omega) (by omega) (by omega)
      obtain ⟨k, rfl⟩ : ∃ k : Nat, rk = (k : Int) := ⟨rk.toNat, by omega⟩
      have hk : k < row.length := by omega
      obtain ⟨t, ht⟩ : ∃ t, row[k]? = some t := ⟨row[k], List.getElem?_eq_getElem hk⟩
      have ht0 := hrow.by0 t (List.mem_of_getElem? ht)
      obtain ⟨r3, δ2, e2, _, _, D2⟩ := draw_ok (many := 3) D1 (by omega) (by decide) (by decide)
      obtain ⟨r4, δ3, e3, _, _, D3⟩ := draw_ok (many := 3) D2 (by omega) (by decide) (by decide)
      have hix : subD' (dRow row) (.int (k : Int)) = some (dT t) := ixT (by rw [List.getElem?_map, ht]; rfl)
      obtain ⟨lo, hlo⟩ : ∃ lo : Int, minD [.int t.hi, .int (if t.lo + r3 - 1 > 0 then t.lo + r3 - 1 else 0)] = some (.int lo) := ⟨_, rfl⟩
      refine ⟨row.take k ++ [⟨t.w, t.by_, lo, t.hi, !(t.yes == decide (r4 = 0))⟩] ++ row.drop (k + 1), .val (.int (k : Int)), .val (.str t.w.str), .val (.int t.by_), .val (.int lo), .val (.int t.hi), .val (.bool (!(t.yes == decide (r4 = 0)))), δ3, ?_, hrow.put k hk ht0, D3⟩
      refine (if_t ((and_t hne).trans (mB_eq (bin_eq rfl rfl (eqD_int _ _))))).trans ((seq_nx (asg_eq (callK_eq rfl (cons_eq (call_eq (cons_eq rfl rfl) elen) rfl) e1) rfl)).trans ((seq_nx (asg_eq (bin_eq rfl rfl hix) rfl)).trans ((seq_nx (asg_eq (call_eq (cons_eq rfl (cons_eq (call_eq (cons_eq rfl (cons_eq (bin_eq (bin_eq rfl (callK_eq rfl (cons_eq rfl rfl) e2) (addD_int _ _)) rfl (subD_int _ _)) rfl)) rfl) rfl)) hlo) rfl)).trans ((seq_nx (asg_eq (bin_eq rfl (bin_eq (callK_eq rfl (cons_eq rfl rfl) e3) rfl (eqD_int _ _)) (neD_bool _ _)) rfl)).trans (asg_eq (bin_eq (bin_eq (sl_eq rfl rfl (os_eq rfl) (sl_takeT (row.map dT) k)) (tup_eq (cons_eq (tup_eq rfl (szr rfl)) rfl) (szr rfl)) (addD_tup (by simp; exact sz (by omega)))) (sl_eq rfl (os_eq (bin_eq rfl rfl (addD_int _ _))) rfl (sl_dropT (row.map dT) k)) (addD_tup (by simp; exact sz (by omega)))) ?_)))))
      show some _ = some _
      unfold dRow
      rw [List.map_append, List.map_append, List.map_take, List.map_drop]
      rfl
    · exact ⟨row, s8, s9, s10, s11, s12, s13, δ, if_f ((and_t hne).trans (mB_eq (bin_eq rfl rfl (by rw [eqD_int, decide_eq_false hw])))), hrow, h.mono (by omega)⟩
abbrev if2 : MS := sIf (tAndM (mB (mBin neD (mVar 7) (mTup mNil))) (mB (mBin eqD (mVar 5) (mC (.int 1))))) (sSeq (sAsg (mCallK 0 f_l_draw (mCons (mCall lenD (mCons (mVar 7) mNil)) mNil)) (gSet 8))
  (sAsg (mBin addD (mSl (mVar 7) oNo (oSome (mVar 8))) (mSl (mVar 7) (oSome (mBin addD (mVar 8) (mC (.int 1)))) oNo)) (gSet 7))) sNext
theorem if2_ok {b : Nat} {δ : Dk} (F at' w rule : D) (way : Int) (s6 s8 s9 s10 s11 s12 s13 : Sl) {row : Row} (hrow : RowOk row) (h : DkOk b δ) (hb : b ≤ 100000) : ∃ row' a8 δ', if2 (st F at' w rule (.int way) s6 (.val (dRow row)) s8 s9 s10 s11 s12 s13) δ = some (.nx, st F at' w rule (.int way) s6 (.val (dRow row')) a8 s9 s10 s11 s12 s13, δ') ∧ RowOk row' ∧ DkOk (b + 1) δ' := by
  by_cases hr : row.isEmpty = true
  · exact ⟨row, s8, δ, if_f (and_f (mB_eq (bin_eq rfl (tup_eq rfl (szr rfl)) (by rw [ne_row, hr]; rfl)))), hrow, h.mono (by omega)⟩
  · have hr : row.isEmpty = false := by simpa using hr
    have hne : mB (mBin neD (mVar 7) (mTup mNil)) (st F at' w rule (.int way) s6 (.val (dRow row)) s8 s9 s10 s11 s12 s13) δ = some (true, δ) := mB_eq (bin_eq rfl (tup_eq rfl (szr rfl)) (by rw [ne_row, hr]; rfl))
    by_cases hw : way = 1
    · subst hw
      have hl : 1 ≤ row.length := by
        cases row with
        | nil => cases hr
        | cons _ _ => simp
      have elen : lenD [dRow row] = some (.int (row.length : Int)) := by
        show some (PyData.int ((row.map dT).length : Int)) = _
        rw [List.length_map]
      have h100 := hrow.len
      obtain ⟨rk, δ1, e1, a0, a1, D1⟩ := draw_ok (many := (row.length : Int)) h (by omega) (by omega) (by omega)
      obtain ⟨k, rfl⟩ : ∃ k : Nat, rk = (k : Int) := ⟨rk.toNat, by omega⟩
      refine ⟨row.take k ++ row.drop (k + 1), .val (.int (k : Int)), δ1, ?_, hrow.cut k, D1⟩
      refine (if_t ((and_t hne).trans (mB_eq (bin_eq rfl rfl (eqD_int _ _))))).trans ((seq_nx (asg_eq (callK_eq rfl (cons_eq (call_eq (cons_eq rfl rfl) elen) rfl) e1) rfl)).trans (asg_eq (bin_eq (sl_eq rfl rfl (os_eq rfl) (sl_takeT (row.map dT) k)) (sl_eq rfl (os_eq (bin_eq rfl rfl (addD_int _ _))) rfl (sl_dropT (row.map dT) k)) (addD_tup (by simp; exact sz (by omega)))) ?_))
      show some _ = some _
      unfold dRow
      rw [List.map_append, List.map_take, List.map_drop]
      rfl
    · exact ⟨row, s8, δ, if_f ((and_t hne).trans (mB_eq (bin_eq rfl rfl (by rw [eqD_int, decide_eq_false hw])))), hrow, h.mono (by omega)⟩

structure RuleWF (r : Rule) : Prop where
  len : r.length ≤ 100
  row : ∀ x ∈ r, RowOk x
abbrev B1 : MS := sSeq (sAsg (mCallK 0 f_l_draw (mCons (mCall lenD (mCons (mVar 4) mNil)) mNil)) (gSet 6))
  (sSeq (sAsg (mBin subD' (mVar 4) (mVar 6)) (gSet 7))
  (sSeq if1 (sSeq if2
  (sAsg (mBin addD (mBin addD (mSl (mVar 4) oNo (oSome (mVar 6))) (mBin subD' (mLst (mCons (mTup (mCons (mVar 7) mNil)) (mCons (mTup mNil) mNil))) (mCall PD.intD (mCons (mBin eqD (mVar 5) (mC (.int 2))) mNil)))) (mSl (mVar 4) (oSome (mBin addD (mVar 6) (mC (.int 1)))) oNo)) (gSet 4)))))
theorem B1_ok {b : Nat} {δ : Dk} (F at' w : D) (way : Int) {r : Rule} (hr : RuleWF r) (h1 : r.isEmpty = false) (h : DkOk b δ) (hb : b ≤ 10000) : ∃ r' a6 a7 a8 a9 a10 a11 a12 a13 δ', B1 (st F at' w (dRule r) (.int way) .no .no .no .no .no .no .no .no) δ = some (.nx, st F at' w (dRule r') (.int way) a6 a7 a8 a9 a10 a11 a12 a13, δ') ∧ RuleWF r' ∧ DkOk (b + 5) δ' := by
  have hl : 1 ≤ r.length := by
    cases r with
    | nil => cases h1
    | cons _ _ => simp
  have hl100 := hr.len
  have elen : lenD [dRule r] = some (.int (r.length : Int)) := by
    show some (PyData.int ((r.map dRow).length : Int)) = _
    rw [List.length_map]
  obtain ⟨rk, δ1, e1, a0, a1, D1⟩ := draw_ok (many := (r.length : Int)) h (by omega) (by omega) (by omega)
  obtain ⟨k, rfl⟩ : ∃ k : Nat, rk = (k : Int) := ⟨rk.toNat, by omega⟩
  have hk : k < r.length := by omega
  obtain ⟨row, hrow⟩ : ∃ t, r[k]? = some t := ⟨r[k], List.getElem?_eq_getElem hk⟩
  have hix : subD' (dRule r) (.int (k : Int)) = some (dRow row) := ixT (by rw [List.getElem?_map, hrow]; rfl)
  obtain ⟨row1, b8, b9, b10, b11, b12, b13, δ2, e2, o1, D2⟩ := if1_ok F at' w (dRule r) way (.val (.int (k : Int))) .no .no .no .no .no .no (hr.row row (List.mem_of_getElem? hrow)) D1 (by omega)
  obtain ⟨row2, c8, δ3, e3, o2, D3⟩ := if2_ok F at' w (dRule r) way (.val (.int (k : Int))) b8 b9 b10 b11 b12 b13 o1 D2 (by omega)
  obtain ⟨mid, hmid, hml, hmr⟩ : ∃ mid : Rule, subD' (.list [.tuple [dRow row2], .tuple []]) (.int (if decide (way = 2) = true then 1 else 0)) = some (dRule mid) ∧ mid.length ≤ 1 ∧ ∀ x ∈ mid, x = row2 := by
    by_cases hw : way = 2
    · refine ⟨[], ?_, by simp, fun x hx => by simp at hx⟩
      rw [if_pos (decide_eq_true hw)]; rfl
    · refine ⟨[row2], ?_, by simp, fun x hx => by simpa using hx⟩
      rw [if_neg (by rw [decide_eq_false hw]; exact Bool.false_ne_true)]; rfl
  refine ⟨r.take k ++ mid ++ r.drop (k + 1), .val (.int (k : Int)), .val (dRow row2), c8, b9, b10, b11, b12, b13, δ3, ?_, ⟨by simp; omega, fun x hx => ?_⟩, D3.mono (by omega)⟩
  · refine (seq_nx (asg_eq (callK_eq rfl (cons_eq (call_eq (cons_eq rfl rfl) elen) rfl) e1) rfl)).trans ((seq_nx (asg_eq (bin_eq rfl rfl hix) rfl)).trans ((seq_nx e2).trans ((seq_nx e3).trans (asg_eq (bin_eq (bin_eq (sl_eq rfl rfl (os_eq rfl) (sl_takeT (r.map dRow) k)) (bin_eq (lst_eq (cons_eq (tup_eq rfl (szr rfl)) (cons_eq (tup_eq rfl (szr rfl)) rfl)) (szr rfl)) (call_eq (cons_eq (bin_eq rfl rfl (eqD_int _ _)) rfl) rfl) hmid) (addD_tup (by simp; exact sz (by omega)))) (sl_eq rfl (os_eq (bin_eq rfl rfl (addD_int _ _))) rfl (sl_dropT (r.map dRow) k)) (addD_tup (by simp; exact sz (by omega)))) ?_))))
    show some _ = some _
    unfold dRule
    rw [List.map_append, List.map_append, List.map_take, List.map_drop]
    rfl
  · rcases List.mem_append.mp hx with z | z
    · rcases List.mem_append.mp z with y | y
      · exact hr.row x (List.mem_of_mem_take y)
      · rw [hmr x y]; exact o2
    · exact hr.row x (List.mem_of_mem_drop z)
/-! ### a word that is not there -/
theorem pigeon {α : Type} [DecidableEq α] : ∀ (c l : List α), c.Nodup → (∀ x ∈ c, x ∈ l) → c.length ≤ l.length
  | [], _, _, _ => Nat.zero_le _
  | x :: c, l, hn, h => by
    have hx := h x (.head _)
    have := pigeon c (l.erase x) (List.nodup_cons.mp hn).2 fun y hy => by
      have hne : y ≠ x := fun z => (List.nodup_cons.mp hn).1 (z ▸ hy)
      exact (List.mem_erase_of_ne hne).mpr (h y (.tail _ hy))
    rw [List.length_erase_of_mem hx] at this
    have hp : 0 < l.length := List.length_pos_of_mem hx
    simp only [List.length_cons]
    omega
abbrev six : List Str := ["zzzzzzzz", "y", "x", "w", "v", "u"]
theorem six_nd : six.Nodup := by decide +kernel
theorem six_ok : ∀ x ∈ six, PyData.strOk x = true := by decide +kernel
theorem six_free {names : List Str} (h : names.length < 6) : ∃ w ws, (six.filter fun x => !(names.any fun y => y == x)) = w :: ws := by
  cases hf : six.filter fun x => !(names.any fun y => y == x) with
  | cons w ws => exact ⟨w, ws, rfl⟩
  | nil =>
    exfalso
    have hall : ∀ x ∈ six, x ∈ names := fun x hx => by
      have := List.filter_eq_nil_iff.mp hf x hx
      simp only [Bool.not_eq_true', Bool.not_eq_false, List.any_eq_true, Bool.not_eq_true] at this
      have h2 : (names.any fun y => y == x) = true := by simpa using this
      obtain ⟨y, hy, e⟩ := List.any_eq_true.mp h2
      have : y = x := by simpa using e
      rw [← this]; exact hy
    have := pigeon six names six_nd hall
    simp at this
    omega
end K02

namespace K02
open PySem PySem.Spec PyProof.Rows L2 PD
theorem in_ok {x : Str} {names : List Str} (hx : PyData.strOk x = true) (hn : ∀ y ∈ names, PyData.strOk y = true) : inD true (.str x) (.list (names.map .str)) = some (.bool (!(names.any fun y => y == x))) := by
  have h1 := (Sh.str hx).ok (by decide)
  have h2 : SeqAt.shaped (.list (names.map .str)) = true := (Sh.lst (k := 0) fun d hd => by
    obtain ⟨y, hy, rfl⟩ := List.mem_map.mp hd
    exact Sh.str (hn y hy)).ok (by decide)
  unfold inD inL
  dsimp only
  rw [h1, h2]
  simp only [Bool.and_self, ↓reduceIte, Option.orElse, Bool.true_xor]
  rw [List.any_map]
  rfl
structure FormOk (x : Str × Rule) : Prop where
  name : PyData.strOk x.1 = true
  rule : RuleWF x.2
theorem WF.form {f : Forms} (h : WF f) {x : Str × Rule} (hx : x ∈ f) : FormOk x := ⟨h.name x hx, h.rule x hx, fun r hr => ⟨h.row x hx r hr, h.by0 x hx r hr⟩⟩
theorem wf_of {f : Forms} (l1 : 1 ≤ f.length) (l6 : f.length ≤ 6) (h : ∀ x ∈ f, FormOk x) : WF f := ⟨l1, l6, fun x hx => (h x hx).rule.len, fun x hx r hr => ((h x hx).rule.row r hr).len, fun x hx r hr => ((h x hx).rule.row r hr).by0, fun x hx => (h x hx).name⟩
theorem bent_ok {b : Nat} {δ : Dk} {f : Forms} (hf : WF f) (h : DkOk b δ) (hb : b ≤ 5000) : ∃ (f' : Forms) (δ' : Dk), f_l_bent_forms [dForms f] δ = some (dForms f', δ') ∧ WF f' ∧ DkOk (b + 10) δ' := by
  have l1 := hf.l1
  have l6 := hf.l6
  have elen : lenD [dForms f] = some (.int (f.length : Int)) := by
    show some (PyData.int ((f.map dForm).length : Int)) = _
    rw [List.length_map]
  obtain ⟨ra, δ1, e1, a0, a1, D1⟩ := draw_ok (many := (f.length : Int)) h (by omega) (by omega) (by omega)
  obtain ⟨a, rfl⟩ : ∃ k : Nat, ra = (k : Int) := ⟨ra.toNat, by omega⟩
  have ha : a < f.length := by omega
  obtain ⟨x, hx⟩ : ∃ t, f[a]? = some t := ⟨f[a], List.getElem?_eq_getElem ha⟩
  have hxo := hf.form (List.mem_of_getElem? hx)
  obtain ⟨w, r⟩ := x
  obtain ⟨way, δ2, e2, b0, b1, D2⟩ := draw_ok (many := 5) D1 (by omega) (by decide) (by decide)
  have hix : subD' (dForms f) (.int (a : Int)) = some (dForm (w, r)) := ixT (by rw [List.getElem?_map, hx]; rfl)
  -- the end
  have fin : ∀ {r' : Rule} {s6 s7 s8 s9 s10 s11 s12 s13 : Sl} {δ' : Dk}, sRet (mBin addD (mBin addD (mSl (mVar 1) oNo (oSome (mVar 2))) (mTup (mCons (mTup (mCons (mVar 3) (mCons (mVar 4) mNil))) mNil))) (mSl (mVar 1) (oSome (mBin addD (mVar 2) (mC (.int 1)))) oNo)) (st (dForms f) (.int (a : Int)) (.str w) (dRule r') (.int way) s6 s7 s8 s9 s10 s11 s12 s13) δ'
      = some (.rt (dForms (f.take a ++ [(w, r')] ++ f.drop (a + 1))), st (dForms f) (.int (a : Int)) (.str w) (dRule r') (.int way) s6 s7 s8 s9 s10 s11 s12 s13, δ') := fun {r' s6 s7 s8 s9 s10 s11 s12 s13 δ'} => by
    have e : addD (.tuple ((f.map dForm).take a ++ [dForm (w, r')])) (.tuple ((f.map dForm).drop (a + 1))) = some (dForms (f.take a ++ [(w, r')] ++ f.drop (a + 1))) := by
      rw [addD_tup (by simp; exact sz (by omega))]
      unfold dForms
      rw [List.map_append, List.map_append, List.map_take, List.map_drop]
      rfl
    exact ret_eq (bin_eq (bin_eq (sl_eq rfl rfl (os_eq rfl) (sl_takeT (f.map dForm) a)) (tup_eq (cons_eq (tup_eq rfl (szr rfl)) rfl) (szr rfl)) (addD_tup (by simp; exact sz (by omega)))) (sl_eq rfl (os_eq (bin_eq rfl rfl (addD_int _ _))) rfl (sl_dropT (f.map dForm) a)) e)
  have finWF : ∀ {r' : Rule}, RuleWF r' → WF (f.take a ++ [(w, r')] ++ f.drop (a + 1)) := fun {r'} hr' => wf_of (by simp; omega) (by simp; omega) fun y hy => by
    rcases List.mem_append.mp hy with z | z
    · rcases List.mem_append.mp z with q | q
      · exact hf.form (List.mem_of_mem_take q)
      · simp at q; rw [q]; exact ⟨hxo.name, hr'⟩
    · exact hf.form (List.mem_of_mem_drop z)
  have hne : mB (mBin neD (mVar 4) (mTup mNil)) (st (dForms f) (.int (a : Int)) (.str w) (dRule r) (.int way) .no .no .no .no .no .no .no .no) δ2 = some (!r.isEmpty, δ2) := mB_eq (bin_eq rfl (tup_eq rfl (szr rfl)) (ne_rule r))
  have hlt : ∀ c : Int, mB (mBin ltD (mVar 5) (mC (.int c))) (st (dForms f) (.int (a : Int)) (.str w) (dRule r) (.int way) .no .no .no .no .no .no .no .no) δ2 = some (decide (way < c), δ2) := fun c => mB_eq (bin_eq rfl rfl (ltD_int _ _))
  have heq : ∀ c : Int, mB (mBin eqD (mVar 5) (mC (.int c))) (st (dForms f) (.int (a : Int)) (.str w) (dRule r) (.int way) .no .no .no .no .no .no .no .no) δ2 = some (decide (way = c), δ2) := fun c => mB_eq (bin_eq rfl rfl (eqD_int _ _))
  have erl : lenD [dRule r] = some (.int (r.length : Int)) := by
    show some (PyData.int ((r.map dRow).length : Int)) = _
    rw [List.length_map]
  have hl4 : mB (mBin ltD (mCall lenD (mCons (mVar 4) mNil)) (mC (.int 4))) (st (dForms f) (.int (a : Int)) (.str w) (dRule r) (.int way) .no .no .no .no .no .no .no .no) δ2 = some (decide ((r.length : Int) < 4), δ2) := mB_eq (bin_eq (call_eq (cons_eq rfl rfl) erl) rfl (ltD_int _ _))
  have hl6 : mB (mBin ltD (mCall lenD (mCons (mVar 1) mNil)) (mC (.int 6))) (st (dForms f) (.int (a : Int)) (.str w) (dRule r) (.int way) .no .no .no .no .no .no .no .no) δ2 = some (decide ((f.length : Int) < 6), δ2) := mB_eq (bin_eq (call_eq (cons_eq rfl rfl) elen) rfl (ltD_int _ _))
  have and_b : ∀ {p q : MT} {ρ : List Sl} {δ : Dk} {x y : Bool}, p ρ δ = some (x, δ) → q ρ δ = some (y, δ) → tAndM p q ρ δ = some (x && y, δ) := fun {p q ρ δ x y} h1 h2 => by
    cases x with
    | true => rw [and_t h1, h2]; rfl
    | false => rw [and_f h1]; rfl
  obtain ⟨r2, δ3, e3, c0, c1, D3⟩ := draw_ok (many := 201) D2 (by omega) (by decide) (by decide)
  by_cases hA : (!r.isEmpty && decide (way < 3)) = true
  · -- a row put otherwise
    have hr1 : r.isEmpty = false := by
      cases hq : r.isEmpty <;> simp [hq] at hA ⊢
    obtain ⟨r', a6, a7, a8, a9, a10, a11, a12, a13, δ4, e4, ok4, D4⟩ := B1_ok (dForms f) (.int (a : Int)) (.str w) way hxo.rule hr1 D2 (by omega)
    refine ⟨_, δ4, fnK_eq ⟨rfl, by decide⟩ ((seq_nx (asg_eq (callK_eq rfl (cons_eq (call_eq (cons_eq rfl rfl) elen) rfl) e1) rfl)).trans ((seq_nx (asg_eq (bin_eq rfl rfl hix) rfl)).trans ((seq_nx (asg_eq (callK_eq rfl (cons_eq rfl rfl) e2) rfl)).trans ((seq_nx ((if_t ((and_b hne (hlt 3)).trans (by rw [hA]))).trans e4)).trans fin)))), finWF ok4, D4.mono (by omega)⟩
  · have hA : (!r.isEmpty && decide (way < 3)) = false := by simpa using hA
    by_cases hB : (decide (way = 3) && decide ((r.length : Int) < 4)) = true
    · -- a row more
      have hrl : r.length < 4 := by simp at hB; omega
      have e5 : sAsg (mBin addD (mVar 4) (mTup (mCons (mTup (mCons (mTup (mCons (mC (.str "whole")) (mCons (mC (.int 0)) (mCons (mCallK 0 f_l_draw (mCons (mC (.int 201)) mNil)) (mCons (mC (.int 200)) (mCons (mC (.bool true)) mNil)))))) mNil)) mNil))) (gSet 4) (st (dForms f) (.int (a : Int)) (.str w) (dRule r) (.int way) .no .no .no .no .no .no .no .no) δ2 = some (.nx, st (dForms f) (.int (a : Int)) (.str w) (dRule (r ++ [[⟨.whole, 0, r2, 200, true⟩]])) (.int way) .no .no .no .no .no .no .no .no, δ3) := by
        refine asg_eq (bin_eq rfl (tup_eq (cons_eq (tup_eq (cons_eq (tup_eq (cons_eq rfl (cons_eq rfl (cons_eq (callK_eq rfl (cons_eq rfl rfl) e3) rfl))) (szr rfl)) rfl) (szr rfl)) rfl) (szr rfl)) (addD_tup (by simp; exact sz (by omega)))) ?_
        show some _ = some _
        unfold dRule
        rw [List.map_append]
        rfl
      refine ⟨_, δ3, fnK_eq ⟨rfl, by decide⟩ ((seq_nx (asg_eq (callK_eq rfl (cons_eq (call_eq (cons_eq rfl rfl) elen) rfl) e1) rfl)).trans ((seq_nx (asg_eq (bin_eq rfl rfl hix) rfl)).trans ((seq_nx (asg_eq (callK_eq rfl (cons_eq rfl rfl) e2) rfl)).trans ((seq_nx ((if_f ((and_b hne (hlt 3)).trans (by rw [hA]))).trans ((if_t ((and_b (heq 3) hl4).trans (by rw [hB]))).trans e5))).trans fin)))), finWF ⟨by simp; omega, fun y hy => ?_⟩, D3.mono (by omega)⟩
      rcases List.mem_append.mp hy with z | z
      · exact hxo.rule.row y z
      · simp at z
        rw [z]
        exact ⟨by simp, fun t ht => by simp at ht; rw [ht]; exact Int.le_refl 0⟩
    · have hB : (decide (way = 3) && decide ((r.length : Int) < 4)) = false := by simpa using hB
      by_cases hC : (decide (way = 4) && decide ((f.length : Int) < 6)) = true
      · -- a form more
        have hfl : f.length < 6 := by simp at hC; omega
        have hnames : ∀ (ρ : List Sl) (δ : Dk), ρ[1]? = some (.val (dForms f)) → noU ρ [16, 17] = true → (∀ p ∈ f, ∃ ρ2, gTupM 2 (gsCons (gSet 16) (gsCons (gSet 17) gsNil)) (dForm p) (wipeR ρ [16, 17]) = some ρ2 ∧ mVar 16 ρ2 δ = some (.str p.1, δ)) → mLc (mItems (mVar 1)) [16, 17] (gTupM 2 (gsCons (gSet 16) (gsCons (gSet 17) gsNil))) mYes (mVar 16) ρ δ = some (.list ((f.map (·.1)).map .str), δ) := fun ρ δ h1 h2 h3 => by
          rw [List.map_map]
          refine lc_eq (it_eq (d := dForms f) (by unfold mVar; rw [h1]) rfl) h2 (compL_map dForm _ f h3) (by rw [List.length_map]; exact sz (by omega))
        obtain ⟨wd, ws, hwd⟩ := six_free (names := f.map (·.1)) (by rw [List.length_map]; exact hfl)
        have hwm : wd ∈ six := (List.mem_filter.mp (by rw [hwd]; exact .head _ : wd ∈ six.filter fun x => !((f.map (·.1)).any fun y => y == x))).1
        have hfn : ∀ y ∈ f.map (·.1), PyData.strOk y = true := fun y hy => by
          obtain ⟨p, hp, rfl⟩ := List.mem_map.mp hy
          exact hf.name p hp
        have efar : mTup (mCons (mC (.str "whole")) (mCons (mC (.int 0)) (mCons (mCallK 0 f_l_draw (mCons (mC (.int 201)) mNil)) (mCons (mC (.int 200)) (mCons (mC (.bool true)) mNil))))) (st (dForms f) (.int (a : Int)) (.str w) (dRule r) (.int way) .no .no .no .no .no .no .no .no) δ2 = some (dT ⟨.whole, 0, r2, 200, true⟩, δ3) := tup_eq (cons_eq rfl (cons_eq rfl (cons_eq (callK_eq rfl (cons_eq rfl rfl) e3) rfl))) (szr rfl)
        have ewd : mBin subD' (mLc (mItems (mTup (mCons (mC (.str "zzzzzzzz")) (mCons (mC (.str "y")) (mCons (mC (.str "x")) (mCons (mC (.str "w")) (mCons (mC (.str "v")) (mCons (mC (.str "u")) mNil)))))))) [15] (gSet 15) (mB (mBin (inD true) (mVar 15) (mLc (mItems (mVar 1)) [16, 17] (gTupM 2 (gsCons (gSet 16) (gsCons (gSet 17) gsNil))) mYes (mVar 16)))) (mVar 15)) (mC (.int 0)) [.deck, .val (dForms f), .val (.int (a : Int)), .val (.str w), .val (dRule r), .val (.int way), .no, .no, .no, .no, .no, .no, .no, .no, .val (dT ⟨.whole, 0, r2, 200, true⟩), .no, .no, .no] δ3 = some (.str wd, δ3) := by
          refine bin_eq (x := .list ((six.filter fun x => !((f.map (·.1)).any fun y => y == x)).map .str)) (lc_eq (it_eq (d := .tuple (six.map .str)) (tup_eq rfl (szr rfl)) rfl) rfl (compL_filter PyData.str (fun x => !((f.map (·.1)).any fun y => y == x)) PyData.str six fun x hx => ⟨_, rfl, mB_eq (bin_eq rfl (hnames _ _ rfl rfl fun p hp => ⟨_, rfl, rfl⟩) (in_ok (six_ok x hx) hfn)), fun _ => rfl⟩) ?_) rfl ?_
          · rw [List.length_map]
            exact sz (Nat.le_trans (List.length_filter_le _ _) (by decide))
          · rw [hwd]; exact ixL (k := 0) rfl
        have eend : addD (dForms f) (.tuple [.tuple [.str wd, .tuple [.tuple [dT ⟨.whole, 0, r2, 200, true⟩, .tuple [.str "places", .int 0, .int 1, .int 2, .bool true]]]]]) = some (dForms (f ++ [(wd, [[⟨.whole, 0, r2, 200, true⟩, ⟨.places, 0, 1, 2, true⟩]])])) := by
          unfold dForms
          rw [addD_tup (by simp; exact sz (by omega)), List.map_append]
          rfl
        refine ⟨_, δ3, fnK_eq ⟨rfl, by decide⟩ ((seq_nx (asg_eq (callK_eq rfl (cons_eq (call_eq (cons_eq rfl rfl) elen) rfl) e1) rfl)).trans ((seq_nx (asg_eq (bin_eq rfl rfl hix) rfl)).trans ((seq_nx (asg_eq (callK_eq rfl (cons_eq rfl rfl) e2) rfl)).trans (seq_rt ((if_f ((and_b hne (hlt 3)).trans (by rw [hA]))).trans ((if_f ((and_b (heq 3) hl4).trans (by rw [hB]))).trans ((if_t ((and_b (heq 4) hl6).trans (by rw [hC]))).trans ((seq_nx (asg_eq efar rfl)).trans ((seq_nx (asg_eq ewd rfl)).trans (ret_eq (bin_eq rfl (tup_eq (cons_eq (tup_eq (cons_eq rfl (cons_eq (tup_eq (cons_eq (tup_eq (cons_eq rfl (cons_eq (tup_eq rfl (szr rfl)) rfl)) (szr rfl)) rfl) (szr rfl)) rfl)) (szr rfl)) rfl) (szr rfl)) eend))))))))))), wf_of (by simp) (by simp; omega) fun y hy => ?_, D3.mono (by omega)⟩
        rcases List.mem_append.mp hy with z | z
        · exact hf.form z
        · simp at z
          rw [z]
          refine ⟨six_ok wd hwm, ⟨by simp, fun q hq => ?_⟩⟩
          simp at hq
          rw [hq]
          refine ⟨by simp, fun t ht => ?_⟩
          simp at ht
          rcases ht with ht | ht <;> (rw [ht]; exact Int.le_refl 0)
      · have hC : (decide (way = 4) && decide ((f.length : Int) < 6)) = false := by simpa using hC
        refine ⟨_, δ2, fnK_eq ⟨rfl, by decide⟩ ((seq_nx (asg_eq (callK_eq rfl (cons_eq (call_eq (cons_eq rfl rfl) elen) rfl) e1) rfl)).trans ((seq_nx (asg_eq (bin_eq rfl rfl hix) rfl)).trans ((seq_nx (asg_eq (callK_eq rfl (cons_eq rfl rfl) e2) rfl)).trans ((seq_nx ((if_f ((and_b hne (hlt 3)).trans (by rw [hA]))).trans ((if_f ((and_b (heq 3) hl4).trans (by rw [hB]))).trans (if_f ((and_b (heq 4) hl6).trans (by rw [hC])))))).trans fin)))), finWF hxo.rule, D2.mono (by omega)⟩
end K02

namespace K02
open PySem PySem.Spec PyProof.Rows L2 PD
theorem or_b {p q : MT} {ρ : List Sl} {δ : Dk} {x y : Bool} (h1 : p ρ δ = some (x, δ)) (h2 : q ρ δ = some (y, δ)) : tOrM p q ρ δ = some (x || y, δ) := by
  unfold tOrM
  rw [h1]
  cases x with
  | true => rfl
  | false => exact h2
def dC (c : Int × Int) : D := .tuple [.int c.1, .int c.2]
theorem paired_counts {R : D → D → Prop} (hR : ∀ d z, R d z → ∃ c : Int × Int, z = dC c ∧ CntOk c.1 c.2) : ∀ {ds out : List D}, Paired R ds out → ∃ cs : List (Int × Int), out = cs.map dC ∧ (∀ c ∈ cs, CntOk c.1 c.2) ∧ cs.length = ds.length
  | _, _, .nil => ⟨[], rfl, fun y hy => by simp at hy, rfl⟩
  | _, _, .cons r t => by
    obtain ⟨y, rfl, hy⟩ := hR _ _ r
    obtain ⟨ys, rfl, hys, hl⟩ := paired_counts hR t
    exact ⟨y :: ys, rfl, fun z hz => by
      rcases List.mem_cons.mp hz with z | z
      · rw [z]; exact hy
      · exact hys _ z, by simp [hl]⟩
def some3 : Forms := [("none", []), ("all", [[]]), ("never", [[⟨.places, 0, 3, 9, true⟩]])]
theorem some3_ok : FormsOk some3 := ⟨by decide, fun x hx => by
  simp [some3] at hx
  rcases hx with rfl | rfl | rfl
  · exact ⟨by decide, fun r hr => by simp at hr, fun r hr => by simp at hr⟩
  · exact ⟨by decide, fun r hr => by simp at hr; subst hr; decide, fun r hr t ht => by simp at hr; subst hr; simp at ht⟩
  · exact ⟨by decide, fun r hr => by simp at hr; subst hr; exact Nat.le_of_ble_eq_true rfl, fun r hr t ht => by simp at hr; subst hr; simp at ht; subst ht; exact Int.le_refl 0⟩, fun x hx => by
  simp [some3] at hx
  rcases hx with rfl | rfl | rfl <;> decide +kernel⟩
theorem some3_words {n d : Int} (h : CntOk n d) : words some3 n d = [Str.ofString "all"] := by
  have e : holds ⟨.places, 0, 3, 9, true⟩ n d = false := by
    rcases h.d0 with rfl | rfl | rfl <;> rfl
  unfold words some3
  simp [ruleH, e]
theorem main : ∀ ns : List Int, ns.length ≤ 63 → ∃ ρ' δ', m_law (slots N_law.length [.no, .deck]) (deckOf ns) = some (.rt (.bool true), ρ', δ') := fun ns hns => by
  have D0 : DkOk 0 (deckOf ns) := ⟨Int.le_refl 0, Int.le_refl 0, fun c hc => by
    obtain ⟨x, _, rfl⟩ := List.mem_map.mp hc
    unfold absI
    split <;> omega⟩
  obtain ⟨f, δ1, e1, wf1, cov, D1⟩ := covering_ok D0 (by omega)
  obtain ⟨g1, δ2, e2, wf2, D2⟩ := bent_ok wf1 D1 (by omega)
  obtain ⟨g, δ3, e3, wf3, D3⟩ := bent_ok wf2 D2 (by omega)
  obtain ⟨out, δ4, e4, D4, pr⟩ := compL_inv (g := gSet 5) (te := mCallK 1 f_l_count mNil) (ρ := wipeR [.no, .deck, .val (dForms f), .val (dForms g), .no, .no, .no, .no] [5]) (fun k δ => DkOk (1000 + 5 * k) δ) (fun _ z => ∃ c : Int × Int, z = dC c ∧ CntOk c.1 c.2) (rngL 12) 0 δ3 (D3.mono (by omega)) (fun d hd k δ hk hD => by
    have hlen : (rngL 12).length = 12 := rfl
    obtain ⟨n, d', δ', e, hc, D'⟩ := count_ok hD (by omega)
    exact ⟨_, _, δ', rfl, callK_eq rfl rfl e, ⟨(n, d'), rfl, hc⟩, D'.mono (by omega)⟩)
  obtain ⟨cs, rfl, hcs, hcl⟩ := paired_counts (fun _ _ h => h) pr
  have hcl : cs.length = 12 := hcl
  obtain ⟨ρ5, δ5, e5, hδ, s6, hu, rfl⟩ := forL_inv (g := gSet 6) (s := sIf (tOrM (tNotM (mTru (mCall f_l_right (mCons (mVar 2) (mCons (mVar 6) (mCons (mC (.bool true)) mNil)))))) (tNotM (mTru (mCall f_l_right (mCons (mVar 3) (mCons (mVar 6) (mCons (mC (.bool false)) mNil))))))) (sRet (mC (.bool false))) sNext) dC
    (fun k ρ δ => δ = δ4 ∧ ∃ s6, (∀ ds, s6 ≠ Sl.uni ds) ∧ ρ = [.no, .deck, .val (dForms f), .val (dForms g), .val (.list (cs.map dC)), .no, s6, .no]) cs 0 [.no, .deck, .val (dForms f), .val (dForms g), .val (.list (cs.map dC)), .no, .no, .no] δ4 ⟨rfl, .no, (fun ds z => nomatch z), rfl⟩ (fun k c ρ δ hc hI => by
      obtain ⟨rfl, s6, _, rfl⟩ := hI
      have hco := hcs c (List.mem_of_getElem? hc)
      refine ⟨_, [.no, .deck, .val (dForms f), .val (dForms g), .val (.list (cs.map dC)), .no, .val (dC c), .no], δ, rfl, ?_, rfl, .val (dC c), (fun ds z => nomatch z), rfl⟩
      refine (if_f (or_b (x := false) (y := false) (not_eq (b := true) (tru_eq (call_eq (cons_eq rfl (cons_eq rfl (cons_eq rfl rfl))) (l_right_eq hco wf1.ok true)) ?_)) (not_eq (b := true) (tru_eq (call_eq (cons_eq rfl (cons_eq rfl (cons_eq rfl rfl))) (l_right_eq hco wf3.ok false)) ?_)))).trans rfl
      · show some _ = some _
        rw [cov c.1 c.2]; rfl
      · show some _ = some _
        rw [Bool.not_false, Bool.or_true])
  subst hδ
  have e6 : mLc (mItems (mVar 4)) [6] (gSet 6) (mB (mBin neD (mCall f_forms_of (mCons (mVar 7) (mCons (mVar 6) mNil))) (mTup (mCons (mC (.str "all")) mNil)))) (mVar 6) [.no, .deck, .val (dForms f), .val (dForms g), .val (.list (cs.map dC)), .no, s6, .val (dForms some3)] δ5 = some (.list [], δ5) := by
    have hall : Sh 1 (.tuple [.str "all"]) := Sh.tup (k := 0) fun d hd => by
      simp at hd
      rw [hd]
      exact Sh.str (by decide +kernel)
    have hne : neD (.tuple [.str "all"]) (.tuple [.str "all"]) = some (.bool false) := by
      rw [neD_of hall hall (by decide) (by decide)]
      simp [PyData.eqv, PyData.eqvAll]
    have z := compL_filter (g := gSet 6) (tt := mB (mBin neD (mCall f_forms_of (mCons (mVar 7) (mCons (mVar 6) mNil))) (mTup (mCons (mC (.str "all")) mNil)))) (te := mVar 6) (ρ := wipeR [.no, .deck, .val (dForms f), .val (dForms g), .val (.list (cs.map dC)), .no, s6, .val (dForms some3)] [6]) (δ := δ5) dC (fun _ => false) dC cs (fun c hc => ⟨_, rfl, mB_eq (bin_eq (call_eq (cons_eq rfl (cons_eq rfl rfl)) (forms_eq some3_ok (hcs c hc))) (tup_eq rfl (szr rfl)) (by rw [some3_words (hcs c hc)]; exact hne)), fun q => nomatch q⟩)
    rw [show (cs.filter fun _ => false) = [] by simp] at z
    exact lc_eq (it_eq rfl rfl) (by
      cases s6 with
      | uni ds => exact absurd rfl (hu ds)
      | _ => rfl) z (Nat.zero_le _)
  have e7 : eqD (.list []) (.list []) = some (.bool true) := by
    rw [eqD_of sh_nil sh_nil (by decide) (by decide), eqv_nil]; rfl
  exact ⟨_, δ5, (seq_nx (asg_eq (callK_eq rfl rfl e1) rfl)).trans ((seq_nx (asg_eq (callK_eq rfl (cons_eq (callK_eq rfl (cons_eq rfl rfl) e2) rfl) e3) rfl)).trans ((seq_nx (asg_eq (lc_eq (rng_eq (j := 12) rfl (by decide)) rfl e4 (by rw [List.length_map, hcl]; exact sz (by decide))) rfl)).trans ((seq_nx ((for_eq (it_eq rfl rfl)).trans e5)).trans ((seq_nx (asg_eq (d := dForms some3) (tup_eq (cons_eq (tup_eq (cons_eq rfl (cons_eq (tup_eq rfl (szr rfl)) rfl)) (szr rfl)) (cons_eq (tup_eq (cons_eq rfl (cons_eq (tup_eq (cons_eq (tup_eq rfl (szr rfl)) rfl) (szr rfl)) rfl)) (szr rfl)) (cons_eq (tup_eq (cons_eq rfl (cons_eq (tup_eq (cons_eq (tup_eq (cons_eq (tup_eq rfl (szr rfl)) rfl) (szr rfl)) rfl) (szr rfl)) rfl)) (szr rfl)) rfl))) (szr rfl)) rfl)).trans (ret_eq (bin_eq e6 (lst_eq rfl (szr rfl)) e7))))))⟩
end K02

namespace K02
open PySem PySem.Spec PyProof.Rows L2 PD
theorem all_mk {l : PySem.W.OpenLaw} {w : World} {K : PySem.W.Frag} {h : Heap} {mg : Str → Option Value} {fa : Addr} (X : K.In h) (G : h.Ns mainGlobals mg) (hfa : mg "law" = some (.ref fa))
    (hm : ∀ ns : List Int, ns.length ≤ 63 → ∃ ρ' δ', m_law (slots N_law.length [.no, .deck]) (deckOf ns) = some (.rt (.bool true), ρ', δ'))
    {f0 : Addr} {od0 an0 : Option Addr} {sl0 : Array (Option Value)} {oc0 kV0 dc0 pm0 cd0 ct0 : Value}
    (a0 : PySem.W.nsIn K mainGlobals "scale_of" = some (some (.ref f0))) (l0 : K.lookup f0 = some ⟨oc0, od0, .func (PySem.W.fnOf "scale_of" "scale_of" (defArgs s_scale_of) (defBody s_scale_of) (defScope s_scale_of) .none kV0 dc0 pm0 an0 cd0 ct0), sl0⟩) (c0 : PySem.W.codeIn K cd0 "scale_of" = true) (k0 : PySem.W.keepIn K (.ref f0) = true)
    {f1 : Addr} {od1 an1 : Option Addr} {sl1 : Array (Option Value)} {oc1 kV1 dc1 pm1 cd1 ct1 : Value}
    (a1 : PySem.W.nsIn K mainGlobals "parts_of" = some (some (.ref f1))) (l1 : K.lookup f1 = some ⟨oc1, od1, .func (PySem.W.fnOf "parts_of" "parts_of" (defArgs s_parts_of) (defBody s_parts_of) (defScope s_parts_of) .none kV1 dc1 pm1 an1 cd1 ct1), sl1⟩) (c1 : PySem.W.codeIn K cd1 "parts_of" = true) (k1 : PySem.W.keepIn K (.ref f1) = true)
    {f2 : Addr} {od2 an2 : Option Addr} {sl2 : Array (Option Value)} {oc2 kV2 dc2 pm2 cd2 ct2 : Value}
    (a2 : PySem.W.nsIn K mainGlobals "holds_of" = some (some (.ref f2))) (l2 : K.lookup f2 = some ⟨oc2, od2, .func (PySem.W.fnOf "holds_of" "holds_of" (defArgs s_holds_of) (defBody s_holds_of) (defScope s_holds_of) .none kV2 dc2 pm2 an2 cd2 ct2), sl2⟩) (c2 : PySem.W.codeIn K cd2 "holds_of" = true) (k2 : PySem.W.keepIn K (.ref f2) = true)
    {f3 : Addr} {od3 an3 : Option Addr} {sl3 : Array (Option Value)} {oc3 kV3 dc3 pm3 cd3 ct3 : Value}
    (a3 : PySem.W.nsIn K mainGlobals "rule_holds" = some (some (.ref f3))) (l3 : K.lookup f3 = some ⟨oc3, od3, .func (PySem.W.fnOf "rule_holds" "rule_holds" (defArgs s_rule_holds) (defBody s_rule_holds) (defScope s_rule_holds) .none kV3 dc3 pm3 an3 cd3 ct3), sl3⟩) (c3 : PySem.W.codeIn K cd3 "rule_holds" = true) (k3 : PySem.W.keepIn K (.ref f3) = true)
    {f4 : Addr} {od4 an4 : Option Addr} {sl4 : Array (Option Value)} {oc4 kV4 dc4 pm4 cd4 ct4 : Value}
    (a4 : PySem.W.nsIn K mainGlobals "forms_of" = some (some (.ref f4))) (l4 : K.lookup f4 = some ⟨oc4, od4, .func (PySem.W.fnOf "forms_of" "forms_of" (defArgs s_forms_of) (defBody s_forms_of) (defScope s_forms_of) .none kV4 dc4 pm4 an4 cd4 ct4), sl4⟩) (c4 : PySem.W.codeIn K cd4 "forms_of" = true) (k4 : PySem.W.keepIn K (.ref f4) = true)
    {f5 : Addr} {od5 an5 : Option Addr} {sl5 : Array (Option Value)} {oc5 kV5 dc5 pm5 cd5 ct5 : Value}
    (a5 : PySem.W.nsIn K mainGlobals "_law_deck" = some (some (.ref f5))) (l5 : K.lookup f5 = some ⟨oc5, od5, .func (PySem.W.fnOf "_law_deck" "_law_deck" (defArgs s_l_deck) (defBody s_l_deck) (defScope s_l_deck) .none kV5 dc5 pm5 an5 cd5 ct5), sl5⟩) (c5 : PySem.W.codeIn K cd5 "_law_deck" = true) (k5 : PySem.W.keepIn K (.ref f5) = true)
    {f6 : Addr} {od6 an6 : Option Addr} {sl6 : Array (Option Value)} {oc6 kV6 dc6 pm6 cd6 ct6 : Value}
    (a6 : PySem.W.nsIn K mainGlobals "_law_draw" = some (some (.ref f6))) (l6 : K.lookup f6 = some ⟨oc6, od6, .func (PySem.W.fnOf "_law_draw" "_law_draw" (defArgs s_l_draw) (defBody s_l_draw) (defScope s_l_draw) .none kV6 dc6 pm6 an6 cd6 ct6), sl6⟩) (c6 : PySem.W.codeIn K cd6 "_law_draw" = true) (k6 : PySem.W.keepIn K (.ref f6) = true)
    {f7 : Addr} {od7 an7 : Option Addr} {sl7 : Array (Option Value)} {oc7 kV7 dc7 pm7 cd7 ct7 : Value}
    (a7 : PySem.W.nsIn K mainGlobals "_law_names" = some (some (.ref f7))) (l7 : K.lookup f7 = some ⟨oc7, od7, .func (PySem.W.fnOf "_law_names" "_law_names" (defArgs s_l_names) (defBody s_l_names) (defScope s_l_names) .none kV7 dc7 pm7 an7 cd7 ct7), sl7⟩) (c7 : PySem.W.codeIn K cd7 "_law_names" = true) (k7 : PySem.W.keepIn K (.ref f7) = true)
    {f8 : Addr} {od8 an8 : Option Addr} {sl8 : Array (Option Value)} {oc8 kV8 dc8 pm8 cd8 ct8 : Value}
    (a8 : PySem.W.nsIn K mainGlobals "_law_test" = some (some (.ref f8))) (l8 : K.lookup f8 = some ⟨oc8, od8, .func (PySem.W.fnOf "_law_test" "_law_test" (defArgs s_l_test) (defBody s_l_test) (defScope s_l_test) .none kV8 dc8 pm8 an8 cd8 ct8), sl8⟩) (c8 : PySem.W.codeIn K cd8 "_law_test" = true) (k8 : PySem.W.keepIn K (.ref f8) = true)
    {f9 : Addr} {od9 an9 : Option Addr} {sl9 : Array (Option Value)} {oc9 kV9 dc9 pm9 cd9 ct9 : Value}
    (a9 : PySem.W.nsIn K mainGlobals "_law_turned" = some (some (.ref f9))) (l9 : K.lookup f9 = some ⟨oc9, od9, .func (PySem.W.fnOf "_law_turned" "_law_turned" (defArgs s_l_turned) (defBody s_l_turned) (defScope s_l_turned) .none kV9 dc9 pm9 an9 cd9 ct9), sl9⟩) (c9 : PySem.W.codeIn K cd9 "_law_turned" = true) (k9 : PySem.W.keepIn K (.ref f9) = true)
    {f10 : Addr} {od10 an10 : Option Addr} {sl10 : Array (Option Value)} {oc10 kV10 dc10 pm10 cd10 ct10 : Value}
    (a10 : PySem.W.nsIn K mainGlobals "_law_covering" = some (some (.ref f10))) (l10 : K.lookup f10 = some ⟨oc10, od10, .func (PySem.W.fnOf "_law_covering" "_law_covering" (defArgs s_l_covering) (defBody s_l_covering) (defScope s_l_covering) .none kV10 dc10 pm10 an10 cd10 ct10), sl10⟩) (c10 : PySem.W.codeIn K cd10 "_law_covering" = true) (k10 : PySem.W.keepIn K (.ref f10) = true)
    {f11 : Addr} {od11 an11 : Option Addr} {sl11 : Array (Option Value)} {oc11 kV11 dc11 pm11 cd11 ct11 : Value}
    (a11 : PySem.W.nsIn K mainGlobals "_law_holds" = some (some (.ref f11))) (l11 : K.lookup f11 = some ⟨oc11, od11, .func (PySem.W.fnOf "_law_holds" "_law_holds" (defArgs s_l_holds) (defBody s_l_holds) (defScope s_l_holds) .none kV11 dc11 pm11 an11 cd11 ct11), sl11⟩) (c11 : PySem.W.codeIn K cd11 "_law_holds" = true) (k11 : PySem.W.keepIn K (.ref f11) = true)
    {f12 : Addr} {od12 an12 : Option Addr} {sl12 : Array (Option Value)} {oc12 kV12 dc12 pm12 cd12 ct12 : Value}
    (a12 : PySem.W.nsIn K mainGlobals "_law_words" = some (some (.ref f12))) (l12 : K.lookup f12 = some ⟨oc12, od12, .func (PySem.W.fnOf "_law_words" "_law_words" (defArgs s_l_words) (defBody s_l_words) (defScope s_l_words) .none kV12 dc12 pm12 an12 cd12 ct12), sl12⟩) (c12 : PySem.W.codeIn K cd12 "_law_words" = true) (k12 : PySem.W.keepIn K (.ref f12) = true)
    {f13 : Addr} {od13 an13 : Option Addr} {sl13 : Array (Option Value)} {oc13 kV13 dc13 pm13 cd13 ct13 : Value}
    (a13 : PySem.W.nsIn K mainGlobals "_law_bent_forms" = some (some (.ref f13))) (l13 : K.lookup f13 = some ⟨oc13, od13, .func (PySem.W.fnOf "_law_bent_forms" "_law_bent_forms" (defArgs s_l_bent_forms) (defBody s_l_bent_forms) (defScope s_l_bent_forms) .none kV13 dc13 pm13 an13 cd13 ct13), sl13⟩) (c13 : PySem.W.codeIn K cd13 "_law_bent_forms" = true) (k13 : PySem.W.keepIn K (.ref f13) = true)
    {f14 : Addr} {od14 an14 : Option Addr} {sl14 : Array (Option Value)} {oc14 kV14 dc14 pm14 cd14 ct14 : Value}
    (a14 : PySem.W.nsIn K mainGlobals "_law_count" = some (some (.ref f14))) (l14 : K.lookup f14 = some ⟨oc14, od14, .func (PySem.W.fnOf "_law_count" "_law_count" (defArgs s_l_count) (defBody s_l_count) (defScope s_l_count) .none kV14 dc14 pm14 an14 cd14 ct14), sl14⟩) (c14 : PySem.W.codeIn K cd14 "_law_count" = true) (k14 : PySem.W.keepIn K (.ref f14) = true)
    {f15 : Addr} {od15 an15 : Option Addr} {sl15 : Array (Option Value)} {oc15 kV15 dc15 pm15 cd15 ct15 : Value}
    (a15 : PySem.W.nsIn K mainGlobals "_law_right" = some (some (.ref f15))) (l15 : K.lookup f15 = some ⟨oc15, od15, .func (PySem.W.fnOf "_law_right" "_law_right" (defArgs s_l_right) (defBody s_l_right) (defScope s_l_right) .none kV15 dc15 pm15 an15 cd15 ct15), sl15⟩) (c15 : PySem.W.codeIn K cd15 "_law_right" = true) (k15 : PySem.W.keepIn K (.ref f15) = true)
    {f16 : Addr} {od16 an16 : Option Addr} {sl16 : Array (Option Value)} {oc16 kV16 dc16 pm16 cd16 ct16 : Value}
    (a16 : PySem.W.nsIn K mainGlobals "law" = some (some (.ref f16))) (l16 : K.lookup f16 = some ⟨oc16, od16, .func (PySem.W.fnOf "law" "law" (defArgs s_law) (defBody s_law) (defScope s_law) .none kV16 dc16 pm16 an16 cd16 ct16), sl16⟩) (c16 : PySem.W.codeIn K cd16 "law" = true) (k16 : PySem.W.keepIn K (.ref f16) = true)
    (z_abs : PySem.W.nsIn K mainGlobals "abs" = some none)
    (z_all : PySem.W.nsIn K mainGlobals "all" = some none)
    (z_any : PySem.W.nsIn K mainGlobals "any" = some none)
    (z_divmod : PySem.W.nsIn K mainGlobals "divmod" = some none)
    (z_int : PySem.W.nsIn K mainGlobals "int" = some none)
    (z_isinstance : PySem.W.nsIn K mainGlobals "isinstance" = some none)
    (z_len : PySem.W.nsIn K mainGlobals "len" = some none)
    (z_list : PySem.W.nsIn K mainGlobals "list" = some none)
    (z_max : PySem.W.nsIn K mainGlobals "max" = some none)
    (z_min : PySem.W.nsIn K mainGlobals "min" = some none)
    (z_range : PySem.W.nsIn K mainGlobals "range" = some none)
    (z_tuple : PySem.W.nsIn K mainGlobals "tuple" = some none)
    : ∃ fd : FuncData, (∀ (s : Shared) (v : Value), BindsTo s fd ⟨[v], []⟩ [("_law_script", v)]) ∧ ∀ base : Heap, K.In base → base.Ns mainGlobals mg → FnOk l.prog w K mg base CX0 5 fa fd ["_law_script"] (spLaw K) := by
  have e := hfa.symm.trans (PySem.W.mg_of X G a16)
  cases e
  have F0 := fun_mk (st := s_scale_of) l0 c0 k0
  have F1 := fun_mk (st := s_parts_of) l1 c1 k1
  have F2 := fun_mk (st := s_holds_of) l2 c2 k2
  have F3 := fun_mk (st := s_rule_holds) l3 c3 k3
  have F4 := fun_mk (st := s_forms_of) l4 c4 k4
  have F5 := fun_mk (st := s_l_deck) l5 c5 k5
  have F6 := fun_mk (st := s_l_draw) l6 c6 k6
  have F7 := fun_mk (st := s_l_names) l7 c7 k7
  have F8 := fun_mk (st := s_l_test) l8 c8 k8
  have F9 := fun_mk (st := s_l_turned) l9 c9 k9
  have F10 := fun_mk (st := s_l_covering) l10 c10 k10
  have F11 := fun_mk (st := s_l_holds) l11 c11 k11
  have F12 := fun_mk (st := s_l_words) l12 c12 k12
  have F13 := fun_mk (st := s_l_bent_forms) l13 c13 k13
  have F14 := fun_mk (st := s_l_count) l14 c14 k14
  have F15 := fun_mk (st := s_l_right) l15 c15 k15
  have F16 := fun_mk (st := s_law) l16 c16 k16
  have b0 := F0.binds (ps := ["places"]) fun _ _ _ _ _ _ us hl => match us, hl with | [_], _ => rfl
  have b1 := F1.binds (ps := ["count"]) fun _ _ _ _ _ _ us hl => match us, hl with | [_], _ => rfl
  have b2 := F2.binds (ps := ["test", "number"]) fun _ _ _ _ _ _ us hl => match us, hl with | [_, _], _ => rfl
  have b3 := F3.binds (ps := ["rule", "parts"]) fun _ _ _ _ _ _ us hl => match us, hl with | [_, _], _ => rfl
  have b4 := F4.binds (ps := ["forms", "count"]) fun _ _ _ _ _ _ us hl => match us, hl with | [_, _], _ => rfl
  have b5 := F5.binds (ps := ["_law_script"]) fun _ _ _ _ _ _ us hl => match us, hl with | [_], _ => rfl
  have b6 := F6.binds (ps := ["_law_deck_here", "_law_many"]) fun _ _ _ _ _ _ us hl => match us, hl with | [_, _], _ => rfl
  have b7 := F7.binds (ps := ["_law_deck_here", "_law_many"]) fun _ _ _ _ _ _ us hl => match us, hl with | [_, _], _ => rfl
  have b8 := F8.binds (ps := ["_law_deck_here", "_law_menu"]) fun _ _ _ _ _ _ us hl => match us, hl with | [_, _], _ => rfl
  have b9 := F9.binds (ps := ["_law_test_here"]) fun _ _ _ _ _ _ us hl => match us, hl with | [_], _ => rfl
  have b10 := F10.binds (ps := ["_law_deck_here"]) fun _ _ _ _ _ _ us hl => match us, hl with | [_], _ => rfl
  have b11 := F11.binds (ps := ["_law_test_here", "_law_n", "_law_d"]) fun _ _ _ _ _ _ us hl => match us, hl with | [_, _, _], _ => rfl
  have b12 := F12.binds (ps := ["_law_forms", "_law_n", "_law_d"]) fun _ _ _ _ _ _ us hl => match us, hl with | [_, _, _], _ => rfl
  have b13 := F13.binds (ps := ["_law_deck_here", "_law_forms"]) fun _ _ _ _ _ _ us hl => match us, hl with | [_, _], _ => rfl
  have b14 := F14.binds (ps := ["_law_deck_here"]) fun _ _ _ _ _ _ us hl => match us, hl with | [_], _ => rfl
  have b15 := F15.binds (ps := ["_law_forms", "_law_count_here", "_law_covers"]) fun _ _ _ _ _ _ us hl => match us, hl with | [_, _, _], _ => rfl
  have b16 := F16.binds (ps := ["_law_script"]) fun _ _ _ _ _ _ us hl => match us, hl with | [_], _ => rfl
  let T : Tx K mg := ⟨f0, _, F0, PySem.W.mg_of X G a0, b0, f1, _, F1, PySem.W.mg_of X G a1, b1, f2, _, F2, PySem.W.mg_of X G a2, b2, f3, _, F3, PySem.W.mg_of X G a3, b3, f4, _, F4, PySem.W.mg_of X G a4, b4, f5, _, F5, PySem.W.mg_of X G a5, b5, f6, _, F6, PySem.W.mg_of X G a6, b6, f7, _, F7, PySem.W.mg_of X G a7, b7, f8, _, F8, PySem.W.mg_of X G a8, b8, f9, _, F9, PySem.W.mg_of X G a9, b9, f10, _, F10, PySem.W.mg_of X G a10, b10, f11, _, F11, PySem.W.mg_of X G a11, b11, f12, _, F12, PySem.W.mg_of X G a12, b12, f13, _, F13, PySem.W.mg_of X G a13, b13, f14, _, F14, PySem.W.mg_of X G a14, b14, f15, _, F15, PySem.W.mg_of X G a15, b15, fa, _, F16, PySem.W.mg_of X G a16, b16, PySem.W.mg_none_of X G z_abs, PySem.W.mg_none_of X G z_all, PySem.W.mg_none_of X G z_any, PySem.W.mg_none_of X G z_divmod, PySem.W.mg_none_of X G z_int, PySem.W.mg_none_of X G z_isinstance, PySem.W.mg_none_of X G z_len, PySem.W.mg_none_of X G z_list, PySem.W.mg_none_of X G z_max, PySem.W.mg_none_of X G z_min, PySem.W.mg_none_of X G z_range, PySem.W.mg_none_of X G z_tuple⟩
  exact ⟨PySem.W.fnOf "law" "law" (defArgs s_law) (defBody s_law) (defScope s_law) .none kV16 dc16 pm16 an16 cd16 ct16, fun s v => .of_eq rfl, fun base _ _ => ok_law T hm⟩
end K02
open PySem PySem.W PyProof.Rows
set_option maxHeartbeats 0 in
theorem PySem.Challenge.cw_tonguehouse_k02_forms_of_counts_holds : PySem.Challenge.rw_tonguehouse_k02_forms_of_counts.Holds := by
  w_on; o_law; k_head; (case hw => w_witness2)
  k_fill
  refine L2.walk_of (l := PySem.Challenge.rw_tonguehouse_k02_forms_of_counts) (n := 63) (k := 5) (x := "_law_script") (CX := fun _ => L2.CX0) (sp := fun w => PD.spLaw _) rfl (by decide) rfl ⟨rfl, by decide, by decide⟩ (fun w h Y => PySem.W.kIn_of Y) ?F (fun _ _ a ns hl _ hS => ⟨a, ns, rfl, hS, hl, fun _ => rfl⟩) (fun _ _ _ _ _ h => h)
  case F =>
    intro w mg fa h KX G hmg
    refine' K02.all_mk KX G hmg K02.main ?a0 ?l0 ?c0 ?k0 ?a1 ?l1 ?c1 ?k1 ?a2 ?l2 ?c2 ?k2 ?a3 ?l3 ?c3 ?k3 ?a4 ?l4 ?c4 ?k4 ?a5 ?l5 ?c5 ?k5 ?a6 ?l6 ?c6 ?k6 ?a7 ?l7 ?c7 ?k7 ?a8 ?l8 ?c8 ?k8 ?a9 ?l9 ?c9 ?k9 ?a10 ?l10 ?c10 ?k10 ?a11 ?l11 ?c11 ?k11 ?a12 ?l12 ?c12 ?k12 ?a13 ?l13 ?c13 ?k13 ?a14 ?l14 ?c14 ?k14 ?a15 ?l15 ?c15 ?k15 ?a16 ?l16 ?c16 ?k16 ?z_abs ?z_all ?z_any ?z_divmod ?z_int ?z_isinstance ?z_len ?z_list ?z_max ?z_min ?z_range ?z_tuple
    (case a0 => k_is); (case l0 => k_is); (case c0 => k_is); (case k0 => k_is); (case a1 => k_is); (case l1 => k_is); (case c1 => k_is); (case k1 => k_is); (case a2 => k_is); (case l2 => k_is); (case c2 => k_is); (case k2 => k_is); (case a3 => k_is); (case l3 => k_is); (case c3 => k_is); (case k3 => k_is); (case a4 => k_is); (case l4 => k_is); (case c4 => k_is); (case k4 => k_is); (case a5 => k_is); (case l5 => k_is); (case c5 => k_is); (case k5 => k_is); (case a6 => k_is); (case l6 => k_is); (case c6 => k_is); (case k6 => k_is); (case a7 => k_is); (case l7 => k_is); (case c7 => k_is); (case k7 => k_is); (case a8 => k_is); (case l8 => k_is); (case c8 => k_is); (case k8 => k_is); (case a9 => k_is); (case l9 => k_is); (case c9 => k_is); (case k9 => k_is); (case a10 => k_is); (case l10 => k_is); (case c10 => k_is); (case k10 => k_is); (case a11 => k_is); (case l11 => k_is); (case c11 => k_is); (case k11 => k_is); (case a12 => k_is); (case l12 => k_is); (case c12 => k_is); (case k12 => k_is); (case a13 => k_is); (case l13 => k_is); (case c13 => k_is); (case k13 => k_is); (case a14 => k_is); (case l14 => k_is); (case c14 => k_is); (case k14 => k_is); (case a15 => k_is); (case l15 => k_is); (case c15 => k_is); (case k15 => k_is); (case a16 => k_is); (case l16 => k_is); (case c16 => k_is); (case k16 => k_is); (case z_abs => k_is); (case z_all => k_is); (case z_any => k_is); (case z_divmod => k_is); (case z_int => k_is); (case z_isinstance => k_is); (case z_len => k_is); (case z_list => k_is); (case z_max => k_is); (case z_min => k_is); (case z_range => k_is); (case z_tuple => k_is)

