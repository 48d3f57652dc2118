import PyProof.Rows.All
import Wide.All
import OpenK.AllK
import Wide.FinOn
import HandS.Base
import HandS.Call
import HandS.List
import HandS.Comp
import HandS.Ends
import HandS.Dict
import HandS.Iter
import HandS.Text
import HandS.Words
import HandS.WordsList
import HandS.WordsDict
import HandS.ForMost
import HandS.TupAny
import HandS.TupMul
import HandS.IsInst
import HandS.Wide
import HandS.Deep
import HandS.Flow
import HandS.SetKeys
import HandS.Style
import HandS.Conv
import HandS.SortKw
import HandS.Flt
import KE.DatumOrd
import KE.KStateDown
import HandS.StrMore
import HandS.Defaults
import HandS.DictComp
import HandS.TryOnly
import PyProof.ListStr
import HandS.More
import PyProof.DictUpdate
import HandS.DictEq
import HandS.CallLocal
import PyProof.StrOps2
import PyProof.EqAt
import PyProof.NeKinds
import PyProof.EqKinds
import PyProof.FactsAll.dict_1
import HandS.Strs
import HandS.SetFor
import HandS.Zip
import PyProof.StrWalks
import PyProof.Draws
import PyProof.EnumMake
import HandS.Set
import PyProof.Rows.SortShellAny
import PyProof.P3In
import HandS.TupLe
import KE.SortData
import HandS.WordsExc
import HandS.ExcIs
import PySem.Challenge.RW_tonguehouse_k67_deltas_led
set_option Elab.async false
set_option linter.all false
set_option maxRecDepth 100000
namespace PD
open PySem PySem.Spec PyProof.Rows L2

abbrev D := PyData
structure Dk where
  cells : List Int
  k : Int
  rests : List Int
  /-- the one number of a list that goes from hand to hand beside the first draw's deck -/
  lft : Option Int
/-- the deck's place: the outer list, the rests (which change), the cells -/
structure DP where
  o : Addr
  r : Addr
  c : Addr
  x : List V
/-- what a def has for its own: a list, a dict -/
inductive Ow where
  | lst (ds : List D) | dic (es : List (D × D))
/-- a slot that stays: the deck, or a def that was handed in -/
inductive Fx where
  | deck | fn (a : Addr) | left
inductive Sl where
  | no | val (d : D) | own (o : Ow) | fix (k : Fx)
abbrev Sl.deck : Sl := .fix .deck
abbrev Sl.left : Sl := .fix .left
abbrev Sl.fn (a : Addr) : Sl := .fix (.fn a)
abbrev Sl.uni (ds : List D) : Sl := .own (.lst ds)
abbrev Sl.dic (es : List (D × D)) : Sl := .own (.dic es)
theorem Sl.uni.injEq (a b : List D) : (Sl.uni a = Sl.uni b) = (a = b) := by simp

def keyD : Key → D
  | .inl i => .int i
  | .inr x => .str x

/-- a list, a tuple of the written part -/
def KT (K : PySem.W.Frag) (a : Addr) (xs : List V) : Prop :=
  ∃ (o : Obj) (its : Array Value) (n : Nat), K.lookup a = some o ∧ o.cls = .type "tuple" ∧ o.data = .seq its n ∧ its.size ≤ sizeLine ∧ Vals xs its.toList
def AL (K : PySem.W.Frag) (M : Addr → Prop) (H : Hp) (a : Addr) (xs : List V) : Prop := ¬ M a ∧ H a = some (.lst xs)
def AT (K : PySem.W.Frag) (M : Addr → Prop) (H : Hp) (a : Addr) (xs : List V) : Prop := (¬ M a ∧ Rd H a (.tup xs)) ∨ KT K a xs
theorem AL.sq {K M H a xs} (h : AL K M H a xs) : SqL K H a xs := .inl (.inl h.2)
theorem AT.sq {K M H a xs} (h : AT K M H a xs) : SqT K H a xs := h.elim (fun h => .inl h.2) .inr

mutual
inductive Rep (K : PySem.W.Frag) (M : Addr → Prop) (H : Hp) : V → D → Prop
  | non : Rep K M H .non .none
  | bl (b : Bool) : Rep K M H (.bl b) (.bool b)
  | int (i : Int) : Rep K M H (.int i) (.int i)
  | str (x : Str) : Rep K M H (.str x) (.str x)
  | lst {a : Addr} {xs : List V} {ds : List D} : AL K M H a xs → Reps K M H xs ds → Rep K M H (.ref a) (.list ds)
  | tup {a : Addr} {xs : List V} {ds : List D} : AT K M H a xs → Reps K M H xs ds → Rep K M H (.ref a) (.tuple ds)
  | dic {a : Addr} {kvs : List (Key × V)} {es : List (D × D)} : ¬ M a → Rd H a (.dK kvs) → RepK K M H kvs es → Rep K M H (.ref a) (.dict es)
inductive Reps (K : PySem.W.Frag) (M : Addr → Prop) (H : Hp) : List V → List D → Prop
  | nil : Reps K M H [] []
  | cons {v : V} {vs : List V} {d : D} {ds : List D} : Rep K M H v d → Reps K M H vs ds → Reps K M H (v :: vs) (d :: ds)
inductive RepK (K : PySem.W.Frag) (M : Addr → Prop) (H : Hp) : List (Key × V) → List (D × D) → Prop
  | nil : RepK K M H [] []
  | cons {k : Key} {v : V} {kvs : List (Key × V)} {e : D} {es : List (D × D)} : Rep K M H v e → RepK K M H kvs es → RepK K M H ((k, v) :: kvs) ((keyD k, e) :: es)
end

/-- from (M, H) to (M', H'): what is not in M stays, and is not in M' -/
def Mv (M : Addr → Prop) (H : Hp) (M' : Addr → Prop) (H' : Hp) : Prop := ∀ a o, H a = some o → ¬ M a → H' a = some o ∧ ¬ M' a
theorem Mv.refl (M H) : Mv M H M H := fun _ _ h n => ⟨h, n⟩
theorem Mv.trans {M H M1 H1 M2 H2} (h : Mv M H M1 H1) (g : Mv M1 H1 M2 H2) : Mv M H M2 H2 := fun a o e n => g a o (h a o e n).1 (h a o e n).2
theorem Mv.same {M H H'} (h : ∀ a o, H a = some o → H' a = some o) : Mv M H M H' := fun a o e n => ⟨h a o e, n⟩
theorem Mv.rd {M H M' H' a u} (h : Mv M H M' H') (n : ¬ M a) (r : Rd H a u) : ¬ M' a ∧ Rd H' a u := by
  rcases r with r | ⟨o, r⟩
  · exact ⟨(h a _ r n).2, .inl (h a _ r n).1⟩
  · exact ⟨(h a _ r n).2, .inr ⟨o, (h a _ r n).1⟩⟩
theorem AL.mv {K M H M' H' a xs} (h : Mv M H M' H') (x : AL K M H a xs) : AL K M' H' a xs := ⟨(h _ _ x.2 x.1).2, (h _ _ x.2 x.1).1⟩
theorem AT.mv {K M H M' H' a xs} (h : Mv M H M' H') (x : AT K M H a xs) : AT K M' H' a xs := x.elim (fun x => .inl (h.rd x.1 x.2)) .inr
mutual
theorem Rep.mv {K M H M' H'} (h : Mv M H M' H') : ∀ {v d}, Rep K M H v d → Rep K M' H' v d
  | _, _, .non => .non
  | _, _, .bl b => .bl b
  | _, _, .int i => .int i
  | _, _, .str x => .str x
  | _, _, .lst a r => .lst (a.mv h) (Reps.mv h r)
  | _, _, .tup a r => .tup (a.mv h) (Reps.mv h r)
  | _, _, .dic n e r => .dic (h.rd n e).1 (h.rd n e).2 (RepK.mv h r)
theorem Reps.mv {K M H M' H'} (h : Mv M H M' H') : ∀ {vs ds}, Reps K M H vs ds → Reps K M' H' vs ds
  | _, _, .nil => .nil
  | _, _, .cons r t => .cons (Rep.mv h r) (Reps.mv h t)
theorem RepK.mv {K M H M' H'} (h : Mv M H M' H') : ∀ {vs ds}, RepK K M H vs ds → RepK K M' H' vs ds
  | _, _, .nil => .nil
  | _, _, .cons r t => .cons (Rep.mv h r) (RepK.mv h t)
end
theorem Reps.length {K M H} : ∀ {vs ds}, Reps K M H vs ds → vs.length = ds.length
  | _, _, .nil => rfl
  | _, _, .cons _ t => by simp only [List.length_cons, Reps.length t]
theorem Reps.get {K M H} : ∀ {vs ds} {i : Nat} {v}, Reps K M H vs ds → vs[i]? = some v → ∃ d, ds[i]? = some d ∧ Rep K M H v d
  | _, _, _, _, .nil, e => by simp at e
  | _, _, 0, _, .cons r _, e => by simp at e; subst e; exact ⟨_, rfl, r⟩
  | _, _, i + 1, v, .cons _ t, e => by simpa using Reps.get (i := i) (v := v) t (by simpa using e)
theorem Reps.get' {K M H} : ∀ {vs ds} {i : Nat} {d}, Reps K M H vs ds → ds[i]? = some d → ∃ v, vs[i]? = some v ∧ Rep K M H v d
  | _, _, _, _, .nil, e => by simp at e
  | _, _, 0, _, .cons r _, e => by simp at e; subst e; exact ⟨_, rfl, r⟩
  | _, _, i + 1, v, .cons _ t, e => by simpa using Reps.get' (i := i) (d := v) t (by simpa using e)
theorem Reps.append {K M H} : ∀ {vs ds ws es}, Reps K M H vs ds → Reps K M H ws es → Reps K M H (vs ++ ws) (ds ++ es)
  | _, _, _, _, .nil, s => s
  | _, _, _, _, .cons r t, s => .cons r (Reps.append t s)
theorem Reps.take {K M H} : ∀ {vs ds} (n : Nat), Reps K M H vs ds → Reps K M H (vs.take n) (ds.take n)
  | _, _, 0, _ => .nil
  | _, _, _ + 1, .nil => .nil
  | _, _, n + 1, .cons r t => .cons r (Reps.take n t)
theorem Reps.drop {K M H} : ∀ {vs ds} (n : Nat), Reps K M H vs ds → Reps K M H (vs.drop n) (ds.drop n)
  | _, _, 0, r => r
  | _, _, _ + 1, .nil => .nil
  | _, _, n + 1, .cons _ t => Reps.drop n t
theorem Reps.ints {K M H} : ∀ ns : List Int, Reps K M H (ns.map V.int) (ns.map PyData.int)
  | [] => .nil
  | n :: r => .cons (.int n) (Reps.ints r)

inductive OwR (K : PySem.W.Frag) (M : Addr → Prop) (H : Hp) : HO → Ow → Prop
  | lst {xs : List V} {ds : List D} : Reps K M H xs ds → OwR K M H (.lst xs) (.lst ds)
  | dic {kvs : List (Key × V)} {es : List (D × D)} : RepK K M H kvs es → OwR K M H (.dK kvs) (.dic es)
theorem OwR.mv {K M H M' H'} (h : Mv M H M' H') : ∀ {o w}, OwR K M H o w → OwR K M' H' o w
  | _, _, .lst r => .lst (r.mv h)
  | _, _, .dic r => .dic (r.mv h)
/-- a frame: what the callers may change (M0), the deck's two addresses, the heap at its entry -/
structure Fr where
  M0 : Addr → Prop
  dk : Option DP
  H0 : Hp
def Mm (F : Fr) (σ : L2.St) (ρ : List Sl) : Addr → Prop := fun a => F.M0 a ∨ ∃ (i : Nat) (w : Ow), ρ[i]? = some (.own w) ∧ σ[i]? = some (some (.ref a))
/-- the first draw's deck has two cells and no rests, the second draw's has three -/
def dkTl (δ : Dk) (p : DP) : List V := if δ.rests = [] then [] else [.ref p.2]
/-- what the second address of the first draw's deck holds: nothing that is looked at, or the number that goes from hand to hand -/
def lx (l : Option Int) (p : DP) : List V := match l with
  | some n => [.int n]
  | none => p.x
def dkTwo (δ : Dk) (p : DP) : List V := if δ.rests = [] then lx δ.lft p else δ.rests.map V.int
structure DeckAt (H : Hp) (p : DP) (δ : Dk) : Prop where
  ne : p.1 ≠ p.2
  ne2 : p.1 ≠ p.3
  ne3 : p.2 ≠ p.3
  one : H p.1 = some (.lst (.ref p.3 :: .int δ.k :: dkTl δ p))
  two : H p.2 = some (.lst (dkTwo δ p))
  tri : H p.3 = some (.lst (δ.cells.map V.int))
structure DeckN (H : Hp) (p : DP) (δ : Dk) : Prop where
  ne : p.1 ≠ p.2
  ne2 : p.1 ≠ p.3
  ne3 : p.2 ≠ p.3
  one : H p.1 = some (.lst [.ref p.3, .int δ.k, .ref p.2])
  two : H p.2 = some (.lst (δ.rests.map V.int))
  tri : H p.3 = some (.lst (δ.cells.map V.int))
structure DeckO (H : Hp) (p : DP) (δ : Dk) : Prop where
  ne : p.1 ≠ p.2
  ne2 : p.1 ≠ p.3
  ne3 : p.2 ≠ p.3
  one : H p.1 = some (.lst [.ref p.3, .int δ.k])
  two : H p.2 = some (.lst (lx δ.lft p))
  tri : H p.3 = some (.lst (δ.cells.map V.int))
theorem DeckAt.new {H p δ} (h : DeckAt H p δ) (n : δ.rests ≠ []) : DeckN H p δ := ⟨h.ne, h.ne2, h.ne3, by rw [h.one, dkTl, if_neg n], by rw [h.two, dkTwo, if_neg n], h.tri⟩
theorem DeckN.at {H p δ} (h : DeckN H p δ) (n : δ.rests ≠ []) : DeckAt H p δ := ⟨h.ne, h.ne2, h.ne3, by rw [h.one, dkTl, if_neg n], by rw [h.two, dkTwo, if_neg n], h.tri⟩
theorem DeckAt.old {H p δ} (h : DeckAt H p δ) (n : δ.rests = []) : DeckO H p δ := ⟨h.ne, h.ne2, h.ne3, by rw [h.one, dkTl, if_pos n], by rw [h.two, dkTwo, if_pos n], h.tri⟩
theorem DeckO.at {H p δ} (h : DeckO H p δ) (n : δ.rests = []) : DeckAt H p δ := ⟨h.ne, h.ne2, h.ne3, by rw [h.one, dkTl, if_pos n], by rw [h.two, dkTwo, if_pos n], h.tri⟩
def FxR (dk : Option DP) (k : Fx) (v : Option (Option V)) : Prop := match k with
  | .deck => ∃ p, dk = some p ∧ v = some (some (.ref p.1))
  | .fn a => v = some (some (.ref a))
  | .left => ∃ p, dk = some p ∧ v = some (some (.ref p.2))
structure Good (K : PySem.W.Frag) (F : Fr) (σ : L2.St) (H : Hp) (ρ : List Sl) (δ : Dk) : Prop where
  len : σ.length = ρ.length
  val : ∀ (i : Nat) d, ρ[i]? = some (.val d) → ∃ v, σ[i]? = some (some v) ∧ Rep K (Mm F σ ρ) H v d
  own : ∀ (i : Nat) w, ρ[i]? = some (.own w) → ∃ a o, σ[i]? = some (some (.ref a)) ∧ H a = some o ∧ OwR K (Mm F σ ρ) H o w ∧ ¬ F.M0 a ∧ F.H0 a = none
  inj : ∀ (i j : Nat) ds es a, ρ[i]? = some (.own ds) → ρ[j]? = some (.own es) → σ[i]? = some (some (.ref a)) → σ[j]? = some (some (.ref a)) → i = j
  m0 : ∀ a, F.M0 a → H a ≠ none
  dsl : ∀ {k : Fx} (i : Nat), ρ[i]? = some (.fix k) → FxR F.dk k σ[i]?
  dck : ∀ p, F.dk = some p → F.M0 p.1 ∧ F.M0 p.2 ∧ F.M0 p.3 ∧ DeckAt H p δ
  fr : ∀ a o, F.H0 a = some o → (∀ p, F.dk = some p → a ≠ p.1 ∧ a ≠ p.2 ∧ a ≠ p.3) → H a = some o

theorem Good.uni {K F σ H ρ δ} (G : Good K F σ H ρ δ) (i : Nat) (ds : List D) (h : ρ[i]? = some (.uni ds)) : ∃ a xs, σ[i]? = some (some (.ref a)) ∧ H a = some (.lst xs) ∧ Reps K (Mm F σ ρ) H xs ds ∧ ¬ F.M0 a ∧ F.H0 a = none := by
  obtain ⟨a, o, e1, e2, r, n⟩ := G.own i _ h
  cases r with
  | lst r => exact ⟨a, _, e1, e2, r, n⟩
theorem Good.dic {K F σ H ρ δ} (G : Good K F σ H ρ δ) (i : Nat) (es : List (D × D)) (h : ρ[i]? = some (.dic es)) : ∃ a kvs, σ[i]? = some (some (.ref a)) ∧ H a = some (.dK kvs) ∧ RepK K (Mm F σ ρ) H kvs es ∧ ¬ F.M0 a ∧ F.H0 a = none := by
  obtain ⟨a, o, e1, e2, r, n⟩ := G.own i _ h
  cases r with
  | dic r => exact ⟨a, _, e1, e2, r, n⟩
theorem upd_keeps {H : Hp} {p : Addr} {o : HO} (h : H p = none) : ∀ a u, H a = some u → upd H p o a = some u := fun a u e => by
  rw [upd_ne (ne_of_none e h)]; exact e
theorem Good.keep {K F σ H H' ρ δ} (G : Good K F σ H ρ δ) (h : ∀ a o, H a = some o → H' a = some o) : Good K F σ H' ρ δ where
  len := G.len
  val := fun i d e => by
    obtain ⟨v, e1, r⟩ := G.val i d e
    exact ⟨v, e1, r.mv (Mv.same h)⟩
  own := fun i ds e => by
    obtain ⟨a, xs, e1, e2, r, n⟩ := G.own i ds e
    exact ⟨a, xs, e1, h _ _ e2, r.mv (Mv.same h), n⟩
  inj := G.inj
  m0 := fun a ha => by
    cases e : H a with
    | none => exact absurd e (G.m0 a ha)
    | some o => rw [h a o e]; intro z; cases z
  dsl := G.dsl
  dck := fun p e => by
    obtain ⟨a, b, b3, c⟩ := G.dck p e
    exact ⟨a, b, b3, c.ne, c.ne2, c.ne3, h _ _ c.one, h _ _ c.two, h _ _ c.tri⟩
  fr := fun a o e n => h _ _ (G.fr a o e n)
theorem Good.new {K F σ H ρ δ p o} (G : Good K F σ H ρ δ) (h : H p = none) : Good K F σ (upd H p o) ρ δ := G.keep (upd_keeps h)
theorem Good.mfree {K F σ H ρ δ p} (G : Good K F σ H ρ δ) (h : H p = none) : ¬ Mm F σ ρ p := by
  rintro (m | ⟨i, ds, e1, e2⟩)
  · exact G.m0 p m h
  · obtain ⟨a, xs, e3, e4, _⟩ := G.own i ds e1
    rw [e2] at e3
    cases e3
    rw [h] at e4
    cases e4

/-! ### the mirror's expressions -/
abbrev ME := List Sl → Dk → Option (D × Dk)
abbrev MT := List Sl → Dk → Option (Bool × Dk)
abbrev MA := List Sl → Dk → Option (List D × Dk)
def Snd (K : PySem.W.Frag) (t : TE) (m : ME) : Prop := ∀ F σ H ρ δ d δ', Good K F σ H ρ δ → m ρ δ = some (d, δ') → ∀ Q : VK,
  (∀ v H', Good K F σ H' ρ δ' → Mv (Mm F σ ρ) H (Mm F σ ρ) H' → Rep K (Mm F σ ρ) H' v d → Q v H') → t σ H Q
def SndT (K : PySem.W.Frag) (t : TT) (m : MT) : Prop := ∀ F σ H ρ δ d δ', Good K F σ H ρ δ → m ρ δ = some (d, δ') → ∀ Q : Bool → Hp → Prop,
  (∀ H', Good K F σ H' ρ δ' → Mv (Mm F σ ρ) H (Mm F σ ρ) H' → Q d H') → t σ H Q
def SndA (K : PySem.W.Frag) (t : TA) (m : MA) : Prop := ∀ F σ H ρ δ d δ', Good K F σ H ρ δ → m ρ δ = some (d, δ') → ∀ Q : List V → Hp → Prop,
  (∀ v H', Good K F σ H' ρ δ' → Mv (Mm F σ ρ) H (Mm F σ ρ) H' → Reps K (Mm F σ ρ) H' v d → Q v H') → t σ H Q
structure PD (X : Cx) (e : Expr) (m : ME) : Prop where
  ex : ∃ t, PE X e t ∧ Snd X.K t m
structure PDT (X : Cx) (e : Expr) (m : MT) : Prop where
  ex : ∃ t, PT X e t ∧ SndT X.K t m
structure PDA (X : Cx) (es : List Expr) (m : MA) : Prop where
  ex : ∃ t, PA X es t ∧ SndA X.K t m

/-! names, constants -/
def mVar (i : Nat) : ME := fun ρ δ => match ρ[i]? with
  | some (.val d) => some (d, δ)
  | _ => none
def mC (d : D) : ME := fun _ δ => some (d, δ)
theorem snd_c {K v d} (h : ∀ M H, Rep K M H v d) : Snd K (tC v) (mC d) := fun F σ H ρ δ d' δ' G e Q q => by
  cases e
  exact q v H G (Mv.refl _ _) (h _ _)
theorem snd_var {K i} : Snd K (tVar i) (mVar i) := fun F σ H ρ δ d' δ' G e Q q => by
  unfold mVar at e
  split at e
  · rename_i d h
    cases e
    obtain ⟨v, e1, r⟩ := G.val i _ h
    exact ⟨v, e1, q v H G (Mv.refl _ _) r⟩
  · cases e
section
variable {X : Cx}
theorem pd_int {i j pos} : PD X (.Constant (.int i) j pos) (mC (.int i)) := ⟨_, pe_int, snd_c fun _ _ => .int i⟩
theorem pd_bl {i j pos} : PD X (.Constant (.bool i) j pos) (mC (.bool i)) := ⟨_, pe_bl, snd_c fun _ _ => .bl i⟩
theorem pd_non {j pos} : PD X (.Constant .none j pos) (mC .none) := ⟨_, pe_non, snd_c fun _ _ => .non⟩
theorem pd_str {i j pos} : PD X (.Constant (.str i) j pos) (mC (.str i)) := ⟨_, pe_str, snd_c fun _ _ => .str i⟩
theorem pd_var (i : Nat) {x : Str} {pos : Pos} (hN : X.N[i]? = some x := by rfl) (hv : Vis X.env.scope x := by first | exact Or.inl rfl | exact Or.inr (Or.inl rfl) | exact Or.inr (Or.inr rfl)) (hd : (x == ("__debug__" : Str)) = false := by decide)
    (hcd : (x == ("__classdict__" : Str)) = false := by decide) : PD X (.Name x pos) (mVar i) := ⟨_, pe_var hN hv hd hcd, snd_var⟩
end

/-! operators by values -/
def OpS (K : PySem.W.Frag) (r : R2) (f : D → D → Option D) : Prop := ∀ F σ H ρ δ x y d e z, Good K F σ H ρ δ → Rep K (Mm F σ ρ) H x d → Rep K (Mm F σ ρ) H y e → f d e = some z → ∀ Q : VK,
  (∀ v H', (∀ a o, H a = some o → H' a = some o) → Rep K (Mm F σ ρ) H' v z → Q v H') → r x y H Q
def mBin (f : D → D → Option D) (a b : ME) : ME := fun ρ δ => (a ρ δ).bind fun p => (b ρ p.2).bind fun q => (f p.1 q.1).map fun z => (z, q.2)
theorem snd_bin {K r f ta tb a b} (o : OpS K r f) (ha : Snd K ta a) (hb : Snd K tb b) : Snd K (tOp r ta tb) (mBin f a b) := fun F σ H ρ δ d δ' G e Q q => by
  unfold mBin at e
  obtain ⟨⟨x, δ1⟩, e1, e⟩ := Option.bind_eq_some_iff.mp e
  obtain ⟨⟨y, δ2⟩, e2, e⟩ := Option.bind_eq_some_iff.mp e
  obtain ⟨z, e3, e⟩ := Option.map_eq_some_iff.mp e
  cases e
  refine ha F σ H ρ δ x δ1 G e1 _ fun v H1 G1 M1 R1 => hb F σ H1 ρ δ1 y δ2 G1 e2 _ fun u H2 G2 M2 R2 => ?_
  refine o F σ H2 ρ δ2 v u x y d G2 (R1.mv M2) R2 e3 _ fun w H3 k R3 => q w H3 (G2.keep k) ((M1.trans M2).trans (Mv.same k)) R3
theorem OpR.or {X : Cx} {f : Value → Value → Sem Value} {r r' : R2} (h : OpR X f r) (h' : OpR X f r') : OpR X f (fun x y H Q => r x y H Q ∨ r' x y H Q) := fun pins s σ H x y v u Q I rx ry q =>
  q.elim (fun q => h pins s σ H x y v u Q I rx ry q) (fun q => h' pins s σ H x y v u Q I rx ry q)
end PD

namespace PD
open PySem PySem.Spec PyProof.Rows L2

/-! ### operators -/
theorem OpS.or {K r r' f g} (h : OpS K r f) (h' : OpS K r' g) : OpS K (fun x y H Q => r x y H Q ∨ r' x y H Q) (fun d e => (f d e).orElse fun _ => g d e) := fun F σ H ρ δ x y d e z G rx ry hz Q q => by
  dsimp only at hz
  cases hf : f d e with
  | some w => rw [hf] at hz; cases hz; exact .inl (h F σ H ρ δ x y d e _ G rx ry hf Q q)
  | none => rw [hf] at hz; exact .inr (h' F σ H ρ δ x y d e z G rx ry hz Q q)
/-- ints under C -/
def onI (C : Int → Int → Bool) (g : Int → Int → D) : D → D → Option D
  | .int i, .int j => if C i j then some (g i j) else none
  | _, _ => none
theorem ops_I {K} {C : Int → Int → Prop} {c : Int → Int → Bool} {g : Int → Int → V} {g' : Int → Int → D} (hc : ∀ i j, c i j = true → C i j) (hg : ∀ i j M H, Rep K M H (g i j) (g' i j)) : OpS K (rI C g) (onI c g') := fun F σ H ρ δ x y d e z G rx ry hz Q q => by
  unfold onI at hz
  split at hz
  · rename_i i j
    split at hz
    · rename_i h
      cases hz
      cases rx
      cases ry
      exact ⟨i, j, rfl, rfl, hc i j h, q _ H (fun _ _ h => h) (hg i j _ _)⟩
    · cases hz
  · cases hz
theorem ops_I0 {K} {g : Int → Int → V} {g' : Int → Int → D} (hg : ∀ i j M H, Rep K M H (g i j) (g' i j)) : OpS K (rI0 g) (onI (fun _ _ => true) g') := fun F σ H ρ δ x y d e z G rx ry hz Q q => by
  unfold onI at hz
  split at hz
  · rename_i i j
    simp only [if_true] at hz
    cases hz
    cases rx
    cases ry
    exact ⟨i, j, rfl, rfl, q _ H (fun _ _ h => h) (hg i j _ _)⟩
  · cases hz
def onS (C : Str → Str → Bool) (g : Str → Str → D) : D → D → Option D
  | .str i, .str j => if C i j then some (g i j) else none
  | _, _ => none
theorem ops_addS {K} : OpS K (fun x y H Q => ∃ i j, x = .str i ∧ y = .str j ∧ i.length + j.length ≤ sizeLine ∧ Q (.str (i ++ j)) H) (onS (fun i j => decide (i.length + j.length ≤ sizeLine)) fun i j => .str (i ++ j)) := fun F σ H ρ δ x y d e z G rx ry hz Q q => by
  unfold onS at hz
  split at hz
  · rename_i i j
    split at hz
    · rename_i h
      cases hz
      cases rx
      cases ry
      exact ⟨i, j, rfl, rfl, of_decide_eq_true h, q _ H (fun _ _ h => h) (.str _)⟩
    · cases hz
  · cases hz
theorem ops_cmpS {K} {c : Str → Str → Bool} : OpS K (fun x y H Q => ∃ i j, x = .str i ∧ y = .str j ∧ Q (.bl (c i j)) H) (onS (fun _ _ => true) fun i j => .bool (c i j)) := fun F σ H ρ δ x y d e z G rx ry hz Q q => by
  unfold onS at hz
  split at hz
  · rename_i i j
    simp only [if_true] at hz
    cases hz
    cases rx
    cases ry
    exact ⟨i, j, rfl, rfl, q _ H (fun _ _ h => h) (.bl _)⟩
  · cases hz
def catL : D → D → Option D
  | .list xs, .list ys => if xs.length + ys.length ≤ sizeLine then some (.list (xs ++ ys)) else none
  | _, _ => none
theorem ops_catL {K} : OpS K rCat catL := fun F σ H ρ δ x y d e z G rx ry hz Q q => by
  unfold catL at hz
  split at hz
  · rename_i xs ys
    split at hz
    · rename_i h
      cases hz
      cases rx with
      | @lst a vs _ ha r1 =>
        cases ry with
        | @lst b ws _ hb r2 =>
          refine ⟨_, _, _, _, rfl, rfl, ha.2, hb.2, by rw [r1.length, r2.length]; exact h, fun p hp => ?_⟩
          have k := upd_keeps (o := .lst (vs ++ ws)) hp
          exact q _ _ k (.lst ⟨G.mfree hp, upd_same⟩ ((r1.append r2).mv (Mv.same k)))
    · cases hz
  · cases hz
def catT : D → D → Option D
  | .tuple xs, .tuple ys => if xs.length + ys.length ≤ sizeLine then some (.tuple (xs ++ ys)) else none
  | _, _ => none
theorem ops_catT {K} : OpS K (rCatA K) catT := fun F σ H ρ δ x y d e z G rx ry hz Q q => by
  unfold catT at hz
  split at hz
  · rename_i xs ys
    split at hz
    · rename_i h
      cases hz
      cases rx with
      | @tup a vs _ ha r1 =>
        cases ry with
        | @tup b ws _ hb r2 =>
          refine ⟨_, _, _, _, rfl, rfl, ha.sq, hb.sq, by rw [r1.length, r2.length]; exact h, fun e => ?_, fun _ e => ?_, fun _ _ p hp => ?_⟩
          · subst e
            cases r1
            exact q _ H (fun _ _ h => h) (.tup hb r2)
          · subst e
            cases r2
            rw [List.append_nil] at q
            exact q _ H (fun _ _ h => h) (.tup ha r1)
          · have k := upd_keeps (o := .tup (vs ++ ws)) hp
            exact q _ _ k (.tup (.inl ⟨G.mfree hp, .inl upd_same⟩) ((r1.append r2).mv (Mv.same k)))
    · cases hz
  · cases hz
def addD : D → D → Option D := fun d e => (onI (fun _ _ => true) (fun i j => .int (i + j)) d e).orElse fun _ => (onS (fun i j => decide (i.length + j.length ≤ sizeLine)) (fun i j => .str (i ++ j)) d e).orElse fun _ => (catL d e).orElse fun _ => catT d e
def subD : D → D → Option D := onI (fun _ _ => true) fun i j => .int (i - j)
def mulOk (i j : Int) : Bool := decide (-(2 ^ 64) < i ∧ i < 2 ^ 64) || decide (-(2 ^ 64) < j ∧ j < 2 ^ 64)
def mulI : D → D → Option D := onI mulOk fun i j => .int (i * j)
def mulT : D → D → Option D
  | .tuple xs, .int k => if xs ≠ [] ∧ 2 ≤ k ∧ k ≤ 1000 ∧ xs.length ≤ 1000 then some (.tuple (List.replicate k.toNat xs).flatten) else none
  | _, _ => none
def modD : D → D → Option D := onI (fun _ j => decide (0 < j)) fun i j => .int (i % j)
def fdivD : D → D → Option D := onI (fun _ j => decide (0 < j ∧ j.natAbs.log2 < 9000)) fun i j => .int (i / j)
def powD : D → D → Option D := onI (fun i j => decide (0 ≤ j ∧ j ≤ 1000000 ∧ i.natAbs < 2 ^ 64)) fun i j => .int (i ^ j.toNat)
theorem Reps.flat {K M H} {vs : List V} {ds : List D} (r : Reps K M H vs ds) : ∀ n, Reps K M H (List.replicate n vs).flatten (List.replicate n ds).flatten
  | 0 => .nil
  | n + 1 => by
    rw [List.replicate_succ, List.replicate_succ, List.flatten_cons, List.flatten_cons]
    exact r.append (Reps.flat r n)
theorem ops_mulT {K} : OpS K (rRepT K) mulT := fun F σ H ρ δ x y d e z G rx ry hz Q q => by
  unfold mulT at hz
  split at hz
  · rename_i xs k
    split at hz
    · rename_i h
      cases hz
      cases ry
      cases rx with
      | @tup a vs _ ha r1 =>
        refine ⟨_, _, _, rfl, rfl, ha.sq, fun e => h.1 ?_, h.2.1, h.2.2.1, by rw [r1.length]; exact h.2.2.2, fun p hp => ?_⟩
        · subst e; cases r1; rfl
        · have kk := upd_keeps (o := .tup (List.replicate k.toNat vs).flatten) hp
          exact q _ _ kk (.tup (.inl ⟨G.mfree hp, .inl upd_same⟩) ((r1.flat _).mv (Mv.same kk)))
    · cases hz
  · cases hz
def mulD : D → D → Option D := fun d e => (mulI d e).orElse fun _ => mulT d e

section
variable {X : Cx} {a b : Expr} {ma mb : ME} {pos : Pos}
theorem PD.op {op : Operator} {r : R2} {f : D → D → Option D} (ho : OpR X (binaryOp op) r) (s : OpS X.K r f) (ha : PD X a ma) (hb : PD X b mb) : PD X (.BinOp a op b pos) (mBin f ma mb) := by
  obtain ⟨ta, h1, s1⟩ := ha.ex
  obtain ⟨tb, h2, s2⟩ := hb.ex
  exact ⟨_, pe_op ho h1 h2, snd_bin s s1 s2⟩
theorem pd_add (ha : PD X a ma) (hb : PD X b mb) : PD X (.BinOp a .Add b pos) (mBin addD ma mb) :=
  PD.op (OpR.or op_add (OpR.or op_add_str (OpR.or op_cat op_catA))) (OpS.or (ops_I0 fun _ _ _ _ => .int _) (OpS.or ops_addS (OpS.or ops_catL ops_catT))) ha hb
theorem pd_sub (ha : PD X a ma) (hb : PD X b mb) : PD X (.BinOp a .Sub b pos) (mBin subD ma mb) := PD.op op_sub (ops_I0 fun _ _ _ _ => .int _) ha hb
theorem mulOk_of {i j : Int} (h : mulOk i j = true) : CMul i j := by
  unfold mulOk at h
  rcases Bool.or_eq_true_iff.mp h with h | h
  · exact .inl (of_decide_eq_true h)
  · exact .inr (of_decide_eq_true h)
theorem pd_mul (ha : PD X a ma) (hb : PD X b mb) : PD X (.BinOp a .Mult b pos) (mBin mulD ma mb) :=
  PD.op (OpR.or op_mul op_repT) (OpS.or (ops_I (fun _ _ h => mulOk_of h) fun _ _ _ _ => .int _) ops_mulT) ha hb
theorem pd_mod (ha : PD X a ma) (hb : PD X b mb) : PD X (.BinOp a .Mod b pos) (mBin modD ma mb) := PD.op op_mod (ops_I (fun _ _ h => of_decide_eq_true h) fun _ _ _ _ => .int _) ha hb
theorem pd_fdiv (ha : PD X a ma) (hb : PD X b mb) : PD X (.BinOp a .FloorDiv b pos) (mBin fdivD ma mb) := PD.op op_fdivW (ops_I (fun _ j h => of_decide_eq_true (p := 0 < j ∧ j.natAbs.log2 < 9000) h) fun _ _ _ _ => .int _) ha hb
theorem pd_pow (ha : PD X a ma) (hb : PD X b mb) : PD X (.BinOp a .Pow b pos) (mBin powD ma mb) := PD.op op_pow (ops_I (fun i j h => of_decide_eq_true (p := 0 ≤ j ∧ j ≤ 1000000 ∧ i.natAbs < 2 ^ 64) h) fun _ _ _ _ => .int _) ha hb
def mUn (f : D → Option D) (a : ME) : ME := fun ρ δ => (a ρ δ).bind fun p => (f p.1).map fun z => (z, p.2)
def negD : D → Option D
  | .int i => some (.int (-i))
  | _ => none
theorem pd_neg (ha : PD X a ma) : PD X (.UnaryOp .USub a pos) (mUn negD ma) := by
  obtain ⟨ta, h1, s1⟩ := ha.ex
  refine ⟨_, pe_un un_neg h1, fun F σ H ρ δ d δ' G e Q q => ?_⟩
  obtain ⟨⟨x, δ1⟩, e1, e⟩ := Option.bind_eq_some_iff.mp e
  obtain ⟨z, e3, e⟩ := Option.map_eq_some_iff.mp e
  cases e
  refine s1 F σ H ρ δ x δ1 G e1 _ fun v H1 G1 M1 R1 => ?_
  cases R1 <;> first | (simp [negD] at e3; done) | skip
  simp only [negD, Option.some.injEq] at e3
  subst e3
  exact ⟨_, rfl, q _ _ G1 M1 (.int _)⟩

/-! ### comparisons -/
mutual
theorem Rep.dp {K M H} : ∀ {v d}, Rep K M H v d → d.canLay0 = true → Dp K H v d
  | _, _, .non, _ => .non
  | _, _, .bl b, _ => .bl b
  | _, _, .int i, _ => .int i
  | _, _, .str x, _ => .str x
  | _, _, .lst a r, h => .lst a.sq (Reps.dp r (by simpa [PyData.canLay0] using h))
  | _, _, .tup a r, h => .tup a.sq (Reps.dp r (by simpa [PyData.canLay0] using h))
  | _, _, .dic _ _ _, h => by simp [PyData.canLay0] at h
theorem Reps.dp {K M H} : ∀ {v d}, Reps K M H v d → PyData.canLayAll0 d = true → DpAll K H v d
  | _, _, .nil, _ => .nil
  | _, _, .cons r t, h => by
    simp only [PyData.canLayAll0, Bool.and_eq_true] at h
    exact .cons (Rep.dp r h.1) (Reps.dp t h.2)
end
def eqD (d e : D) : Option D := if SeqAt.shaped d && SeqAt.shaped e then some (.bool (PyData.eqv d e)) else none
def neD (d e : D) : Option D := if SeqAt.shaped d && SeqAt.shaped e then some (.bool (!PyData.eqv d e)) else none
theorem ops_eqD {K} : OpS K (rEqD K) eqD := fun F σ H ρ δ x y d e z G rx ry hz Q q => by
  unfold eqD at hz
  split at hz
  · rename_i h
    rw [Bool.and_eq_true] at h
    cases hz
    exact ⟨d, e, rx.dp (SeqAt.canLay_of_shaped h.1), ry.dp (SeqAt.canLay_of_shaped h.2), h.1, h.2, q _ H (fun _ _ h => h) (.bl _)⟩
  · cases hz
theorem ops_neD {K} : OpS K (rNeD K) neD := fun F σ H ρ δ x y d e z G rx ry hz Q q => by
  unfold neD at hz
  split at hz
  · rename_i h
    rw [Bool.and_eq_true] at h
    cases hz
    exact ⟨d, e, rx.dp (SeqAt.canLay_of_shaped h.1), ry.dp (SeqAt.canLay_of_shaped h.2), h.1, h.2, q _ H (fun _ _ h => h) (.bl _)⟩
  · cases hz
def strLt (i j : Str) : Bool := decide (i.cps.toList < j.cps.toList)
def ltD : D → D → Option D := fun d e => (onI (fun _ _ => true) (fun i j => .bool (decide (i < j))) d e).orElse fun _ => onS (fun _ _ => true) (fun i j => .bool (strLt i j)) d e
def leD : D → D → Option D := fun d e => (onI (fun _ _ => true) (fun i j => .bool (decide (i ≤ j))) d e).orElse fun _ => onS (fun _ _ => true) (fun i j => .bool (!strLt j i)) d e
def gtD : D → D → Option D := fun d e => (onI (fun _ _ => true) (fun i j => .bool (decide (j < i))) d e).orElse fun _ => onS (fun _ _ => true) (fun i j => .bool (strLt j i)) d e
def geD : D → D → Option D := fun d e => (onI (fun _ _ => true) (fun i j => .bool (decide (j ≤ i))) d e).orElse fun _ => onS (fun _ _ => true) (fun i j => .bool (!strLt i j)) d e

/-- a comparison's rule: the operator, its mirror -/
structure CmpS (X : Cx) (op : CmpOp) (f : D → D → Option D) : Prop where
  ex : ∃ r, OpR X (compareOp op) r ∧ OpS X.K r f
theorem cs_eq (hu : X.A.units + 64 < cLine) : CmpS X .Eq eqD := ⟨_, op_eqD hu, ops_eqD⟩
theorem cs_ne (hu : X.A.units + 64 < cLine) : CmpS X .NotEq neD := ⟨_, op_neD hu, ops_neD⟩
theorem cs_lt : CmpS X .Lt ltD := ⟨_, OpR.or op_lt op_lt_str, OpS.or (ops_I0 fun _ _ _ _ => .bl _) ops_cmpS⟩
theorem cs_le : CmpS X .LtE leD := ⟨_, OpR.or op_le op_le_str, OpS.or (ops_I0 fun _ _ _ _ => .bl _) (ops_cmpS (c := fun i j => !strLt j i))⟩
theorem cs_gt : CmpS X .Gt gtD := ⟨_, OpR.or op_gt op_gt_str, OpS.or (ops_I0 fun _ _ _ _ => .bl _) (ops_cmpS (c := fun i j => strLt j i))⟩
theorem cs_ge : CmpS X .GtE geD := ⟨_, OpR.or op_ge op_ge_str, OpS.or (ops_I0 fun _ _ _ _ => .bl _) (ops_cmpS (c := fun i j => !strLt i j))⟩

/-! in, not in: data in a list; flat things in a tuple; a text in a text -/
def flatD : D → Bool
  | .none => true | .bool _ => true | .int _ => true | .str _ => true | _ => false
def inL (neg : Bool) : D → D → Option D
  | d, .list ds => if SeqAt.shaped d && SeqAt.shaped (.list ds) then some (.bool (neg ^^ ds.any fun z => PyData.eqv z d)) else none
  | _, _ => none
theorem ops_inL {K} : OpS K (rInD K) (inL false) := fun F σ H ρ δ x y d e z G rx ry hz Q q => by
  unfold inL at hz
  split at hz
  · split at hz
    · rename_i h
      rw [Bool.and_eq_true] at h
      cases hz
      refine ⟨_, _, rx.dp (SeqAt.canLay_of_shaped h.1), ry.dp (SeqAt.canLay_of_shaped h.2), h.1, h.2, ?_⟩
      rw [Bool.false_xor] at q
      exact q _ H (fun _ _ h => h) (.bl _)
    · cases hz
  · cases hz
theorem ops_notInL {K} : OpS K (rNotInD K) (inL true) := fun F σ H ρ δ x y d e z G rx ry hz Q q => by
  unfold inL at hz
  split at hz
  · split at hz
    · rename_i h
      rw [Bool.and_eq_true] at h
      cases hz
      refine ⟨_, _, rx.dp (SeqAt.canLay_of_shaped h.1), ry.dp (SeqAt.canLay_of_shaped h.2), h.1, h.2, ?_⟩
      rw [Bool.true_xor] at q
      exact q _ H (fun _ _ h => h) (.bl _)
    · cases hz
  · cases hz
theorem Rep.flat {K M H v d} (r : Rep K M H v d) (h : flatD d = true) : flatV v = true := by cases r <;> first | rfl | simp [flatD] at h
theorem Reps.flatAll {K M H} : ∀ {vs ds}, Reps K M H vs ds → ds.all flatD = true → vs.all flatV = true
  | _, _, .nil, _ => rfl
  | _, _, .cons r t, h => by
    simp only [List.all_cons, Bool.and_eq_true] at h ⊢
    exact ⟨r.flat h.1, Reps.flatAll t h.2⟩
theorem Rep.eqv {K M H v w d e} (r : Rep K M H v d) (s : Rep K M H w e) (h : flatD d = true) (h' : flatD e = true) : eqV v w = PyData.eqv d e := by
  cases r <;> first | (simp [flatD] at h; done) | skip
  all_goals (cases s <;> first | (simp [flatD] at h'; done) | skip)
  all_goals simp [eqV, PyData.eqv]
theorem Reps.inV {K M H} {w e} (s : Rep K M H w e) (h' : flatD e = true) : ∀ {vs ds}, Reps K M H vs ds → ds.all flatD = true → L2.inV w vs = ds.any fun z => PyData.eqv z e
  | _, _, .nil, _ => rfl
  | _, _, .cons r t, h => by
    simp only [List.all_cons, Bool.and_eq_true] at h
    unfold L2.inV
    rw [List.any_cons, List.any_cons, r.eqv s h.1 h']
    congr 1
    exact Reps.inV s h' t h.2
def inT (neg : Bool) : D → D → Option D
  | d, .tuple ds => if flatD d && ds.all flatD then some (.bool (neg ^^ ds.any fun z => PyData.eqv z d)) else none
  | _, _ => none
theorem ops_inT {K neg} : OpS K (rIn K neg) (inT neg) := fun F σ H ρ δ x y d e z G rx ry hz Q q => by
  unfold inT at hz
  split at hz
  · split at hz
    · rename_i h
      rw [Bool.and_eq_true] at h
      cases hz
      cases ry with
      | @tup a vs _ ha r =>
        refine ⟨_, _, rfl, .inr ha.sq, rx.flat h.1, r.flatAll h.2, ?_⟩
        rw [r.inV rx h.1 h.2]
        cases neg with
        | true => rw [Bool.true_xor] at q; exact q _ H (fun _ _ h => h) (.bl _)
        | false => rw [Bool.false_xor] at q; exact q _ H (fun _ _ h => h) (.bl _)
    · cases hz
  · cases hz
def strIn (i j : Str) : Bool := !(Builtin.Str.occurrences j i 0 j.length 1).isEmpty
def inD (neg : Bool) : D → D → Option D := fun d e => (inL neg d e).orElse fun _ => (inT neg d e).orElse fun _ => onS (fun _ _ => true) (fun i j => .bool (neg ^^ strIn i j)) d e
theorem cs_in (hu : X.A.units + 65 < cLine) : CmpS X .In (inD false) := ⟨_, OpR.or (op_inD hu) (OpR.or op_in_seq op_in_str), OpS.or ops_inL (OpS.or ops_inT (by
  have := ops_cmpS (K := X.K) (c := fun i j => strIn i j)
  simp only [Bool.false_xor]
  exact this))⟩
theorem cs_notin (hu : X.A.units + 65 < cLine) : CmpS X .NotIn (inD true) := ⟨_, OpR.or (op_notInD hu) (OpR.or op_notIn_seq op_notin_str), OpS.or ops_notInL (OpS.or ops_inT (by
  have := ops_cmpS (K := X.K) (c := fun i j => !strIn i j)
  simp only [Bool.true_xor]
  exact this))⟩
theorem pd_cmp {op : CmpOp} {f : D → D → Option D} (c : CmpS X op f) (ha : PD X a ma) (hb : PD X b mb) (hm : behindInMarks op b = false) : PD X (.Compare a [op] [b] pos) (mBin f ma mb) := by
  obtain ⟨r, o, s⟩ := c.ex
  obtain ⟨ta, h1, s1⟩ := ha.ex
  obtain ⟨tb, h2, s2⟩ := hb.ex
  exact ⟨_, pe_cmpR o h1 h2 hm, snd_bin s s1 s2⟩
end
end PD

namespace PD
open PySem PySem.Spec PyProof.Rows L2
section
variable {X : Cx} {a b c : Expr} {ma mb mc : ME} {na nb : MT} {pos : Pos}

/-! ### a chain of two comparisons -/
def mChain (f g : D → D → Option D) (a b c : ME) : ME := fun ρ δ => (a ρ δ).bind fun p => (b ρ p.2).bind fun q => (f p.1 q.1).bind fun z => match z with
  | .bool true => (c ρ q.2).bind fun w => (g q.1 w.1).map fun y => (y, w.2)
  | .bool false => some (.bool false, q.2)
  | _ => none
theorem snd_chain {K r r' f g ta tb tc a b c} (o : OpS K r f) (o' : OpS K r' g) (ha : Snd K ta a) (hb : Snd K tb b) (hc : Snd K tc c) : Snd K (tChain r r' ta tb tc) (mChain f g a b c) := fun F σ H ρ δ d δ' G e Q q => by
  unfold mChain at e
  obtain ⟨⟨x, δ1⟩, e1, e⟩ := Option.bind_eq_some_iff.mp e
  obtain ⟨⟨y, δ2⟩, e2, e⟩ := Option.bind_eq_some_iff.mp e
  obtain ⟨z, e3, e⟩ := Option.bind_eq_some_iff.mp e
  refine ha F σ H ρ δ x δ1 G e1 _ fun v H1 G1 M1 R1 => hb F σ H1 ρ δ1 y δ2 G1 e2 _ fun u H2 G2 M2 R2 => ?_
  refine o F σ H2 ρ δ2 v u x y z G2 (R1.mv M2) R2 e3 _ fun w H3 k R3 => ?_
  have M3 : Mv (Mm F σ ρ) H (Mm F σ ρ) H3 := (M1.trans M2).trans (Mv.same k)
  split at e
  · cases R3
    refine ⟨true, rfl, iteT ?_⟩
    obtain ⟨⟨w, δ3⟩, e4, e⟩ := Option.bind_eq_some_iff.mp e
    obtain ⟨y', e5, e⟩ := Option.map_eq_some_iff.mp e
    cases e
    refine hc F σ H3 ρ δ2 w δ3 (G2.keep k) e4 _ fun t H4 G4 M4 R4 => ?_
    exact o' F σ H4 ρ δ3 u t y w _ G4 (R2.mv ((Mv.same k).trans M4)) R4 e5 _ fun w' H5 k' R5 => q _ _ (G4.keep k') ((M3.trans M4).trans (Mv.same k')) R5
  · cases R3
    cases e
    exact ⟨false, rfl, iteF (q _ _ (G2.keep k) M3 (.bl _))⟩
  · cases e
theorem pd_chain {op op' : CmpOp} {f g : D → D → Option D} (h : CmpS X op f) (h' : CmpS X op' g) (ha : PD X a ma) (hb : PD X b mb) (hc : PD X c mc) (hm : lastMarks [op, op'] [b, c] = false := by with_unfolding_all rfl) :
    PD X (.Compare a [op, op'] [b, c] pos) (mChain f g ma mb mc) := by
  obtain ⟨r, o, s⟩ := h.ex
  obtain ⟨r', o', s'⟩ := h'.ex
  obtain ⟨ta, h1, s1⟩ := ha.ex
  obtain ⟨tb, h2, s2⟩ := hb.ex
  obtain ⟨tc, h3, s3⟩ := hc.ex
  exact ⟨_, pe_chain o o' h1 h2 h3 hm, snd_chain s s' s1 s2 s3⟩

/-! ### tests -/
def truD : D → Option Bool
  | .none => some false
  | .bool b => some b
  | .int i => some (i != 0)
  | .str x => if x.length ≤ sizeLine then some ((x.length : Int) != 0) else none
  | .list ds => some !ds.isEmpty
  | .tuple ds => some !ds.isEmpty
  | .dict _ => none
def mTru (m : ME) : MT := fun ρ δ => (m ρ δ).bind fun p => (truD p.1).map fun b => (b, p.2)
/-- a bool alone -/
def mB (m : ME) : MT := fun ρ δ => (m ρ δ).bind fun p => match p.1 with
  | .bool b => some (b, p.2)
  | _ => none
theorem snd_test {K t m} (h : Snd K t m) : SndT K (tTest t) (mB m) := fun F σ H ρ δ d δ' G e Q q => by
  obtain ⟨⟨x, δ1⟩, e1, e⟩ := Option.bind_eq_some_iff.mp e
  refine h F σ H ρ δ x δ1 G e1 _ fun v H1 G1 M1 R1 => ?_
  dsimp only at e
  split at e
  · cases R1; cases e
    exact ⟨_, rfl, q _ G1 M1⟩
  · cases e
theorem Reps.emp {K M H vs ds} (r : Reps K M H vs ds) : vs.isEmpty = ds.isEmpty := by cases r <;> rfl
theorem RepK.emp {K M H vs ds} (r : RepK K M H vs ds) : vs.isEmpty = ds.isEmpty := by cases r <;> rfl
theorem Rep.tru {K M H v d b} (r : Rep K M H v d) (h : truD d = some b) : TruV K v H b := by
  cases r with
  | non => cases h; rfl
  | bl b => cases h; rfl
  | int i => cases h; rfl
  | str x =>
    simp only [truD] at h
    split at h
    · cases h; exact ⟨by assumption, rfl⟩
    · cases h
  | lst a r => cases h; exact .inl ⟨_, a.sq, by rw [r.emp]⟩
  | tup a r => cases h; exact .inr (.inl ⟨_, a.sq, by rw [r.emp]⟩)
  | dic n e r => cases h
theorem pdt_tru (ha : PD X a ma) (he : ∀ whole, isTrue a X.env whole = (do let v ← whole; standAt a.pos; holding [v] (truthy v)) := by intro _; rfl) : PDT X a (mTru ma) := by
  obtain ⟨ta, h1, s1⟩ := ha.ex
  refine ⟨_, pt_truth h1 he, fun F σ H ρ δ d δ' G e Q q => ?_⟩
  obtain ⟨⟨x, δ1⟩, e1, e⟩ := Option.bind_eq_some_iff.mp e
  obtain ⟨z, e3, e⟩ := Option.map_eq_some_iff.mp e
  cases e
  exact s1 F σ H ρ δ x δ1 G e1 _ fun v H1 G1 M1 R1 => ⟨_, R1.tru e3, q _ G1 M1⟩
theorem pdt_cmp {op : CmpOp} {f : D → D → Option D} (h : CmpS X op f) (ha : PD X a ma) (hb : PD X b mb) (hm : behindInMarks op b = false) : PDT X (.Compare a [op] [b] pos) (mB (mBin f ma mb)) := by
  obtain ⟨r, o, s⟩ := h.ex
  obtain ⟨ta, h1, s1⟩ := ha.ex
  obtain ⟨tb, h2, s2⟩ := hb.ex
  exact ⟨_, pt_cmpR o h1 h2 hm, snd_test (snd_bin s s1 s2)⟩
theorem pdt_chain {op op' : CmpOp} {f g : D → D → Option D} (h : CmpS X op f) (h' : CmpS X op' g) (ha : PD X a ma) (hb : PD X b mb) (hc : PD X c mc) (hm : lastMarks [op, op'] [b, c] = false := by with_unfolding_all rfl) :
    PDT X (.Compare a [op, op'] [b, c] pos) (mB (mChain f g ma mb mc)) := by
  obtain ⟨r, o, s⟩ := h.ex
  obtain ⟨r', o', s'⟩ := h'.ex
  obtain ⟨ta, h1, s1⟩ := ha.ex
  obtain ⟨tb, h2, s2⟩ := hb.ex
  obtain ⟨tc, h3, s3⟩ := hc.ex
  exact ⟨_, pt_chain o o' h1 h2 h3 hm, snd_test (snd_chain s s' s1 s2 s3)⟩
structure PDW (X : Cx) (e : Expr) (m : MT) : Prop where
  ex : ∃ t, PW X e t ∧ SndT X.K t m
theorem PDW.pt {e : Expr} {m : MT} (h : PDW X e m) : PDT X e m := by
  obtain ⟨t, h1, s1⟩ := h.ex
  exact ⟨_, h1.pt, s1⟩
def tAndM (a b : MT) : MT := fun ρ δ => (a ρ δ).bind fun p => if p.1 = true then b ρ p.2 else some (false, p.2)
def tOrM (a b : MT) : MT := fun ρ δ => (a ρ δ).bind fun p => if p.1 = true then some (true, p.2) else b ρ p.2
def tNotM (a : MT) : MT := fun ρ δ => (a ρ δ).map fun p => (!p.1, p.2)
theorem pdw_and1 (ha : PDT X a na) : PDW X (.BoolOp .And [a] pos) na := by
  obtain ⟨t, h1, s1⟩ := ha.ex
  exact ⟨_, pw_and1 h1, s1⟩
theorem pdw_or1 (ha : PDT X a na) : PDW X (.BoolOp .Or [a] pos) na := by
  obtain ⟨t, h1, s1⟩ := ha.ex
  exact ⟨_, pw_or1 h1, s1⟩
theorem pdw_and {rest : List Expr} (ha : PDT X a na) (hb : PDW X (.BoolOp .And (b :: rest) pos) nb) : PDW X (.BoolOp .And (a :: b :: rest) pos) (tAndM na nb) := by
  obtain ⟨t, h1, s1⟩ := ha.ex
  obtain ⟨u, h2, s2⟩ := hb.ex
  refine ⟨_, pw_and h1 h2, fun F σ H ρ δ d δ' G e Q q => ?_⟩
  obtain ⟨⟨x, δ1⟩, e1, e⟩ := Option.bind_eq_some_iff.mp e
  refine s1 F σ H ρ δ x δ1 G e1 _ fun H1 G1 M1 => ?_
  cases x with
  | true => exact iteT (s2 F σ H1 ρ δ1 d δ' G1 e _ fun H2 G2 M2 => q _ G2 (M1.trans M2))
  | false => cases e; exact iteF (q _ G1 M1)
theorem pdw_or {rest : List Expr} (ha : PDT X a na) (hb : PDW X (.BoolOp .Or (b :: rest) pos) nb) : PDW X (.BoolOp .Or (a :: b :: rest) pos) (tOrM na nb) := by
  obtain ⟨t, h1, s1⟩ := ha.ex
  obtain ⟨u, h2, s2⟩ := hb.ex
  refine ⟨_, pw_or h1 h2, fun F σ H ρ δ d δ' G e Q q => ?_⟩
  obtain ⟨⟨x, δ1⟩, e1, e⟩ := Option.bind_eq_some_iff.mp e
  refine s1 F σ H ρ δ x δ1 G e1 _ fun H1 G1 M1 => ?_
  cases x with
  | false => exact iteF (s2 F σ H1 ρ δ1 d δ' G1 e _ fun H2 G2 M2 => q _ G2 (M1.trans M2))
  | true => cases e; exact iteT (q _ G1 M1)
theorem pdt_not (ha : PDT X a na) : PDT X (.UnaryOp .Not a pos) (tNotM na) := by
  obtain ⟨t, h1, s1⟩ := ha.ex
  refine ⟨_, pt_not h1, fun F σ H ρ δ d δ' G e Q q => ?_⟩
  obtain ⟨⟨x, δ1⟩, e1, e⟩ := Option.map_eq_some_iff.mp e
  cases e
  exact s1 F σ H ρ δ x δ1 G e1 _ fun H1 G1 M1 => q _ G1 M1

/-! values of and, or, not; a if t else b -/
def mAnd (a b : ME) : ME := fun ρ δ => (a ρ δ).bind fun p => match p.1 with
  | .bool true => b ρ p.2
  | .bool false => some (.bool false, p.2)
  | _ => none
def mOr (a b : ME) : ME := fun ρ δ => (a ρ δ).bind fun p => match p.1 with
  | .bool true => some (.bool true, p.2)
  | .bool false => b ρ p.2
  | _ => none
def notD : D → Option D
  | .bool b => some (.bool !b)
  | _ => none
theorem pd_one {op} (h : PD X a ma) : PD X (.BoolOp op [a] pos) ma := by
  obtain ⟨t, h1, s1⟩ := h.ex
  exact ⟨_, pe_one h1, s1⟩
theorem pd_and {rest : List Expr} (ha : PD X a ma) (hb : PD X (.BoolOp .And (b :: rest) pos) mb) : PD X (.BoolOp .And (a :: b :: rest) pos) (mAnd ma mb) := by
  obtain ⟨t, h1, s1⟩ := ha.ex
  obtain ⟨u, h2, s2⟩ := hb.ex
  refine ⟨_, pe_and h1 h2, fun F σ H ρ δ d δ' G e Q q => ?_⟩
  obtain ⟨⟨x, δ1⟩, e1, e⟩ := Option.bind_eq_some_iff.mp e
  refine s1 F σ H ρ δ x δ1 G e1 _ fun v H1 G1 M1 R1 => ?_
  dsimp only at e
  split at e
  · cases R1; exact ⟨_, rfl, iteT (s2 F σ H1 ρ δ1 d δ' G1 e _ fun v H2 G2 M2 R2 => q _ _ G2 (M1.trans M2) R2)⟩
  · cases R1; cases e; exact ⟨_, rfl, iteF (q _ _ G1 M1 (.bl _))⟩
  · cases e
theorem pd_or {rest : List Expr} (ha : PD X a ma) (hb : PD X (.BoolOp .Or (b :: rest) pos) mb) : PD X (.BoolOp .Or (a :: b :: rest) pos) (mOr ma mb) := by
  obtain ⟨t, h1, s1⟩ := ha.ex
  obtain ⟨u, h2, s2⟩ := hb.ex
  refine ⟨_, pe_or h1 h2, fun F σ H ρ δ d δ' G e Q q => ?_⟩
  obtain ⟨⟨x, δ1⟩, e1, e⟩ := Option.bind_eq_some_iff.mp e
  refine s1 F σ H ρ δ x δ1 G e1 _ fun v H1 G1 M1 R1 => ?_
  dsimp only at e
  split at e
  · cases R1; cases e; exact ⟨_, rfl, iteT (q _ _ G1 M1 (.bl _))⟩
  · cases R1; exact ⟨_, rfl, iteF (s2 F σ H1 ρ δ1 d δ' G1 e _ fun v H2 G2 M2 R2 => q _ _ G2 (M1.trans M2) R2)⟩
  · cases e
theorem pd_not (ha : PD X a ma) : PD X (.UnaryOp .Not a pos) (mUn notD ma) := by
  obtain ⟨ta, h1, s1⟩ := ha.ex
  refine ⟨_, pe_not h1, fun F σ H ρ δ d δ' G e Q q => ?_⟩
  obtain ⟨⟨x, δ1⟩, e1, e⟩ := Option.bind_eq_some_iff.mp e
  obtain ⟨z, e3, e⟩ := Option.map_eq_some_iff.mp e
  cases e
  refine s1 F σ H ρ δ x δ1 G e1 _ fun v H1 G1 M1 R1 => ?_
  cases R1 <;> first | (simp [notD] at e3; done) | skip
  simp only [notD, Option.some.injEq] at e3
  subst e3
  exact ⟨_, rfl, q _ _ G1 M1 (.bl _)⟩
def mIf (t : MT) (a b : ME) : ME := fun ρ δ => (t ρ δ).bind fun p => if p.1 = true then a ρ p.2 else b ρ p.2
theorem pd_ifExp (hc : PDT X c na) (ha : PD X a ma) (hb : PD X b mb) : PD X (.IfExp c a b pos) (mIf na ma mb) := by
  obtain ⟨t, h0, s0⟩ := hc.ex
  obtain ⟨ta, h1, s1⟩ := ha.ex
  obtain ⟨tb, h2, s2⟩ := hb.ex
  refine ⟨_, pe_ifExp h0 h1 h2, fun F σ H ρ δ d δ' G e Q q => ?_⟩
  obtain ⟨⟨x, δ1⟩, e1, e⟩ := Option.bind_eq_some_iff.mp e
  refine s0 F σ H ρ δ x δ1 G e1 _ fun H1 G1 M1 => ?_
  cases x with
  | true => exact iteT (s1 F σ H1 ρ δ1 d δ' G1 e _ fun v H2 G2 M2 R2 => q _ _ G2 (M1.trans M2) R2)
  | false => exact iteF (s2 F σ H1 ρ δ1 d δ' G1 e _ fun v H2 G2 M2 R2 => q _ _ G2 (M1.trans M2) R2)

/-! ### arguments, displays -/
def mNil : MA := fun _ δ => some ([], δ)
def mCons (a : ME) (r : MA) : MA := fun ρ δ => (a ρ δ).bind fun p => (r ρ p.2).map fun q => (p.1 :: q.1, q.2)
theorem snd_nil {K} : SndA K tNil mNil := fun F σ H ρ δ d δ' G e Q q => by
  cases e
  exact q _ _ G (Mv.refl _ _) .nil
theorem snd_cons {K t u m r} (h : Snd K t m) (g : SndA K u r) : SndA K (tCons t u) (mCons m r) := fun F σ H ρ δ d δ' G e Q q => by
  obtain ⟨⟨x, δ1⟩, e1, e⟩ := Option.bind_eq_some_iff.mp e
  obtain ⟨⟨y, δ2⟩, e2, e⟩ := Option.map_eq_some_iff.mp e
  cases e
  exact h F σ H ρ δ x δ1 G e1 _ fun v H1 G1 M1 R1 => g F σ H1 ρ δ1 y _ G1 e2 _ fun vs H2 G2 M2 R2 => q _ _ G2 (M1.trans M2) (.cons (R1.mv M2) R2)
theorem pda_nil : PDA X [] mNil := ⟨_, pa_nil, snd_nil⟩
theorem pda_cons {e : Expr} {es : List Expr} {m : ME} {r : MA} (h : PD X e m) (g : PDA X es r) (hs : starEach (e :: es) X.env = (false, eval e X.env) :: starEach es X.env := by rfl) : PDA X (e :: es) (mCons m r) := by
  obtain ⟨t, h1, s1⟩ := h.ex
  obtain ⟨u, h2, s2⟩ := g.ex
  exact ⟨_, pa_cons h1 h2 hs, snd_cons s1 s2⟩
def mTup (r : MA) : ME := fun ρ δ => (r ρ δ).bind fun p => if p.1.length ≤ sizeLine then some (.tuple p.1, p.2) else none
def mLst (r : MA) : ME := fun ρ δ => (r ρ δ).bind fun p => if p.1.length ≤ sizeLine then some (.list p.1, p.2) else none
theorem pd_tup {es : List Expr} {r : MA} {k} (h : PDA X es r) : PD X (.Tuple es k pos) (mTup r) := by
  obtain ⟨t, h1, s1⟩ := h.ex
  refine ⟨_, pe_tup h1, fun F σ H ρ δ d δ' G e Q q => ?_⟩
  obtain ⟨⟨x, δ1⟩, e1, e⟩ := Option.bind_eq_some_iff.mp e
  dsimp only at e
  split at e
  · rename_i hl
    cases e
    refine s1 F σ H ρ δ x _ G e1 _ fun vs H1 G1 M1 R1 => ⟨by rw [R1.length]; exact hl, fun p hp => ?_⟩
    have k := upd_keeps (o := .tup vs) hp
    exact q _ _ (G1.keep k) (M1.trans (Mv.same k)) (.tup (.inl ⟨G1.mfree hp, .inl upd_same⟩) (R1.mv (Mv.same k)))
  · cases e
theorem pd_lst {es : List Expr} {r : MA} (h : PDA X es r) : PD X (.List es pos) (mLst r) := by
  obtain ⟨t, h1, s1⟩ := h.ex
  refine ⟨_, pe_lst h1, fun F σ H ρ δ d δ' G e Q q => ?_⟩
  obtain ⟨⟨x, δ1⟩, e1, e⟩ := Option.bind_eq_some_iff.mp e
  dsimp only at e
  split at e
  · rename_i hl
    cases e
    refine s1 F σ H ρ δ x _ G e1 _ fun vs H1 G1 M1 R1 => ⟨by rw [R1.length]; exact hl, fun p hp => ?_⟩
    have k := upd_keeps (o := .lst vs) hp
    exact q _ _ (G1.keep k) (M1.trans (Mv.same k)) (.lst ⟨G1.mfree hp, upd_same⟩ (R1.mv (Mv.same k)))
  · cases e

/-! ### subscripts -/
def ixD : D → D → Option D
  | .list ds, .int i => atI ds i
  | .tuple ds, .int i => atI ds i
  | .str x, .int i => if x.length ≤ sizeLine then (atI x.cps.toList i).map fun c => .str ⟨#[c]⟩ else none
  | _, _ => none
theorem Reps.atI {K M H vs ds i d} (r : Reps K M H vs ds) (h : L2.atI ds i = some d) : ∃ v, L2.atI vs i = some v ∧ Rep K M H v d := by
  unfold L2.atI at h ⊢
  obtain ⟨j, e1, e2⟩ := Option.bind_eq_some_iff.mp h
  rw [r.length, e1]
  exact r.get' e2
theorem ops_ix {K} : OpS K (rIx K) ixD := fun F σ H ρ δ x y d e z G rx ry hz Q q => by
  cases rx with
  | lst a r =>
    cases ry <;> first | (simp [ixD] at hz; done) | skip
    obtain ⟨v, e1, r1⟩ := r.atI hz
    exact .inl ⟨_, _, _, v, rfl, rfl, a.sq, e1, q _ _ (fun _ _ h => h) r1⟩
  | tup a r =>
    cases ry <;> first | (simp [ixD] at hz; done) | skip
    obtain ⟨v, e1, r1⟩ := r.atI hz
    exact .inr (.inl ⟨_, _, _, v, rfl, rfl, a.sq, e1, q _ _ (fun _ _ h => h) r1⟩)
  | str x =>
    cases ry <;> first | (simp [ixD] at hz; done) | skip
    simp only [ixD] at hz
    split at hz
    · rename_i hl
      obtain ⟨c, e1, e2⟩ := Option.map_eq_some_iff.mp hz
      subst e2
      exact .inr (.inr ⟨_, _, c, rfl, rfl, hl, e1, q _ _ (fun _ _ h => h) (.str _)⟩)
    · cases hz
  | _ => simp [ixD] at hz
def lookD : List (D × D) → D → Option D
  | [], _ => none
  | (.int i, v) :: r, .int j => if i = j then some v else lookD r (.int j)
  | (.str i, v) :: r, .str j => if i = j then some v else lookD r (.str j)
  | _ :: r, k => lookD r k
def dgetD : D → D → Option D
  | .dict es, k => lookD es k
  | _, _ => none
theorem valV_cons {κ : Type} [DecidableEq κ] {k j : κ} {v : V} {r : List (κ × V)} : valV ((k, v) :: r) j = if k = j then some v else valV r j := by
  unfold valV
  rw [List.find?_cons]
  by_cases h : k = j
  · simp [h]
  · simp [h]
theorem RepK.look {K M H} : ∀ {kvs es} {k : Key} {z}, RepK K M H kvs es → lookD es (keyD k) = some z → ∃ v, valV kvs k = some v ∧ Rep K M H v z
  | _, _, _, _, .nil, h => by simp [lookD] at h
  | _, _, k, z, .cons (k := k') r t, h => by
    rw [valV_cons]
    cases k' with
    | inl i =>
      cases k with
      | inl j =>
        simp only [keyD, lookD] at h
        by_cases hj : i = j
        · subst hj; rw [if_pos rfl] at h; cases h; exact ⟨_, if_pos rfl, r⟩
        · rw [if_neg hj] at h
          obtain ⟨v, e, r'⟩ := RepK.look (k := .inl j) t h
          exact ⟨v, by rw [if_neg (fun q => hj (Sum.inl.inj q))]; exact e, r'⟩
      | inr j =>
        simp only [keyD, lookD] at h
        obtain ⟨v, e, r'⟩ := RepK.look (k := .inr j) t h
        exact ⟨v, by rw [if_neg (fun q => nomatch q)]; exact e, r'⟩
    | inr i =>
      cases k with
      | inr j =>
        simp only [keyD, lookD] at h
        by_cases hj : i = j
        · subst hj; rw [if_pos rfl] at h; cases h; exact ⟨_, if_pos rfl, r⟩
        · rw [if_neg hj] at h
          obtain ⟨v, e, r'⟩ := RepK.look (k := .inr j) t h
          exact ⟨v, by rw [if_neg (fun q => hj (Sum.inr.inj q))]; exact e, r'⟩
      | inl j =>
        simp only [keyD, lookD] at h
        obtain ⟨v, e, r'⟩ := RepK.look (k := .inl j) t h
        exact ⟨v, by rw [if_neg (fun q => nomatch q)]; exact e, r'⟩
def keyOf : D → Option Key
  | .int i => some (.inl i)
  | .str x => some (.inr x)
  | _ => none
theorem lookD_key : ∀ {es : List (D × D)} {k z : D}, lookD es k = some z → (∀ p ∈ es, ∃ j, p.1 = keyD j) → ∃ j, k = keyD j
  | [], _, _, h, _ => by simp [lookD] at h
  | (e, v) :: r, k, z, h, ha => by
    obtain ⟨j, hj⟩ := ha (e, v) (.head _)
    cases k with
    | int i => exact ⟨.inl i, rfl⟩
    | str i => exact ⟨.inr i, rfl⟩
    | _ =>
      dsimp only at hj
      subst hj
      cases j <;> (simp only [keyD, lookD] at h; exact lookD_key h fun p hp => ha p (.tail _ hp))
theorem RepK.keys {K M H} : ∀ {kvs es}, RepK K M H kvs es → ∀ p ∈ es, ∃ j, p.1 = keyD j
  | _, _, .nil, _, h => by simp at h
  | _, _, .cons (k := k) r t, p, h => by
    rcases List.mem_cons.mp h with h | h
    · subst h; exact ⟨k, rfl⟩
    · exact RepK.keys t p h
theorem kV_rep {K M H v} {k : Key} (r : Rep K M H v (keyD k)) : v = kV k := by cases k <;> (cases r; rfl)
theorem keyOf_rep {K M H v d k} (r : Rep K M H v d) (h : keyOf d = some k) : v = kV k := by
  cases d <;> simp only [keyOf, Option.some.injEq, reduceCtorEq] at h <;> (subst h; cases r; rfl)
def subD' : D → D → Option D := fun d e => (ixD d e).orElse fun _ => dgetD d e
theorem pd_ix (hu : X.A.units + 1 < cLine) (ha : PD X a ma) (hb : PD X b mb) (hs : PlainIx b := by exact fun _ _ => rfl) : PD X (.Subscript a b pos) (mBin subD' ma mb) := by
  obtain ⟨ta, h1, s1⟩ := ha.ex
  obtain ⟨tb, h2, s2⟩ := hb.ex
  have p1 := pe_ix (pos := pos) ix_seq h1 h2 hs
  have p2 := pe_dget (pos := pos) hu h1 h2 hs
  refine ⟨fun σ H Q => tOp (rIx X.K) ta tb σ H Q ∨ tDGet ta tb σ H Q, ⟨fun pins s σ H Q I q => q.elim (fun q => p1.run pins s σ H Q I q) (fun q => p2.run pins s σ H Q I q)⟩, fun F σ H ρ δ d δ' G e Q q => ?_⟩
  unfold mBin at e
  obtain ⟨⟨x, δ1⟩, e1, e⟩ := Option.bind_eq_some_iff.mp e
  obtain ⟨⟨y, δ2⟩, e2, e⟩ := Option.bind_eq_some_iff.mp e
  obtain ⟨z, e3, e⟩ := Option.map_eq_some_iff.mp e
  cases e
  unfold subD' at e3
  cases hx : ixD x y with
  | some w =>
    left
    rw [hx] at e3; cases e3
    exact snd_bin ops_ix s1 s2 F σ H ρ δ _ _ G (by unfold mBin; rw [e1]; simp only [Option.bind_some]; rw [e2]; simp only [Option.bind_some]; rw [hx]; rfl) Q q
  | none =>
    right
    rw [hx] at e3
    refine s1 F σ H ρ δ x δ1 G e1 _ fun v H1 G1 M1 R1 => s2 F σ H1 ρ δ1 y _ G1 e2 _ fun u H2 G2 M2 R2 => ?_
    have R1' := R1.mv M2
    replace e3 : dgetD x y = some d := e3
    unfold dgetD at e3
    split at e3
    · cases R1' with
      | dic n he r =>
        obtain ⟨j, hj⟩ := lookD_key e3 r.keys
        subst hj
        obtain ⟨v', e4, r4⟩ := r.look e3
        have := kV_rep R2
        subst this
        refine ⟨_, v', rfl, ?_, q _ _ G2 (M1.trans M2) r4⟩
        rw [← e4]
        exact .inl ⟨_, _, he, rfl, rfl⟩
    · cases e3

/-! ### slices -/
def cutD (ds : List D) (lo hi : Option Int) : List D := (ds.drop (HT.sIx ds.length 0 lo)).take (HT.sIx ds.length ds.length hi - HT.sIx ds.length 0 lo)
def slD (lo hi : Option Int) : D → Option D
  | .list ds => some (.list (cutD ds lo hi))
  | .tuple ds => some (.tuple (cutD ds lo hi))
  | .str x => if x.length ≤ sizeLine then some (.str (cutS x lo hi)) else none
  | _ => none
theorem Reps.cut {K M H vs ds lo hi} (r : Reps K M H vs ds) : Reps K M H (cutV vs lo hi) (cutD ds lo hi) := by
  unfold cutV cutD
  rw [r.length]
  exact (r.drop _).take _
theorem Reps.whole {K M H vs ds lo hi} (r : Reps K M H vs ds) (h : HT.sIx vs.length 0 lo = 0 ∧ HT.sIx vs.length vs.length hi = vs.length) : Reps K M H vs (cutD ds lo hi) := by
  unfold cutD
  rw [r.length] at h
  rw [h.1, h.2, List.drop_zero, Nat.sub_zero, List.take_length]
  exact r
abbrev MO := List Sl → Dk → Option (Option Int × Dk)
structure PDO (X : Cx) (e : Option Expr) (m : MO) : Prop where
  ex : ∃ t, PO X e t ∧ ∀ F σ H ρ δ d δ', Good X.K F σ H ρ δ → m ρ δ = some (d, δ') → ∀ Q : Option Int → Hp → Prop, (∀ H', Good X.K F σ H' ρ δ' → Mv (Mm F σ ρ) H (Mm F σ ρ) H' → Q d H') → t σ H Q
def oNo : MO := fun _ δ => some (none, δ)
def oSome (m : ME) : MO := fun ρ δ => (m ρ δ).bind fun p => match p.1 with
  | .int i => some (some i, p.2)
  | _ => none
theorem pdo_no : PDO X none oNo := ⟨_, po_none, fun F σ H ρ δ d δ' G e Q q => by cases e; exact q _ G (Mv.refl _ _)⟩
theorem pdo_some (h : PD X a ma) : PDO X (some a) (oSome ma) := by
  obtain ⟨t, h1, s1⟩ := h.ex
  refine ⟨_, po_some h1, fun F σ H ρ δ d δ' G e Q q => ?_⟩
  obtain ⟨⟨x, δ1⟩, e1, e⟩ := Option.bind_eq_some_iff.mp e
  refine s1 F σ H ρ δ x δ1 G e1 _ fun v H1 G1 M1 R1 => ?_
  dsimp only at e
  split at e
  · cases R1; cases e; exact ⟨_, rfl, q _ G1 M1⟩
  · cases e
def mSl (a : ME) (lo hi : MO) : ME := fun ρ δ => (a ρ δ).bind fun p => (lo ρ p.2).bind fun l => (hi ρ l.2).bind fun h => (slD l.1 h.1 p.1).map fun z => (z, h.2)
theorem pd_sl {lo hi : Option Expr} {ml mh : MO} {p2 : Pos} (ha : PD X a ma) (hl : PDO X lo ml) (hh : PDO X hi mh) : PD X (.Subscript a (.Slice lo hi none p2) pos) (mSl ma ml mh) := by
  obtain ⟨t, h1, s1⟩ := ha.ex
  obtain ⟨tl, h2, s2⟩ := hl.ex
  obtain ⟨th, h3, s3⟩ := hh.ex
  refine ⟨_, pe_slice (sl_list.or (sl_tupA.or sl_str)) h1 h2 h3, fun F σ H ρ δ d δ' G e Q q => ?_⟩
  obtain ⟨⟨x, δ1⟩, e1, e⟩ := Option.bind_eq_some_iff.mp e
  obtain ⟨⟨l, δ2⟩, e2, e⟩ := Option.bind_eq_some_iff.mp e
  obtain ⟨⟨u, δ3⟩, e3, e⟩ := Option.bind_eq_some_iff.mp e
  obtain ⟨z, e4, e⟩ := Option.map_eq_some_iff.mp e
  cases e
  refine s1 F σ H ρ δ x δ1 G e1 _ fun v H1 G1 M1 R1 => s2 F σ H1 ρ δ1 l δ2 G1 e2 _ fun H2 G2 M2 => s3 F σ H2 ρ δ2 u _ G2 e3 _ fun H3 G3 M3 => ?_
  have R := (R1.mv M2).mv M3
  have MM := (M1.trans M2).trans M3
  cases R with
  | @lst a vs _ ha r =>
    cases e4
    refine .inl ⟨_, _, rfl, ha.sq, fun p hp => ?_⟩
    have k := upd_keeps (o := .lst (cutV vs l u)) hp
    exact q _ _ (G3.keep k) (MM.trans (Mv.same k)) (.lst ⟨G3.mfree hp, upd_same⟩ (r.cut.mv (Mv.same k)))
  | @tup a vs _ ha r =>
    cases e4
    refine .inr (.inl ⟨_, _, rfl, ha.sq, fun hw => q _ _ G3 MM (.tup ha (r.whole hw)), fun _ p hp => ?_⟩)
    have k := upd_keeps (o := .tup (cutV vs l u)) hp
    exact q _ _ (G3.keep k) (MM.trans (Mv.same k)) (.tup (.inl ⟨G3.mfree hp, .inl upd_same⟩) (r.cut.mv (Mv.same k)))
  | str x =>
    simp only [slD] at e4
    split at e4
    · rename_i hl
      cases e4
      exact .inr (.inr ⟨_, rfl, hl, q _ _ G3 MM (.str _)⟩)
    · cases e4
  | _ => simp [slD] at e4
end
end PD

namespace PD
open PySem PySem.Spec PyProof.Rows L2
/-! ### built-ins by values -/
def CallS (K : PySem.W.Frag) (r : List V → Hp → VK → Prop) (f : List D → Option D) : Prop := ∀ F σ H ρ δ xs ds z, Good K F σ H ρ δ → Reps K (Mm F σ ρ) H xs ds → f ds = some z → ∀ Q : VK,
  (∀ v H', (∀ a o, H a = some o → H' a = some o) → Rep K (Mm F σ ρ) H' v z → Q v H') → r xs H Q
def mCall (f : List D → Option D) (r : MA) : ME := fun ρ δ => (r ρ δ).bind fun p => (f p.1).map fun z => (z, p.2)
theorem snd_cb {K r f t m} (h : CallS K r f) (ha : SndA K t m) : Snd K (tCB r t) (mCall f m) := fun F σ H ρ δ d δ' G e Q q => by
  obtain ⟨⟨x, δ1⟩, e1, e⟩ := Option.bind_eq_some_iff.mp e
  obtain ⟨z, e3, e⟩ := Option.map_eq_some_iff.mp e
  cases e
  exact ha F σ H ρ δ x _ G e1 _ fun vs H1 G1 M1 R1 => h F σ H1 ρ _ vs x _ G1 R1 e3 Q fun v H2 k R2 => q v H2 (G1.keep k) (M1.trans (Mv.same k)) R2
theorem nokeep {H : Hp} : ∀ a o, H a = some o → H a = some o := fun _ _ h => h
section
variable {X : Cx} {a b c e : Expr} {es : List Expr} {ma mb mc : ME} {r : MA} {p pos : Pos}
theorem pd_cb {x : Str} {id : String} {rr : List V → Hp → VK → Prop} {f : List D → Option D} (hv : bootBuiltins x = some (.builtin id)) (hc : CallR X (.builtin id) rr) (hs : CallS X.K rr f) (ha : PDA X (e :: es) r) (hg : Gl X x) (hm : X.mg x = none) (hn : x ≠ "__name__") (hdb : (x == ("__debug__" : Str)) = false)
    (he : starEach (e :: es) X.env = (false, eval e X.env) :: starEach es X.env) (hpl : (backTo pos (starEach es X.env)).any (·.1) = false) : PD X (.Call (.Name x p) (e :: es) [] pos) (mCall f r) := by
  obtain ⟨t, h1, s1⟩ := ha.ex
  exact ⟨_, pe_callB hc hg hm hv h1 hn hdb he hpl, snd_cb hs s1⟩
theorem pd_ct {x : Str} {T : String} {rr : List V → Hp → VK → Prop} {f : List D → Option D} (hv : bootBuiltins x = some (.type T)) (hc : CallR X (.type T) rr) (hs : CallS X.K rr f) (ha : PDA X (e :: es) r) (hg : Gl X x) (hm : X.mg x = none) (hn : x ≠ "__name__") (hdb : (x == ("__debug__" : Str)) = false)
    (he : starEach (e :: es) X.env = (false, eval e X.env) :: starEach es X.env) (hpl : (backTo pos (starEach es X.env)).any (·.1) = false) : PD X (.Call (.Name x p) (e :: es) [] pos) (mCall f r) := by
  obtain ⟨t, h1, s1⟩ := ha.ex
  exact ⟨_, pe_callTy hc hg hm hv h1 hn hdb he hpl, snd_cb hs s1⟩

def lenD : List D → Option D
  | [.list ds] => some (.int ds.length)
  | [.tuple ds] => some (.int ds.length)
  | [.str x] => if x.length ≤ sizeLine then some (.int x.length) else none
  | _ => none
theorem reps1 {K M H vs d} (r : Reps K M H vs [d]) : ∃ v, vs = [v] ∧ Rep K M H v d := by
  cases r with | cons r t => cases t; exact ⟨_, rfl, r⟩
theorem reps2 {K M H vs d e} (r : Reps K M H vs [d, e]) : ∃ v w, vs = [v, w] ∧ Rep K M H v d ∧ Rep K M H w e := by
  cases r with | cons r t => cases t with | cons r' t => cases t; exact ⟨_, _, rfl, r, r'⟩
theorem cs_len {K} : CallS K (fun xs H Q => ∃ x n, xs = [x] ∧ LenV K x H n ∧ Q (.int n) H) lenD := fun F σ H ρ δ xs ds z G R hz Q q => by
  unfold lenD at hz
  split at hz
  · cases hz
    obtain ⟨v, rfl, r⟩ := reps1 R
    cases r with
    | lst a r => exact ⟨_, _, rfl, .inl ⟨_, a.sq, rfl⟩, by rw [r.length]; exact q _ _ nokeep (.int _)⟩
  · cases hz
    obtain ⟨v, rfl, r⟩ := reps1 R
    cases r with
    | tup a r => exact ⟨_, _, rfl, .inr ⟨_, a.sq, rfl⟩, by rw [r.length]; exact q _ _ nokeep (.int _)⟩
  · split at hz
    · rename_i hl
      cases hz
      obtain ⟨v, rfl, r⟩ := reps1 R
      cases r
      exact ⟨_, _, rfl, ⟨hl, rfl⟩, q _ _ nokeep (.int _)⟩
    · cases hz
  · cases hz
def absD : List D → Option D
  | [.int i] => some (.int (if i < 0 then -i else i))
  | _ => none
theorem cs_abs {K} : CallS K (fun xs H Q => ∃ i, xs = [.int i] ∧ Q (.int (if i < 0 then -i else i)) H) absD := fun F σ H ρ δ xs ds z G R hz Q q => by
  unfold absD at hz
  split at hz
  · cases hz
    obtain ⟨v, rfl, r⟩ := reps1 R
    cases r
    exact ⟨_, rfl, q _ _ nokeep (.int _)⟩
  · cases hz
def maxD : List D → Option D
  | [.int i, .int j] => some (.int (if j > i then j else i))
  | _ => none
def minD : List D → Option D
  | [.int i, .int j] => some (.int (if j < i then j else i))
  | _ => none
theorem cs_max {K} : CallS K (fun xs H Q => ∃ i j, xs = [.int i, .int j] ∧ Q (.int (if j > i then j else i)) H) maxD := fun F σ H ρ δ xs ds z G R hz Q q => by
  unfold maxD at hz
  split at hz
  · cases hz
    obtain ⟨v, w, rfl, r, r'⟩ := reps2 R
    cases r; cases r'
    exact ⟨_, _, rfl, q _ _ nokeep (.int _)⟩
  · cases hz
theorem cs_min {K} : CallS K (fun xs H Q => ∃ i j, xs = [.int i, .int j] ∧ Q (.int (if j < i then j else i)) H) minD := fun F σ H ρ δ xs ds z G R hz Q q => by
  unfold minD at hz
  split at hz
  · cases hz
    obtain ⟨v, w, rfl, r, r'⟩ := reps2 R
    cases r; cases r'
    exact ⟨_, _, rfl, q _ _ nokeep (.int _)⟩
  · cases hz
def intD : List D → Option D
  | [.int i] => some (.int i)
  | [.bool k] => some (.int (if k then 1 else 0))
  | _ => none
theorem cs_int {K} : CallS K (fun xs H Q => (∃ i, xs = [.int i] ∧ Q (.int i) H) ∨ ∃ k, xs = [.bl k] ∧ Q (.int (if k then 1 else 0)) H) intD := fun F σ H ρ δ xs ds z G R hz Q q => by
  unfold intD at hz
  split at hz
  · cases hz
    obtain ⟨v, rfl, r⟩ := reps1 R
    cases r
    exact .inl ⟨_, rfl, q _ _ nokeep (.int _)⟩
  · cases hz
    obtain ⟨v, rfl, r⟩ := reps1 R
    cases r
    exact .inr ⟨_, rfl, q _ _ nokeep (.int _)⟩
  · cases hz
def listD : List D → Option D
  | [.list ds] => some (.list ds)
  | [.tuple ds] => some (.list ds)
  | _ => none
theorem cs_list {K} : CallS K (fun xs H Q => ∃ p ys, xs = [.ref p] ∧ (SqL K H p ys ∨ SqT K H p ys) ∧ ∀ l, H l = none → Q (.ref l) (upd H l (.lst ys))) listD := fun F σ H ρ δ xs ds z G R hz Q q => by
  unfold listD at hz
  split at hz
  · cases hz
    obtain ⟨v, rfl, r⟩ := reps1 R
    cases r with
    | @lst a vs _ ha r =>
      refine ⟨_, _, rfl, .inl ha.sq, fun p hp => ?_⟩
      have k := upd_keeps (o := .lst vs) hp
      exact q _ _ k (.lst ⟨G.mfree hp, upd_same⟩ (r.mv (Mv.same k)))
  · cases hz
    obtain ⟨v, rfl, r⟩ := reps1 R
    cases r with
    | @tup a vs _ ha r =>
      refine ⟨_, _, rfl, .inr ha.sq, fun p hp => ?_⟩
      have k := upd_keeps (o := .lst vs) hp
      exact q _ _ k (.lst ⟨G.mfree hp, upd_same⟩ (r.mv (Mv.same k)))
  · cases hz
def tupD : List D → Option D
  | [.list ds] => some (.tuple ds)
  | [.tuple ds] => some (.tuple ds)
  | _ => none
theorem cs_tup {K} : CallS K (fun xs H Q => ∃ p ys, xs = [.ref p] ∧ ((SqL K H p ys ∧ ∀ l, H l = none → Q (.ref l) (upd H l (.tup ys))) ∨ (SqT K H p ys ∧ Q (.ref p) H))) tupD := fun F σ H ρ δ xs ds z G R hz Q q => by
  unfold tupD at hz
  split at hz
  · cases hz
    obtain ⟨v, rfl, r⟩ := reps1 R
    cases r with
    | @lst a vs _ ha r =>
      refine ⟨_, _, rfl, .inl ⟨ha.sq, fun p hp => ?_⟩⟩
      have k := upd_keeps (o := .tup vs) hp
      exact q _ _ k (.tup (.inl ⟨G.mfree hp, .inl upd_same⟩) (r.mv (Mv.same k)))
  · cases hz
    obtain ⟨v, rfl, r⟩ := reps1 R
    cases r with
    | tup ha r => exact ⟨_, _, rfl, .inr ⟨ha.sq, q _ _ nokeep (.tup ha r)⟩⟩
  · cases hz
def boolsD : List D → Option (List Bool)
  | [] => some []
  | .bool b :: r => (boolsD r).map fun bs => b :: bs
  | _ :: _ => none
theorem Reps.bools {K M H} : ∀ {vs ds bs}, Reps K M H vs ds → boolsD ds = some bs → vs = bs.map V.bl
  | _, _, _, .nil, h => by cases h; rfl
  | _, _, _, .cons r t, h => by
    cases r <;> first | (simp [boolsD] at h; done) | skip
    simp only [boolsD] at h
    obtain ⟨bs, e1, e2⟩ := Option.map_eq_some_iff.mp h
    subst e2
    rw [Reps.bools t e1]; rfl
def anyD : List D → Option D
  | [.list ds] => (boolsD ds).map fun bs => .bool (bs.any id)
  | _ => none
def allD : List D → Option D
  | [.list ds] => (boolsD ds).map fun bs => .bool (bs.all id)
  | _ => none
theorem cs_any {K} : CallS K (rAny K) anyD := fun F σ H ρ δ xs ds z G R hz Q q => by
  unfold anyD at hz
  split at hz
  · obtain ⟨bs, e1, e2⟩ := Option.map_eq_some_iff.mp hz
    subst e2
    obtain ⟨v, rfl, r⟩ := reps1 R
    cases r with
    | lst ha r => exact ⟨_, bs, rfl, by rw [← r.bools e1]; exact ha.sq, q _ _ nokeep (.bl _)⟩
  · cases hz
theorem cs_all {K} : CallS K (rAll K) allD := fun F σ H ρ δ xs ds z G R hz Q q => by
  unfold allD at hz
  split at hz
  · obtain ⟨bs, e1, e2⟩ := Option.map_eq_some_iff.mp hz
    subst e2
    obtain ⟨v, rfl, r⟩ := reps1 R
    cases r with
    | lst ha r => exact ⟨_, bs, rfl, by rw [← r.bools e1]; exact ha.sq, q _ _ nokeep (.bl _)⟩
  · cases hz
def divmodD : List D → Option D
  | [.int i, .int j] => if 0 < j ∧ j < 1073741824 then some (.tuple [.int (i / j), .int (i % j)]) else none
  | _ => none
theorem cs_divmod {K} : CallS K (fun xs H Q => ∃ i j, xs = [.int i, .int j] ∧ CDiv i j ∧ ∀ p, H p = none → Q (.ref p) (upd H p (.tup [.int (i / j), .int (i % j)]))) divmodD := fun F σ H ρ δ xs ds z G R hz Q q => by
  unfold divmodD at hz
  split at hz
  · split at hz
    · rename_i hc
      cases hz
      obtain ⟨v, w, rfl, r, r'⟩ := reps2 R
      cases r; cases r'
      refine ⟨_, _, rfl, hc, fun p hp => q _ _ (upd_keeps hp) (.tup (.inl ⟨G.mfree hp, .inl upd_same⟩) (.cons (.int _) (.cons (.int _) .nil)))⟩
    · cases hz
  · cases hz
section
variable {x : Str}
theorem pd_len (hm : X.mg "len" = none) (ha : PDA X (e :: es) r) (hg : Gl X "len" := by rfl) (he : starEach (e :: es) X.env = (false, eval e X.env) :: starEach es X.env := by rfl) (hpl : (backTo pos (starEach es X.env)).any (·.1) = false := by rfl) : PD X (.Call (.Name "len" p) (e :: es) [] pos) (mCall lenD r) := pd_cb PySem.boot_len call_len cs_len ha hg hm (by decide) (by decide) he hpl
theorem pd_abs (hm : X.mg "abs" = none) (ha : PDA X (e :: es) r) (hg : Gl X "abs" := by rfl) (he : starEach (e :: es) X.env = (false, eval e X.env) :: starEach es X.env := by rfl) (hpl : (backTo pos (starEach es X.env)).any (·.1) = false := by rfl) : PD X (.Call (.Name "abs" p) (e :: es) [] pos) (mCall absD r) := pd_cb (by decide +kernel) call_abs cs_abs ha hg hm (by decide) (by decide) he hpl
theorem pd_max (hm : X.mg "max" = none) (hc : X.calm = true) (ha : PDA X (e :: es) r) (hg : Gl X "max" := by rfl) (he : starEach (e :: es) X.env = (false, eval e X.env) :: starEach es X.env := by rfl) (hpl : (backTo pos (starEach es X.env)).any (·.1) = false := by rfl) : PD X (.Call (.Name "max" p) (e :: es) [] pos) (mCall maxD r) := pd_cb (by decide +kernel) (call_max2 hc) cs_max ha hg hm (by decide) (by decide) he hpl
theorem pd_min (hm : X.mg "min" = none) (hc : X.calm = true) (ha : PDA X (e :: es) r) (hg : Gl X "min" := by rfl) (he : starEach (e :: es) X.env = (false, eval e X.env) :: starEach es X.env := by rfl) (hpl : (backTo pos (starEach es X.env)).any (·.1) = false := by rfl) : PD X (.Call (.Name "min" p) (e :: es) [] pos) (mCall minD r) := pd_cb (by decide +kernel) (call_min2 hc) cs_min ha hg hm (by decide) (by decide) he hpl
theorem pd_any (hm : X.mg "any" = none) (hc : X.calm = true) (ha : PDA X (e :: es) r) (hg : Gl X "any" := by rfl) (he : starEach (e :: es) X.env = (false, eval e X.env) :: starEach es X.env := by rfl) (hpl : (backTo pos (starEach es X.env)).any (·.1) = false := by rfl) : PD X (.Call (.Name "any" p) (e :: es) [] pos) (mCall anyD r) := pd_cb (by decide +kernel) (cr_any hc) cs_any ha hg hm (by decide) (by decide) he hpl
theorem pd_all (hm : X.mg "all" = none) (hc : X.calm = true) (ha : PDA X (e :: es) r) (hg : Gl X "all" := by rfl) (he : starEach (e :: es) X.env = (false, eval e X.env) :: starEach es X.env := by rfl) (hpl : (backTo pos (starEach es X.env)).any (·.1) = false := by rfl) : PD X (.Call (.Name "all" p) (e :: es) [] pos) (mCall allD r) := pd_cb (by decide +kernel) (cr_all hc) cs_all ha hg hm (by decide) (by decide) he hpl
theorem pd_divmod (hm : X.mg "divmod" = none) (ha : PDA X (e :: es) r) (hg : Gl X "divmod" := by rfl) (he : starEach (e :: es) X.env = (false, eval e X.env) :: starEach es X.env := by rfl) (hpl : (backTo pos (starEach es X.env)).any (·.1) = false := by rfl) : PD X (.Call (.Name "divmod" p) (e :: es) [] pos) (mCall divmodD r) := pd_cb (by decide +kernel) call_divmod cs_divmod ha hg hm (by decide) (by decide) he hpl
theorem pd_cint (hm : X.mg "int" = none) (ha : PDA X (e :: es) r) (hg : Gl X "int" := by rfl) (he : starEach (e :: es) X.env = (false, eval e X.env) :: starEach es X.env := by rfl) (hpl : (backTo pos (starEach es X.env)).any (·.1) = false := by rfl) : PD X (.Call (.Name "int" p) (e :: es) [] pos) (mCall intD r) := pd_ct (by decide +kernel) call_int1 cs_int ha hg hm (by decide) (by decide) he hpl
theorem pd_clist (hm : X.mg "list" = none) (ha : PDA X (e :: es) r) (hg : Gl X "list" := by rfl) (he : starEach (e :: es) X.env = (false, eval e X.env) :: starEach es X.env := by rfl) (hpl : (backTo pos (starEach es X.env)).any (·.1) = false := by rfl) : PD X (.Call (.Name "list" p) (e :: es) [] pos) (mCall listD r) := pd_ct (by decide +kernel) call_list_of cs_list ha hg hm (by decide) (by decide) he hpl
theorem pd_ctup (hm : X.mg "tuple" = none) (ha : PDA X (e :: es) r) (hg : Gl X "tuple" := by rfl) (he : starEach (e :: es) X.env = (false, eval e X.env) :: starEach es X.env := by rfl) (hpl : (backTo pos (starEach es X.env)).any (·.1) = false := by rfl) : PD X (.Call (.Name "tuple" p) (e :: es) [] pos) (mCall tupD r) := pd_ct (by decide +kernel) call_tuple_of cs_tup ha hg hm (by decide) (by decide) he hpl
end

/-! isinstance(e, T), T one built-in class -/
def tyD : D → String
  | .none => "NoneType" | .bool _ => "bool" | .int _ => "int" | .str _ => "str" | .list _ => "list" | .tuple _ => "tuple" | .dict _ => "dict"
def isiD (T : String) (d : D) : Option D := (kitB (tyD d) T).map .bool
theorem Rep.ty {K M H v d} (r : Rep K M H v d) : TyX K H v (.type (tyD d)) := by
  cases r with
  | non => exact .base .non
  | bl b => exact .base (.bl b)
  | int b => exact .base (.int b)
  | str b => exact .base (.str b)
  | lst a r => exact .base (.lst a.2)
  | tup a r =>
    rcases a with ⟨_, a | ⟨o, a⟩⟩ | ⟨o, its, n, e, c, _⟩
    · exact .base (.tup a)
    · exact .fTuple a
    · exact .kTuple e c
  | dic n e r =>
    rcases e with e | ⟨o, e⟩
    · exact .base (.dK e)
    · exact .fDict e
theorem pd_isi {T : Str} {t : String} {p2 : Pos} (hv : bootBuiltins T = some (.type t)) (hm : X.mg "isinstance" = none) (hT : X.mg T = none) (ha : PD X a ma) (hg : Gl X "isinstance" := by rfl) (hgT : Gl X T := by rfl)
    (hn : T ≠ "__name__" := by decide) (hd : (T == ("__debug__" : Str)) = false := by decide) (hs1 : starEach [a, .Name T p2] X.env = (false, eval a X.env) :: starEach [.Name T p2] X.env := by rfl) (hs2 : starEach [Expr.Name T p2] X.env = (false, eval (.Name T p2) X.env) :: starEach [] X.env := by rfl)
    (hpl : (backTo pos (starEach [Expr.Name T p2] X.env)).any (·.1) = false := by rfl) :
    PD X (.Call (.Name "isinstance" p) [a, .Name T p2] [] pos) (mUn (isiD t) ma) := by
  obtain ⟨ta, h1, s1⟩ := ha.ex
  refine ⟨_, pe_callB call_isi hg hm (by decide +kernel) (pa_cons h1 (pa_cons (pe_bltn (v := .ty t) hgT hT hv rfl hn hd) pa_nil hs2) hs1) (by decide) (by decide) hs1 hpl, fun F σ H ρ δ d δ' G e Q q => ?_⟩
  obtain ⟨⟨x, δ1⟩, e1, e⟩ := Option.bind_eq_some_iff.mp e
  obtain ⟨z, e3, e⟩ := Option.map_eq_some_iff.mp e
  cases e
  refine s1 F σ H ρ δ x δ1 G e1 _ fun v H1 G1 M1 R1 => ?_
  unfold isiD at e3
  obtain ⟨bb, e4, e5⟩ := Option.map_eq_some_iff.mp e3
  subst e5
  exact ⟨v, .ty t, _, _, bb, rfl, .ty t, R1.ty, kit_ty e4, q _ _ G1 M1 (.bl _)⟩

/-! sep.join(xs) -/
def strsD : List D → Option (List Str)
  | [] => some []
  | .str b :: r => (strsD r).map fun bs => b :: bs
  | _ :: _ => none
theorem Reps.strs {K M H} : ∀ {vs ds bs}, Reps K M H vs ds → strsD ds = some bs → vs = bs.map V.str
  | _, _, _, .nil, h => by cases h; rfl
  | _, _, _, .cons r t, h => by
    cases r <;> first | (simp [strsD] at h; done) | skip
    simp only [strsD] at h
    obtain ⟨bs, e1, e2⟩ := Option.map_eq_some_iff.mp h
    subst e2
    rw [Reps.strs t e1]; rfl
def joinSz (a : Str) (ys : List Str) : Bool := decide ((ys.map (·.length)).sum + ys.length * a.length ≤ 16777216)
def joinD : D → D → Option D
  | .str a, .list ds => (strsD ds).bind fun ys => if joinSz a ys then some (.str (Txt.join a ys)) else none
  | .str a, .tuple ds => (strsD ds).bind fun ys => if joinSz a ys then some (.str (Txt.join a ys)) else none
  | _, _ => none
theorem pd_join {apos : Pos} (ha : PD X a ma) (hb : PD X b mb) (hs : starEach [b] X.env = [(false, eval b X.env)] := by rfl) (hbase : attributeBase a "join" X.env (eval a X.env) = eval a X.env := by rfl) (hline : (apos.endLine == pos.line) = true := by rfl) :
    PD X (.Call (.Attribute a "join" apos) [b] [] pos) (mBin joinD ma mb) := by
  obtain ⟨ta, h1, s1⟩ := ha.ex
  obtain ⟨tb, h2, s2⟩ := hb.ex
  refine ⟨_, pe_join h1 h2 hs hbase hline, fun F σ H ρ δ d δ' G e Q q => ?_⟩
  obtain ⟨⟨x, δ1⟩, e1, e⟩ := Option.bind_eq_some_iff.mp e
  obtain ⟨⟨y, δ2⟩, e2, e⟩ := Option.bind_eq_some_iff.mp e
  obtain ⟨z, e3, e⟩ := Option.map_eq_some_iff.mp e
  cases e
  refine s1 F σ H ρ δ x δ1 G e1 _ fun v H1 G1 M1 R1 => ?_
  dsimp only at e3
  unfold joinD at e3
  split at e3
  · cases R1
    refine ⟨⟨_, rfl⟩, s2 F σ H1 ρ δ1 _ _ G1 e2 _ fun u H2 G2 M2 R2 => ?_⟩
    obtain ⟨ys, e4, e5⟩ := Option.bind_eq_some_iff.mp e3
    split at e5
    · rename_i hz
      cases e5
      cases R2 with
      | lst ha r => exact ⟨_, _, ys, rfl, rfl, .inl (by rw [← r.strs e4]; exact ha.sq), of_decide_eq_true hz, q _ _ G2 (M1.trans M2) (.str _)⟩
    · cases e5
  · cases R1
    refine ⟨⟨_, rfl⟩, s2 F σ H1 ρ δ1 _ _ G1 e2 _ fun u H2 G2 M2 R2 => ?_⟩
    obtain ⟨ys, e4, e5⟩ := Option.bind_eq_some_iff.mp e3
    split at e5
    · rename_i hz
      cases e5
      cases R2 with
      | tup ha r => exact ⟨_, _, ys, rfl, rfl, .inr (by rw [← r.strs e4]; exact ha.sq), of_decide_eq_true hz, q _ _ G2 (M1.trans M2) (.str _)⟩
    · cases e5
  · cases e3

/-! ### defs -/
/-- a def without the deck: it leaves all as it is -/
def spP (K : PySem.W.Frag) (m : List D → Option D) : Sp := fun vs H Q _ => ∃ (M : Addr → Prop) (ds : List D) (r : D), (∀ a, M a → H a ≠ none) ∧ Reps K M H vs ds ∧ m ds = some r ∧ ∀ v H', (∀ a o, H a = some o → H' a = some o) → Rep K M H' v r → Q v H'
/-- a def whose first argument is the deck -/
def spK (K : PySem.W.Frag) (m : List D → Dk → Option (D × Dk)) : Sp := fun vs H Q _ => ∃ (M : Addr → Prop) (p : DP) (ws : List V) (ds : List D) (δ : Dk) (r : D) (δ' : Dk), vs = .ref p.1 :: ws ∧ (∀ a, M a → H a ≠ none) ∧ M p.1 ∧ M p.2 ∧ M p.3 ∧ DeckAt H p δ ∧
  Reps K M H ws ds ∧ m ds δ = some (r, δ') ∧ ∀ v H', (∀ a o, a ≠ p.1 → a ≠ p.2 → a ≠ p.3 → H a = some o → H' a = some o) → DeckAt H' p δ' → Rep K M H' v r → Q v H'
theorem Good.mm {K F σ H ρ δ} (G : Good K F σ H ρ δ) : ∀ a, Mm F σ ρ a → H a ≠ none := fun a h => by
  rcases h with h | ⟨i, ds, e1, e2⟩
  · exact G.m0 a h
  · obtain ⟨b, xs, e3, e4, _⟩ := G.own i ds e1
    rw [e2] at e3
    cases e3
    rw [e4]
    exact fun z => nomatch z
theorem pd_callP {CX : CXT} {k : Nat} {f : Addr} {fd : FuncData} {ps : List Str} {m : List D → Option D} {x : Str} {E : XK} (Fn : FnOk X.prog X.w X.K X.mg X.base CX k f fd ps (spP X.K m)) (hr : Room k X.A) (hm : X.mg x = some (.ref f)) (hk : PySem.W.keepIn X.K (.ref f) = true) (hb : Binds X.K fd ps []) (hx : Passes CX X E)
    (ha : PDA X (e :: es) r) (hg : Gl X x := by rfl) (hdb : (x == ("__debug__" : Str)) = false := by decide) (he : starEach (e :: es) X.env = (false, eval e X.env) :: starEach es X.env := by rfl) (hpl : (backTo pos (starEach es X.env)).any (·.1) = false := by rfl) :
    PD X (.Call (.Name x p) (e :: es) [] pos) (mCall m r) := by
  obtain ⟨t, h1, s1⟩ := ha.ex
  refine ⟨_, pe_call Fn hr hg hm hk hb .nil hx h1 hdb he hpl, fun F σ H ρ δ d δ' G e Q q => ?_⟩
  obtain ⟨⟨ds, δ1⟩, e1, e⟩ := Option.bind_eq_some_iff.mp e
  obtain ⟨z, e3, e⟩ := Option.map_eq_some_iff.mp e
  cases e
  refine s1 F σ H ρ δ ds _ G e1 _ fun vs H1 G1 M1 R1 => ?_
  rw [List.append_nil]
  exact ⟨_, ds, _, G1.mm, R1, e3, fun v H2 k R2 => q v H2 (G1.keep k) (M1.trans (Mv.same k)) R2⟩
def mCallK (i : Nat) (m : List D → Dk → Option (D × Dk)) (r : MA) : ME := fun ρ δ => match ρ[i]? with
  | some (.fix .deck) => (r ρ δ).bind fun p => m p.1 p.2
  | _ => none
theorem Good.deck {K F σ H H' ρ δ δ' p} (G : Good K F σ H ρ δ) (hp : F.dk = some p) (k : ∀ a o, a ≠ p.1 → a ≠ p.2 → a ≠ p.3 → H a = some o → H' a = some o) (hd : DeckAt H' p δ') : Good K F σ H' ρ δ' ∧ Mv (Mm F σ ρ) H (Mm F σ ρ) H' := by
  obtain ⟨d1, d2, d4, d3⟩ := G.dck p hp
  have mv : Mv (Mm F σ ρ) H (Mm F σ ρ) H' := fun a o e n => ⟨k a o (fun z => n (by rw [z]; exact .inl d1)) (fun z => n (by rw [z]; exact .inl d2)) (fun z => n (by rw [z]; exact .inl d4)) e, n⟩
  refine ⟨⟨G.len, fun i d e => ?_, fun i ds e => ?_, G.inj, fun a ha => ?_, G.dsl, fun p' hp' => ?_, fun a o e n => ?_⟩, mv⟩
  · obtain ⟨v, e1, r⟩ := G.val i d e
    exact ⟨v, e1, r.mv mv⟩
  · obtain ⟨a, xs, e1, e2, r, n⟩ := G.own i ds e
    exact ⟨a, xs, e1, k a _ (fun z => n.1 (by rw [z]; exact d1)) (fun z => n.1 (by rw [z]; exact d2)) (fun z => n.1 (by rw [z]; exact d4)) e2, r.mv mv, n⟩
  · by_cases h1 : a = p.1
    · rw [h1, hd.one]; exact fun z => nomatch z
    · by_cases h2 : a = p.2
      · rw [h2, hd.two]; exact fun z => nomatch z
      · by_cases h3 : a = p.3
        · rw [h3, hd.tri]; exact fun z => nomatch z
        · cases e : H a with
          | none => exact absurd e (G.m0 a ha)
          | some o => rw [k a o h1 h2 h3 e]; exact fun z => nomatch z
  · rw [hp] at hp'; cases hp'
    exact ⟨d1, d2, d4, hd⟩
  · exact k a o (n p hp).1 (n p hp).2.1 (n p hp).2.2 (G.fr a o e n)
theorem pd_callK (i : Nat) {CX : CXT} {k : Nat} {f : Addr} {fd : FuncData} {ps : List Str} {m : List D → Dk → Option (D × Dk)} {x y : Str} {E : XK} {py : Pos} (Fn : FnOk X.prog X.w X.K X.mg X.base CX k f fd ps (spK X.K m)) (hr : Room k X.A) (hm : X.mg x = some (.ref f)) (hk : PySem.W.keepIn X.K (.ref f) = true) (hb : Binds X.K fd ps []) (hx : Passes CX X E)
    (ha : PDA X es r) (hN : X.N[i]? = some y := by rfl) (hv : Vis X.env.scope y := by first | exact Or.inl rfl | exact Or.inr (Or.inl rfl) | exact Or.inr (Or.inr rfl)) (hyd : (y == ("__debug__" : Str)) = false := by decide) (hcd : (y == ("__classdict__" : Str)) = false := by decide)
    (hg : Gl X x := by rfl) (hdb : (x == ("__debug__" : Str)) = false := by decide) (he : starEach (.Name y py :: es) X.env = (false, eval (.Name y py) X.env) :: starEach es X.env := by rfl) (hpl : (backTo pos (starEach es X.env)).any (·.1) = false := by rfl) :
    PD X (.Call (.Name x p) (.Name y py :: es) [] pos) (mCallK i m r) := by
  obtain ⟨t, h1, s1⟩ := ha.ex
  refine ⟨_, pe_call Fn hr hg hm hk hb .nil hx (pa_cons (pe_var hN hv hyd hcd) h1 he) hdb he hpl, fun F σ H ρ δ d δ' G e Q q => ?_⟩
  unfold mCallK at e
  split at e
  · rename_i hi
    obtain ⟨⟨ds, δ1⟩, e1, e⟩ := Option.bind_eq_some_iff.mp e
    obtain ⟨pp, hp, hs⟩ := G.dsl i hi
    refine ⟨_, hs, s1 F σ H ρ δ ds _ G e1 _ fun vs H1 G1 M1 R1 => ?_⟩
    dsimp only
    rw [List.append_nil]
    obtain ⟨d1, d2, d4, d3⟩ := G1.dck pp hp
    exact ⟨_, pp, vs, ds, δ1, d, δ', rfl, G1.mm, .inl d1, .inl d2, .inl d4, d3, R1, e, fun v H2 k hd R2 => q v H2 (G1.deck hp k hd).1 (M1.trans (G1.deck hp k hd).2) R2⟩
  · cases e
end
end PD

namespace PD
open PySem PySem.Spec PyProof.Rows L2

/-! ### what is walked -/
def Walks (K : PySem.W.Frag) (M : Addr → Prop) (H : Hp) (J : It) (ds : List D) : Prop := ∀ M2 H2, Mv M H M2 H2 → (∀ a, M2 a → H2 a ≠ none) → ∀ i : Nat,
  (i < ds.length → J.go i H2 ∧ ∀ x H3, J.yld i H2 x H3 → (∀ a o, H2 a = some o → H3 a = some o) ∧ ∃ d, ds[i]? = some d ∧ Rep K M2 H3 x d) ∧ (ds.length ≤ i → J.stop i H2)
structure PDI (X : Cx) (tg iter : Expr) (m : MA) : Prop where
  ex : ∃ wi, PI X tg iter wi ∧ ∀ F σ H ρ δ ds δ', Good X.K F σ H ρ δ → m ρ δ = some (ds, δ') → ∀ R : It → Hp → Prop,
    (∀ J H', Good X.K F σ H' ρ δ' → Mv (Mm F σ ρ) H (Mm F σ ρ) H' → Walks X.K (Mm F σ ρ) H' J ds → R J H') → wi σ H R
def itemsD : D → Option (List D)
  | .list ds => some ds
  | .tuple ds => some ds
  | .str x => some (x.cps.toList.map fun c => .str ⟨#[c]⟩)
  | _ => none
def mItems (m : ME) : MA := fun ρ δ => (m ρ δ).bind fun p => (itemsD p.1).map fun z => (z, p.2)
theorem AL.uq {K M H a xs ys} (h : AL K M H a xs) (g : SqL K H a ys) (hK : ∀ zs, ¬ ((∃ (o : Obj) (its : Array Value) (n : Nat), K.lookup a = some o ∧ o.cls = .type "list" ∧ o.dict = none ∧ o.data = .seq its n ∧ its.size ≤ sizeLine ∧ Vals zs its.toList))) : ys = xs := by
  rcases g with (g | ⟨o, g⟩) | g
  · rw [h.2] at g; cases g; rfl
  · rw [h.2] at g; cases g
  · exact absurd g (hK ys)
theorem walk_list {K M H a xs ds} (h : AL K M H a xs) (r : Reps K M H xs ds) : Walks K M H (Itl K a) ds := fun M2 H2 mv _ i => by
  have h2 := h.mv mv
  have r2 := r.mv mv
  have hl := r.length
  refine ⟨fun hi => ⟨⟨xs, xs[i], h2.sq, by simp [hl, hi]⟩, fun x H3 y => ?_⟩, fun hi => ⟨xs, h2.sq, by omega⟩⟩
  obtain ⟨rfl, y2⟩ := y
  obtain ⟨d, e, rr⟩ := r2.get (y2 xs h2.sq)
  exact ⟨fun _ _ h => h, d, e, rr⟩
theorem walk_tup {K M H a xs ds} (h : AT K M H a xs) (r : Reps K M H xs ds) : Walks K M H (Itt K a) ds := fun M2 H2 mv _ i => by
  have h2 := h.mv mv
  have r2 := r.mv mv
  have hl := r.length
  refine ⟨fun hi => ⟨⟨xs, xs[i], h2.sq, by simp [hl, hi]⟩, fun x H3 y => ?_⟩, fun hi => ⟨xs, h2.sq, by omega⟩⟩
  obtain ⟨rfl, y2⟩ := y
  obtain ⟨d, e, rr⟩ := r2.get (y2 xs h2.sq)
  exact ⟨fun _ _ h => h, d, e, rr⟩
theorem walk_str {K M H} (x : Str) : Walks K M H (Its x) (x.cps.toList.map fun c => .str ⟨#[c]⟩) := fun M2 H2 mv _ i => by
  refine ⟨fun hi => ⟨?_, fun y H3 z => ?_⟩, fun hi => ?_⟩
  · simpa [Its] using hi
  · obtain ⟨rfl, c, e1, rfl⟩ := z
    exact ⟨fun _ _ h => h, .str ⟨#[c]⟩, by rw [List.getElem?_map, Array.getElem?_toList, e1]; rfl, .str _⟩
  · simpa [Its] using hi
theorem reps_ints {K M H} (f : Nat → Int) : ∀ ns : List Nat, Reps K M H (ns.map fun i => V.int (f i)) (ns.map fun i => PyData.int (f i))
  | [] => .nil
  | n :: r => .cons (.int _) (reps_ints f r)
theorem walk_range {K M H} (lo : Int) (n : Nat) : Walks K M H (Itr lo n) ((List.range n).map fun (i : Nat) => .int (lo + (i : Int))) := fun M2 H2 mv _ i => by
  refine ⟨fun hi => ⟨?_, fun y H3 z => ?_⟩, fun hi => ?_⟩
  · simpa [Itr] using hi
  · obtain ⟨rfl, rfl⟩ := z
    simp at hi
    exact ⟨fun _ _ h => h, .int (lo + (i : Int)), by rw [List.getElem?_map, List.getElem?_range hi]; rfl, .int _⟩
  · simpa [Itr] using hi
section
variable {X : Cx} {a b tg : Expr} {ma mb : ME} {p pos : Pos}
theorem pdi_seq (ha : PD X a ma) : PDI X tg a (mItems ma) := by
  obtain ⟨ta, h1, s1⟩ := ha.ex
  refine ⟨fun σ H R => iList X.K ta σ H R ∨ iTup X.K ta σ H R ∨ iStr ta σ H R, ⟨fun pins s σ H R I q => ?_⟩, fun F σ H ρ δ ds δ' G e R q => ?_⟩
  · rcases q with q | q | q
    · exact (pi_list h1).run pins s σ H R I q
    · exact (pi_tup h1).run pins s σ H R I q
    · exact (pi_str h1).run pins s σ H R I q
  · obtain ⟨⟨x, δ1⟩, e1, e⟩ := Option.bind_eq_some_iff.mp e
    obtain ⟨z, e3, e⟩ := Option.map_eq_some_iff.mp e
    cases e
    cases x <;> first | (simp [itemsD] at e3; done) | skip
    · cases e3
      refine .inr (.inr (s1 F σ H ρ δ _ _ G e1 _ fun v H1 G1 M1 R1 => ?_))
      cases R1
      exact ⟨_, rfl, q _ _ G1 M1 (walk_str _)⟩
    · cases e3
      refine .inl (s1 F σ H ρ δ _ _ G e1 _ fun v H1 G1 M1 R1 => ?_)
      cases R1 with
      | lst ha r => exact ⟨_, rfl, ⟨_, ha.sq⟩, q _ _ G1 M1 (walk_list ha r)⟩
    · cases e3
      refine .inr (.inl (s1 F σ H ρ δ _ _ G e1 _ fun v H1 G1 M1 R1 => ?_))
      cases R1 with
      | tup ha r => exact ⟨_, rfl, ⟨_, ha.sq⟩, q _ _ G1 M1 (walk_tup ha r)⟩
def inB (j : Int) : Bool := decide (-(2 ^ 62) ≤ j ∧ j < 2 ^ 62)
def mRng1 (m : ME) : MA := fun ρ δ => (m ρ δ).bind fun p => match p.1 with
  | .int j => if inB j then some ((List.range j.toNat).map fun (i : Nat) => .int (0 + (i : Int)), p.2) else none
  | _ => none
def mRng2 (m m' : ME) : MA := fun ρ δ => (m ρ δ).bind fun p => (m' ρ p.2).bind fun q => match p.1, q.1 with
  | .int i, .int j => if inB i && inB j then some ((List.range (j - i).toNat).map fun (k : Nat) => .int (i + (k : Int)), q.2) else none
  | _, _ => none
theorem pdi_range1 (hm : X.mg "range" = none) (ha : PD X a ma) (hg : Gl X "range" := by rfl) (hs : starEach [a] X.env = [(false, eval a X.env)] := by rfl) : PDI X tg (.Call (.Name "range" p) [a] [] pos) (mRng1 ma) := by
  obtain ⟨ta, h1, s1⟩ := ha.ex
  refine ⟨_, pi_range1 hg hm (pa_cons h1 pa_nil hs) hs, fun F σ H ρ δ ds δ' G e R q => ?_⟩
  obtain ⟨⟨x, δ1⟩, e1, e⟩ := Option.bind_eq_some_iff.mp e
  refine s1 F σ H ρ δ _ _ G e1 _ fun v H1 G1 M1 R1 => ?_
  dsimp only at e
  split at e
  · split at e
    · rename_i hb
      have hb := of_decide_eq_true hb
      cases e
      cases R1
      exact ⟨_, rfl, hb.1, hb.2, q _ _ G1 M1 (walk_range 0 _)⟩
    · cases e
  · cases e
theorem pdi_range2 (hm : X.mg "range" = none) (ha : PD X a ma) (hb : PD X b mb) (hg : Gl X "range" := by rfl) (hs : starEach [a, b] X.env = [(false, eval a X.env), (false, eval b X.env)] := by rfl) (hs2 : starEach [b] X.env = [(false, eval b X.env)] := by rfl) : PDI X tg (.Call (.Name "range" p) [a, b] [] pos) (mRng2 ma mb) := by
  obtain ⟨ta, h1, s1⟩ := ha.ex
  obtain ⟨tb, h2, s2⟩ := hb.ex
  refine ⟨_, pi_range2 hg hm (pa_cons h1 (pa_cons h2 pa_nil hs2) (by rw [hs, hs2])) hs hs2, fun F σ H ρ δ ds δ' G e R q => ?_⟩
  obtain ⟨⟨x, δ1⟩, e1, e⟩ := Option.bind_eq_some_iff.mp e
  obtain ⟨⟨y, δ2⟩, e2, e⟩ := Option.bind_eq_some_iff.mp e
  refine s1 F σ H ρ δ _ _ G e1 _ fun v H1 G1 M1 R1 => s2 F σ H1 ρ δ1 _ _ G1 e2 _ fun u H2 G2 M2 R2 => ?_
  dsimp only at e
  split at e
  · split at e
    · rename_i hb
      rw [Bool.and_eq_true] at hb
      have hb1 := of_decide_eq_true hb.1
      have hb2 := of_decide_eq_true hb.2
      cases e
      cases R1
      cases R2
      exact ⟨_, _, rfl, ⟨hb1.1, hb1.2, hb2.1, hb2.2⟩, q _ _ G2 (M1.trans M2) (walk_range _ _)⟩
    · cases e
  · cases e
end

/-! ### targets -/
abbrev MG := D → List Sl → Option (List Sl)
structure Set1 (sl : List Nat) (σ σ' : L2.St) (ρ ρ' : List Sl) : Prop where
  ls : σ'.length = σ.length
  lr : ρ'.length = ρ.length
  s : ∀ j, j ∉ sl → σ'[j]? = σ[j]?
  r : ∀ j, j ∉ sl → ρ'[j]? = ρ[j]?
  u : ∀ (j : Nat) ds, ρ'[j]? = some (.own ds) → ρ[j]? = some (.own ds) ∧ j ∉ sl
structure PDG (X : Cx) (tg : Expr) (sl : List Nat) (m : MG) : Prop where
  ex : ∃ g, PG X tg g ∧ ∀ F σ H ρ δ v d ρ', Good X.K F σ H ρ δ → Rep X.K (Mm F σ ρ) H v d → m d ρ = some ρ' → ∀ Q : L2.St → Hp → Prop,
    (∀ σ', Good X.K F σ' H ρ' δ → Mv (Mm F σ ρ) H (Mm F σ' ρ') H → Set1 sl σ σ' ρ ρ' → Q σ' H) → g v σ H Q
theorem Mm_set {F σ ρ i v d a} (h : Mm F (σ.set i (some v)) (ρ.set i (.val d)) a) : Mm F σ ρ a := by
  rcases h with h | ⟨j, ds, e1, e2⟩
  · exact .inl h
  · by_cases hj : i = j
    · subst hj
      by_cases hl : i < ρ.length
      · rw [List.getElem?_set_self hl] at e1; cases e1
      · rw [List.getElem?_eq_none (by simpa using hl)] at e1; cases e1
    · rw [List.getElem?_set_ne hj] at e1 e2
      exact .inr ⟨j, ds, e1, e2⟩
theorem Good.set {K F σ H ρ δ v d} (G : Good K F σ H ρ δ) (i : Nat) (r : Rep K (Mm F σ ρ) H v d) : Good K F (σ.set i (some v)) H (ρ.set i (.val d)) δ ∧ Mv (Mm F σ ρ) H (Mm F (σ.set i (some v)) (ρ.set i (.val d))) H := by
  have mv : Mv (Mm F σ ρ) H (Mm F (σ.set i (some v)) (ρ.set i (.val d))) H := fun a o e n => ⟨e, fun z => n (Mm_set z)⟩
  have un : ∀ (j : Nat) ds, (ρ.set i (.val d))[j]? = some (.own ds) → i ≠ j ∧ ρ[j]? = some (.own ds) := fun j ds e => by
    by_cases hj : i = j
    · subst hj
      by_cases hl : i < ρ.length
      · rw [List.getElem?_set_self hl] at e; cases e
      · rw [List.getElem?_eq_none (by simpa using hl)] at e; cases e
    · rw [List.getElem?_set_ne hj] at e
      exact ⟨hj, e⟩
  refine ⟨⟨by rw [List.length_set, List.length_set]; exact G.len, fun j e h => ?_, fun j ds e => ?_, fun j k ds es a e1 e2 e3 e4 => ?_, G.m0, fun j e => ?_, G.dck, G.fr⟩, mv⟩
  · by_cases hj : i = j
    · subst hj
      by_cases hl : i < ρ.length
      · rw [List.getElem?_set_self hl] at h; cases h
        exact ⟨v, List.getElem?_set_self (by rw [G.len]; exact hl), r.mv mv⟩
      · rw [List.getElem?_eq_none (by simpa using hl)] at h; cases h
    · rw [List.getElem?_set_ne hj] at h ⊢
      obtain ⟨w, e1, r1⟩ := G.val j e h
      exact ⟨w, e1, r1.mv mv⟩
  · obtain ⟨hj, e⟩ := un j ds e
    obtain ⟨a, xs, e1, e2, r1, n⟩ := G.own j ds e
    exact ⟨a, xs, by rw [List.getElem?_set_ne hj]; exact e1, e2, r1.mv mv, n⟩
  · obtain ⟨hj, e1⟩ := un j ds e1
    obtain ⟨hk, e2⟩ := un k es e2
    rw [List.getElem?_set_ne hj] at e3
    rw [List.getElem?_set_ne hk] at e4
    exact G.inj j k ds es a e1 e2 e3 e4
  · by_cases hj : i = j
    · subst hj
      by_cases hl : i < ρ.length
      · rw [List.getElem?_set_self hl] at e; cases e
      · rw [List.getElem?_eq_none (by simpa using hl)] at e; cases e
    · rw [List.getElem?_set_ne hj] at e ⊢
      exact G.dsl j e
theorem Set1.set {σ ρ v d} (i : Nat) : Set1 [i] σ (σ.set i (some v)) ρ (ρ.set i (.val d)) where
  ls := List.length_set
  lr := List.length_set
  s := fun j h => List.getElem?_set_ne (fun e => h (by simp [e]))
  r := fun j h => List.getElem?_set_ne (fun e => h (by simp [e]))
  u := fun j ds e => by
    by_cases hj : i = j
    · subst hj
      by_cases hl : i < ρ.length
      · rw [List.getElem?_set_self hl] at e; cases e
      · rw [List.getElem?_eq_none (by simpa using hl)] at e; cases e
    · rw [List.getElem?_set_ne hj] at e
      exact ⟨e, by simp; exact fun z => hj z.symm⟩
theorem Set1.refl {σ ρ} : Set1 [] σ σ ρ ρ := ⟨rfl, rfl, fun _ _ => rfl, fun _ _ => rfl, fun _ _ e => ⟨e, by simp⟩⟩
theorem Set1.trans {sl sl' σ σ1 σ2 ρ ρ1 ρ2} (h : Set1 sl σ σ1 ρ ρ1) (g : Set1 sl' σ1 σ2 ρ1 ρ2) : Set1 (sl ++ sl') σ σ2 ρ ρ2 where
  ls := g.ls.trans h.ls
  lr := g.lr.trans h.lr
  s := fun j hj => by simp only [List.mem_append, not_or] at hj; rw [g.s j hj.2, h.s j hj.1]
  r := fun j hj => by simp only [List.mem_append, not_or] at hj; rw [g.r j hj.2, h.r j hj.1]
  u := fun j ds e => by
    obtain ⟨e1, n1⟩ := g.u j ds e
    obtain ⟨e2, n2⟩ := h.u j ds e1
    exact ⟨e2, by simp only [List.mem_append, not_or]; exact ⟨n2, n1⟩⟩
def gSet (i : Nat) : MG := fun d ρ => some (ρ.set i (.val d))
section
variable {X : Cx} {pos : Pos}
theorem pdg_name (i : Nat) {x : Str} (hN : X.N.Nodup) (hi : X.N[i]? = some x := by rfl) (hx : Loc X.env.scope x := by first | exact Or.inl rfl | exact Or.inr rfl) (hf : X.fn x = true ∨ X.env.scope.names.lookup x = some .local := by first | exact .inl rfl | exact .inr rfl | assumption) : PDG X (.Name x pos) [i] (gSet i) :=
  ⟨_, pg_name hN hi hx hf, fun F σ H ρ δ v d ρ' G r e Q q => by
    cases e
    obtain ⟨G1, M1⟩ := G.set i r
    exact q _ G1 M1 (Set1.set i)⟩
abbrev MGs := List D → List Sl → Option (List Sl)
structure PDGs (X : Cx) (tgs : List Expr) (sl : List Nat) (m : MGs) : Prop where
  ex : ∃ g, PGs X tgs g ∧ ∀ F σ H ρ δ v d ρ', Good X.K F σ H ρ δ → Reps X.K (Mm F σ ρ) H v d → m d ρ = some ρ' → ∀ Q : L2.St → Hp → Prop,
    (∀ σ', Good X.K F σ' H ρ' δ → Mv (Mm F σ ρ) H (Mm F σ' ρ') H → Set1 sl σ σ' ρ ρ' → Q σ' H) → g v σ H Q
def gsNil : MGs := fun ds ρ => match ds with
  | [] => some ρ
  | _ => none
def gsCons (m : MG) (r : MGs) : MGs := fun ds ρ => match ds with
  | d :: ds => (m d ρ).bind fun ρ1 => r ds ρ1
  | [] => none
theorem pdgs_nil : PDGs X [] [] gsNil := ⟨_, pgs_nil, fun F σ H ρ δ v d ρ' G r e Q q => by
  cases r with
  | nil => cases e; exact ⟨rfl, q _ G (Mv.refl _ _) Set1.refl⟩
  | cons _ _ => cases e⟩
theorem pdgs_cons {e : Expr} {es : List Expr} {sl sl' : List Nat} {m : MG} {r : MGs} (h1 : PDG X e sl m) (h2 : PDGs X es sl' r) (hs : (assignEach (e :: es) X.env).map (·.2) = assign e X.env :: (assignEach es X.env).map (·.2) := by rfl) : PDGs X (e :: es) (sl ++ sl') (gsCons m r) := by
  obtain ⟨g, p1, s1⟩ := h1.ex
  obtain ⟨g', p2, s2⟩ := h2.ex
  refine ⟨_, pgs_cons p1 p2 hs, fun F σ H ρ δ v d ρ' G r e Q q => ?_⟩
  cases r with
  | nil => cases e
  | cons r t =>
    obtain ⟨ρ1, e1, e2⟩ := Option.bind_eq_some_iff.mp e
    refine ⟨_, _, rfl, s1 F σ H ρ δ _ _ ρ1 G r e1 _ fun σ1 G1 M1 T1 => ?_⟩
    exact s2 F σ1 H ρ1 δ _ _ ρ' G1 (t.mv M1) e2 _ fun σ2 G2 M2 T2 => q _ G2 (M1.trans M2) (T1.trans T2)
def gTupM (n : Nat) (m : MGs) : MG := fun d ρ => match d with
  | .tuple ds => if ds.length = n then m ds ρ else none
  | _ => none
theorem pdg_tup {es : List Expr} {k n : Nat} {sl : List Nat} {m : MGs} (hc : X.calm = true) (h : PDGs X es sl m) (hn : (assignEach es X.env).length = n := by rfl) (hst : (assignEach es X.env).findIdx? (·.1) = none := by rfl) : PDG X (.Tuple es k pos) sl (gTupM n m) := by
  obtain ⟨g, p1, s1⟩ := h.ex
  refine ⟨_, pg_tup hc p1 hn hst, fun F σ H ρ δ v d ρ' G r e Q q => ?_⟩
  unfold gTupM at e
  split at e
  · split at e
    · rename_i hl
      cases r with
      | tup ha r => exact ⟨_, _, rfl, ha.sq, by rw [r.length]; exact hl, s1 F σ H ρ δ _ _ ρ' G r e _ q⟩
    · cases e
  · cases e
end
end PD

namespace PD
open PySem PySem.Spec PyProof.Rows L2

/-! ### comprehensions -/
def wipeR (ρ : List Sl) : List Nat → List Sl
  | [] => ρ
  | v :: vs => (wipeR ρ vs).set v .no
def noU (ρ : List Sl) (vs : List Nat) : Bool := vs.all fun i => match ρ[i]? with
  | some (.own _) => false
  | _ => true
theorem noU_of {ρ vs i ds} (h : noU ρ vs = true) (hi : i ∈ vs) (e : ρ[i]? = some (.own ds)) : False := by
  have := List.all_eq_true.mp h i hi
  rw [e] at this
  cases this
theorem wipeR_length (ρ : List Sl) : ∀ vs, (wipeR ρ vs).length = ρ.length
  | [] => rfl
  | v :: vs => by unfold wipeR; rw [List.length_set, wipeR_length ρ vs]
theorem wipe_get (σ : L2.St) (i : Nat) : ∀ vs : List Nat, (wipe σ vs)[i]? = if i ∈ vs then (if i < σ.length then some none else none) else σ[i]?
  | [] => by simp [wipe]
  | v :: vs => by
    unfold wipe
    by_cases hv : v = i
    · subst hv
      by_cases hl : v < σ.length
      · rw [List.getElem?_set_self (by rw [wipe_length]; exact hl)]; simp [hl]
      · rw [List.getElem?_eq_none (by rw [List.length_set, wipe_length]; omega)]; simp [hl]
    · rw [List.getElem?_set_ne hv, wipe_get σ i vs]
      simp [Ne.symm hv]
theorem wipeR_get (ρ : List Sl) (i : Nat) : ∀ vs : List Nat, (wipeR ρ vs)[i]? = if i ∈ vs then (if i < ρ.length then some .no else none) else ρ[i]?
  | [] => by simp [wipeR]
  | v :: vs => by
    unfold wipeR
    by_cases hv : v = i
    · subst hv
      by_cases hl : v < ρ.length
      · rw [List.getElem?_set_self (by rw [wipeR_length]; exact hl)]; simp [hl]
      · rw [List.getElem?_eq_none (by rw [List.length_set, wipeR_length]; omega)]; simp [hl]
    · rw [List.getElem?_set_ne hv, wipeR_get ρ i vs]
      simp [Ne.symm hv]
theorem wipeR_uni {ρ vs i ds} (h : (wipeR ρ vs)[i]? = some (.own ds)) : i ∉ vs ∧ ρ[i]? = some (.own ds) := by
  rw [wipeR_get] at h
  by_cases hi : i ∈ vs
  · rw [if_pos hi] at h; split at h <;> cases h
  · rw [if_neg hi] at h; exact ⟨hi, h⟩
theorem Mm_wipe {F σ ρ vs} (h : noU ρ vs = true) : Mm F (wipe σ vs) (wipeR ρ vs) = Mm F σ ρ := by
  funext a
  refine propext ⟨fun z => ?_, fun z => ?_⟩
  · rcases z with z | ⟨i, ds, e1, e2⟩
    · exact .inl z
    · obtain ⟨hi, e1⟩ := wipeR_uni e1
      rw [wipe_get, if_neg hi] at e2
      exact .inr ⟨i, ds, e1, e2⟩
  · rcases z with z | ⟨i, ds, e1, e2⟩
    · exact .inl z
    · have hi : i ∉ vs := fun q => noU_of h q e1
      exact .inr ⟨i, ds, by rw [wipeR_get, if_neg hi]; exact e1, by rw [wipe_get, if_neg hi]; exact e2⟩
theorem Good.wipe {K F σ H ρ δ vs} (G : Good K F σ H ρ δ) (h : noU ρ vs = true) : Good K F (L2.wipe σ vs) H (wipeR ρ vs) δ := by
  refine ⟨by rw [wipe_length, wipeR_length]; exact G.len, fun i d e => ?_, fun i ds e => ?_, fun i j ds es a e1 e2 e3 e4 => ?_, G.m0, fun i e => ?_, G.dck, G.fr⟩
  · rw [Mm_wipe h]
    by_cases hi : i ∈ vs
    · rw [wipeR_get, if_pos hi] at e; split at e <;> cases e
    · rw [wipeR_get, if_neg hi] at e
      rw [wipe_get, if_neg hi]
      exact G.val i d e
  · rw [Mm_wipe h]
    obtain ⟨hi, e⟩ := wipeR_uni e
    rw [wipe_get, if_neg hi]
    exact G.own i ds e
  · obtain ⟨hi, e1⟩ := wipeR_uni e1
    obtain ⟨hj, e2⟩ := wipeR_uni e2
    rw [wipe_get, if_neg hi] at e3
    rw [wipe_get, if_neg hj] at e4
    exact G.inj i j ds es a e1 e2 e3 e4
  · by_cases hi : i ∈ vs
    · rw [wipeR_get, if_pos hi] at e; split at e <;> cases e
    · rw [wipeR_get, if_neg hi] at e
      rw [wipe_get, if_neg hi]
      exact G.dsl i e
/-- the frame with one more address that may change -/
def Fr.plus (F : Fr) (D : Addr) : Fr := { F with M0 := fun a => F.M0 a ∨ a = D }
theorem Mm_plus {F σ ρ D} : Mm (F.plus D) σ ρ = fun a => Mm F σ ρ a ∨ a = D := by
  funext a
  refine propext ⟨fun z => ?_, fun z => ?_⟩
  · rcases z with (z | z) | z
    · exact .inl (.inl z)
    · exact .inr z
    · exact .inl (.inr z)
  · rcases z with (z | z) | z
    · exact .inl (.inl z)
    · exact .inr z
    · exact .inl (.inr z)
/-- a new object that is to be changed -/
theorem Good.plus {K F σ H ρ δ D o} (G : Good K F σ H ρ δ) (h : H D = none) : Good K (F.plus D) σ (upd H D o) ρ δ ∧ Mv (Mm F σ ρ) H (Mm (F.plus D) σ ρ) (upd H D o) := by
  have mv : Mv (Mm F σ ρ) H (Mm (F.plus D) σ ρ) (upd H D o) := fun a u e n => ⟨upd_keeps h a u e, by rw [Mm_plus]; exact fun z => z.elim n (ne_of_none e h)⟩
  refine ⟨⟨G.len, fun i d e => ?_, fun i ds e => ?_, G.inj, fun a ha => ?_, G.dsl, fun p e => ?_, fun a u e n => upd_keeps h _ _ (G.fr a u e n)⟩, mv⟩
  · obtain ⟨v, e1, r⟩ := G.val i d e
    exact ⟨v, e1, r.mv mv⟩
  · obtain ⟨a, xs, e1, e2, r, n⟩ := G.own i ds e
    exact ⟨a, xs, e1, upd_keeps h _ _ e2, r.mv mv, fun z => z.elim n.1 (ne_of_none e2 h), n.2⟩
  · rcases ha with ha | ha
    · cases e : H a with
      | none => exact absurd e (G.m0 a ha)
      | some u => rw [upd_keeps h a u e]; exact fun z => nomatch z
    · rw [ha, upd_same]; exact fun z => nomatch z
  · obtain ⟨d1, d2, d4, d3⟩ := G.dck p e
    exact ⟨.inl d1, .inl d2, .inl d4, d3.ne, d3.ne2, d3.ne3, upd_keeps h _ _ d3.one, upd_keeps h _ _ d3.two, upd_keeps h _ _ d3.tri⟩
/-- the object is changed -/
theorem Good.write {K F σ H H1 ρ δ D o} (G0 : ∃ σ ρ δ, Good K F σ H1 ρ δ) (hD : H1 D = none) (G : Good K (F.plus D) σ H ρ δ) : Good K (F.plus D) σ (upd H D o) ρ δ ∧ Mv (Mm (F.plus D) σ ρ) H (Mm (F.plus D) σ ρ) (upd H D o) := by
  obtain ⟨σ0, ρ0, δ0, G0⟩ := G0
  have mv : Mv (Mm (F.plus D) σ ρ) H (Mm (F.plus D) σ ρ) (upd H D o) := fun a u e n => ⟨by rw [upd_ne (fun z => n (by rw [Mm_plus]; exact .inr z))]; exact e, n⟩
  refine ⟨⟨G.len, fun i d e => ?_, fun i ds e => ?_, G.inj, fun a ha => ?_, G.dsl, fun p e => ?_, fun a u e n => ?_⟩, mv⟩
  · obtain ⟨v, e1, r⟩ := G.val i d e
    exact ⟨v, e1, r.mv mv⟩
  · obtain ⟨a, xs, e1, e2, r, n⟩ := G.own i ds e
    exact ⟨a, xs, e1, by rw [upd_ne (fun z => n.1 (.inr z))]; exact e2, r.mv mv, n⟩
  · by_cases hz : a = D
    · rw [hz, upd_same]; exact fun z => nomatch z
    · rw [upd_ne hz]; exact G.m0 a ha
  · obtain ⟨d1, d2, d4, d3⟩ := G.dck p e
    obtain ⟨c1, c2, c4, c3⟩ := G0.dck p e
    exact ⟨d1, d2, d4, d3.ne, d3.ne2, d3.ne3, by rw [upd_ne (ne_of_none c3.one hD)]; exact d3.one, by rw [upd_ne (ne_of_none c3.two hD)]; exact d3.two, by rw [upd_ne (ne_of_none c3.tri hD)]; exact d3.tri⟩
  · have e1 := G0.fr a u e n
    rw [upd_ne (ne_of_none e1 hD)]
    exact G.fr a u e n
/-- back from the block -/
theorem Good.back {K F σ H H1 ρ δ δ1 D vs} (G1 : Good K F σ H1 ρ δ1) (hu : noU ρ vs = true) (hD : H1 D = none) (G : Good K (F.plus D) (L2.wipe σ vs) H (wipeR ρ vs) δ) (mv : Mv (Mm F σ ρ) H1 (Mm F σ ρ) H) : Good K F σ H ρ δ := by
  have an : Mv (Mm (F.plus D) (L2.wipe σ vs) (wipeR ρ vs)) H (Mm F σ ρ) H := fun a o e n => ⟨e, fun z => n (by rw [Mm_wipe hu, Mm_plus]; exact .inl z)⟩
  refine ⟨G1.len, fun i d e => ?_, fun i ds e => ?_, G1.inj, fun a ha => G.m0 a (.inl ha), G1.dsl, fun p e => ?_, G.fr⟩
  · obtain ⟨v, e1, r⟩ := G1.val i d e
    exact ⟨v, e1, r.mv mv⟩
  · have hi : i ∉ vs := fun q => noU_of hu q e
    obtain ⟨a, xs, e1, e2, r, n⟩ := G.own i ds (by rw [wipeR_get, if_neg hi]; exact e)
    rw [wipe_get, if_neg hi] at e1
    exact ⟨a, xs, e1, e2, r.mv an, fun z => n.1 (.inl z), n.2⟩
  · obtain ⟨_, _, _, d3⟩ := G.dck p e
    obtain ⟨d1, d2, d4, _⟩ := G1.dck p e
    exact ⟨d1, d2, d4, d3⟩
theorem list_ext {α : Type} {l l' : List α} (h : ∀ i : Nat, l[i]? = l'[i]?) : l = l' := List.ext_getElem? h
theorem Set1.wipes {sl vs σ σ' ρ ρ'} (h : Set1 sl σ σ' ρ ρ') (hs : ∀ i ∈ sl, i ∈ vs) : L2.wipe σ' vs = L2.wipe σ vs ∧ wipeR ρ' vs = wipeR ρ vs := by
  constructor
  · refine list_ext fun i => ?_
    rw [wipe_get, wipe_get, h.ls]
    by_cases hi : i ∈ vs
    · rw [if_pos hi, if_pos hi]
    · rw [if_neg hi, if_neg hi]; exact h.s i fun q => hi (hs i q)
  · refine list_ext fun i => ?_
    rw [wipeR_get, wipeR_get, h.lr]
    by_cases hi : i ∈ vs
    · rw [if_pos hi, if_pos hi]
    · rw [if_neg hi, if_neg hi]; exact h.r i fun q => hi (hs i q)
theorem wipe_wipe (σ : L2.St) (vs) : L2.wipe (L2.wipe σ vs) vs = L2.wipe σ vs := list_ext fun i => by
  rw [wipe_get, wipe_length, wipe_get]
  by_cases hi : i ∈ vs
  · rw [if_pos hi, if_pos hi]
  · rw [if_neg hi, if_neg hi]
theorem wipeR_wipeR (ρ : List Sl) (vs) : wipeR (wipeR ρ vs) vs = wipeR ρ vs := list_ext fun i => by
  rw [wipeR_get, wipeR_length, wipeR_get]
  by_cases hi : i ∈ vs
  · rw [if_pos hi, if_pos hi]
  · rw [if_neg hi, if_neg hi]
theorem noU_wipe (ρ : List Sl) (vs) : noU (wipeR ρ vs) vs = true := List.all_eq_true.mpr fun i hi => by
  rw [wipeR_get, if_pos hi]
  split <;> rename_i h
  · split at h <;> cases h
  · rfl
theorem Set1.noU {sl vs σ σ' ρ ρ'} (h : Set1 sl σ σ' ρ ρ') (hu : PD.noU ρ vs = true) : PD.noU ρ' vs = true := List.all_eq_true.mpr fun i hi => by
  split
  · rename_i ds e
    exact (noU_of hu hi (h.u i _ e).1).elim
  · rfl
/-- the frame with one more object that stays -/
def Fr.pin (F : Fr) (D : Addr) (o : HO) : Fr := { F with H0 := upd F.H0 D o }
theorem Mm_pin {F D o σ ρ} : Mm (F.pin D o) σ ρ = Mm F σ ρ := rfl
theorem Good.pin {K F σ H ρ δ D o} (G : Good K F σ H ρ δ) (hM : F.M0 D) (h : H D = some o) : Good K (F.pin D o) σ H ρ δ := ⟨G.len, G.val, fun i ds e => by
  obtain ⟨a, xs, e1, e2, r, n⟩ := G.own i ds e
  exact ⟨a, xs, e1, e2, r, n.1, (upd_ne (a := D) (b := a) (fun z => n.1 (by rw [z]; exact hM))).trans n.2⟩, G.inj, G.m0, G.dsl, G.dck, fun a u e n => by
  by_cases hz : a = D
  · subst hz
    have : upd F.H0 a o a = some u := e
    rw [upd_same] at this
    cases this
    exact h
  · have : upd F.H0 D o a = some u := e
    rw [upd_ne hz] at this
    exact G.fr a u this n⟩
theorem Good.unpin {K F σ H ρ δ D o} (h0 : F.H0 D = none) (hM : F.M0 D) (G : Good K (F.pin D o) σ H ρ δ) : Good K F σ H ρ δ := ⟨G.len, G.val, fun i ds e => by
  obtain ⟨a, xs, e1, e2, r, n⟩ := G.own i ds e
  exact ⟨a, xs, e1, e2, r, n.1, (upd_ne (a := D) (b := a) (fun z => n.1 (by rw [z]; exact hM))).symm.trans n.2⟩, G.inj, G.m0, G.dsl, G.dck, fun a u e n => G.fr a u (by
  show upd F.H0 D o a = some u
  rw [upd_ne (ne_of_none e h0)]
  exact e) n⟩
theorem Good.fresh0 {K F σ H ρ δ D} (G : Good K F σ H ρ δ) (h : H D = none) : F.H0 D = none := by
  cases e : F.H0 D with
  | none => rfl
  | some o =>
    have := G.fr D o e fun p hp => ⟨(ne_of_none (G.dck p hp).2.2.2.one h).symm, (ne_of_none (G.dck p hp).2.2.2.two h).symm, (ne_of_none (G.dck p hp).2.2.2.tri h).symm⟩
    rw [h] at this
    cases this
def compL (g : MG) (tt : MT) (te : ME) (ρ : List Sl) : List D → Dk → Option (List D × Dk)
  | [], δ => some ([], δ)
  | d :: ds, δ => (g d ρ).bind fun ρ2 => (tt ρ2 δ).bind fun p => if p.1 = true then (te ρ2 p.2).bind fun q => (compL g tt te ρ ds q.2).map fun r => (q.1 :: r.1, r.2) else compL g tt te ρ ds p.2
def mLc (mi : MA) (vs : List Nat) (g : MG) (tt : MT) (te : ME) : ME := fun ρ δ => (mi ρ δ).bind fun p => if noU ρ vs = true then (compL g tt te (wipeR ρ vs) p.1 p.2).bind fun q => if q.1.length ≤ sizeLine then some (.list q.1, q.2) else none else none
structure PDTs (X : Cx) (ifs : List Expr) (m : MT) : Prop where
  ex : ∃ t, PTs X ifs t ∧ SndT X.K t m
def mYes : MT := fun _ δ => some (true, δ)
theorem pdts_nil {X : Cx} : PDTs X [] mYes := ⟨_, pts_nil, fun F σ H ρ δ d δ' G e Q q => by cases e; exact q _ G (Mv.refl _ _)⟩
theorem pdts_one {X : Cx} {c : Expr} {m : MT} (h : PDT X c m) : PDTs X [c] m := by
  obtain ⟨t, h1, s1⟩ := h.ex
  exact ⟨_, pts_one h1, s1⟩
theorem lc_in {K : PySem.W.Frag} {g : TG} {tt : TT} {te : TE} {vs : List Nat} {mg : MG} {mt : MT} {me : ME} {sl : List Nat} {F : Fr} {σ : L2.St} {H1 : Hp} {ρ : List Sl} {δ1 δ2 : Dk} {J : It} {ds out : List D} {Q : VK}
    (hg : ∀ F σ H ρ δ v d ρ', Good K F σ H ρ δ → Rep K (Mm F σ ρ) H v d → mg d ρ = some ρ' → ∀ Q : L2.St → Hp → Prop, (∀ σ', Good K F σ' H ρ' δ → Mv (Mm F σ ρ) H (Mm F σ' ρ') H → Set1 sl σ σ' ρ ρ' → Q σ' H) → g v σ H Q)
    (ht : SndT K tt mt) (he : Snd K te me) (hs : ∀ i ∈ sl, i ∈ vs) (hu : noU ρ vs = true) (e2 : compL mg mt me (wipeR ρ vs) ds δ1 = some (out, δ2)) (hz : out.length ≤ sizeLine) (G1 : Good K F σ H1 ρ δ1) (Wk : Walks K (Mm F σ ρ) H1 J ds)
    (q : ∀ v H', Good K F σ H' ρ δ2 → Mv (Mm F σ ρ) H1 (Mm F σ ρ) H' → Rep K (Mm F σ ρ) H' v (.list out) → Q v H') : ∀ D, H1 D = none → ∃ W : Nat → Nat → Hp → Prop, (∃ m, W 0 m (upd H1 D (.lst []))) ∧ ∀ i m H, W i m H →
      (J.stop i H ∧ Q (.ref D) H) ∨ (J.go i H ∧ ∃ Nx : Hp → Prop, (∀ H', Nx H' → ∃ m', m' < m ∧ W (i + 1) m' H') ∧ ∀ x H', J.yld i H x H' → g x (L2.wipe σ vs) H' fun σ2 H2 => L2.wipe σ2 vs = L2.wipe σ vs ∧ tt σ2 H2 fun b H3 =>
        if b = true then te σ2 H3 fun y H4 => ∃ acc, H4 D = some (.lst acc) ∧ acc.length < sizeLine ∧ Nx (upd H4 D (.lst (acc ++ [y]))) else Nx H3) := fun D hD => by
  have GW := G1.wipe (vs := vs) hu
  obtain ⟨GP, MP⟩ := GW.plus (o := .lst []) hD
  rw [Mm_wipe hu] at MP
  have nDk : ∀ p, F.dk = some p → D ≠ p.1 ∧ D ≠ p.2 ∧ D ≠ p.3 := fun p hp => ⟨(ne_of_none (G1.dck p hp).2.2.2.one hD).symm, (ne_of_none (G1.dck p hp).2.2.2.two hD).symm, (ne_of_none (G1.dck p hp).2.2.2.tri hD).symm⟩
  have hD0 : (F.plus D).H0 D = none := G1.fresh0 hD
  -- the sets that may change
  have eM : Mm (F.plus D) (L2.wipe σ vs) (wipeR ρ vs) = Mm (F.plus D) σ ρ := Mm_wipe hu
  rw [eM] at MP
  refine ⟨fun i m H => m = ds.length - i ∧ i ≤ ds.length ∧ ∃ δ3 done rest acc, Good K (F.plus D) (L2.wipe σ vs) H (wipeR ρ vs) δ3 ∧ Mv (Mm F σ ρ) H1 (Mm (F.plus D) σ ρ) H ∧ H D = some (.lst acc) ∧ Reps K (Mm (F.plus D) σ ρ) H acc done ∧
    compL mg mt me (wipeR ρ vs) (ds.drop i) δ3 = some (rest, δ2) ∧ done ++ rest = out, ⟨_, rfl, Nat.zero_le _, δ1, [], out, [], GP, MP, upd_same, .nil, e2, rfl⟩, ?_⟩
  rintro i m H2 ⟨rfl, hile, δ3, done, rest, acc, G2, M2, hacc, racc, ec, eo⟩
  have wf2 : ∀ a, Mm (F.plus D) σ ρ a → H2 a ≠ none := by rw [← eM]; exact G2.mm
  by_cases hlt : i < ds.length
  · obtain ⟨go, yl⟩ := (Wk _ H2 M2 wf2 i).1 hlt
    have hld : i < ds.length := hlt
    rw [List.drop_eq_getElem_cons hld] at ec
    refine .inr ⟨go, fun H' => ∃ δ3 done rest acc, Good K (F.plus D) (L2.wipe σ vs) H' (wipeR ρ vs) δ3 ∧ Mv (Mm F σ ρ) H1 (Mm (F.plus D) σ ρ) H' ∧ H' D = some (.lst acc) ∧ Reps K (Mm (F.plus D) σ ρ) H' acc done ∧
      compL mg mt me (wipeR ρ vs) (ds.drop (i + 1)) δ3 = some (rest, δ2) ∧ done ++ rest = out, fun H' h => ⟨ds.length - (i + 1), by omega, rfl, hlt, h⟩, fun x H3 hy => ?_⟩
    obtain ⟨kp, dx, edx, rdx⟩ := yl x H3 hy
    rw [List.getElem?_eq_getElem hld] at edx
    cases edx
    replace G2 := G2.keep kp
    replace M2 := M2.trans (Mv.same kp)
    replace hacc := kp _ _ hacc
    replace racc := racc.mv (Mv.same kp)
    unfold compL at ec
    obtain ⟨ρ2, f1, ec⟩ := Option.bind_eq_some_iff.mp ec
    obtain ⟨⟨b, δ4⟩, f2, ec⟩ := Option.bind_eq_some_iff.mp ec
    dsimp only at ec
    refine hg ((F.plus D).pin D (.lst acc)) (L2.wipe σ vs) H3 (wipeR ρ vs) δ3 x _ ρ2 (G2.pin (.inr rfl) hacc) (by rw [Mm_pin, eM]; exact rdx) f1 _ fun σ2 G3 M3 T3 => ?_
    obtain ⟨w1, w2⟩ := T3.wipes hs
    rw [wipe_wipe] at w1
    rw [wipeR_wipeR] at w2
    have hu2 : noU ρ2 vs = true := T3.noU (noU_wipe ρ vs)
    have eM2 : Mm (F.plus D) σ2 ρ2 = Mm (F.plus D) σ ρ := by
      rw [← Mm_wipe hu2, w1, w2, eM]
    rw [Mm_pin, Mm_pin, eM2, eM] at M3
    refine ⟨w1, ht ((F.plus D).pin D (.lst acc)) σ2 H3 ρ2 δ3 b δ4 G3 f2 _ fun H4 G4 M4 => ?_⟩
    rw [Mm_pin, eM2] at M4
    cases b with
    | false =>
      refine iteF ?_
      rw [if_neg Bool.false_ne_true] at ec
      have GB := (Good.unpin hD0 (.inr rfl) G4).wipe hu2
      rw [w1, w2] at GB
      exact ⟨δ4, done, rest, acc, GB, M2.trans M4, G4.fr D _ upd_same nDk, racc.mv M4, ec, eo⟩
    | true =>
      refine iteT ?_
      rw [if_pos rfl] at ec
      obtain ⟨⟨y, δ5⟩, f3, ec⟩ := Option.bind_eq_some_iff.mp ec
      obtain ⟨⟨more, δ6⟩, f4, ec⟩ := Option.map_eq_some_iff.mp ec
      cases ec
      refine he ((F.plus D).pin D (.lst acc)) σ2 H4 ρ2 δ4 y δ5 G4 f3 _ fun v H5 G5 M5 R5 => ?_
      rw [Mm_pin, eM2] at M5 R5
      have hD5 := G5.fr D _ upd_same nDk
      have GB := (Good.unpin hD0 (.inr rfl) G5).wipe hu2
      rw [w1, w2] at GB
      obtain ⟨GC, MC⟩ := GB.write ⟨_, _, _, G1⟩ hD (o := .lst (acc ++ [v]))
      rw [eM] at MC
      refine ⟨acc, hD5, ?_, δ5, done ++ [y], more, acc ++ [v], GC, ((M2.trans M4).trans M5).trans MC, upd_same, ((racc.mv (M4.trans M5)).append (.cons R5 .nil)).mv MC, f4, by rw [← eo]; simp⟩
      have : out.length = done.length + (more.length + 1) := by rw [← eo]; simp
      rw [racc.length]
      omega
  · have hi' : i = ds.length := by omega
    subst hi'
    refine .inl ⟨(Wk _ H2 M2 wf2 ds.length).2 (Nat.le_refl _), ?_⟩
    rw [List.drop_of_length_le (Nat.le_refl _)] at ec
    cases ec
    rw [List.append_nil] at eo
    subst eo
    have an : Mv (Mm (F.plus D) σ ρ) H2 (Mm F σ ρ) H2 := fun a o e n => ⟨e, fun z => n (by rw [Mm_plus]; exact .inl z)⟩
    have M3 := M2.trans an
    exact q _ _ (G1.back hu hD G2 M3) M3 (.lst ⟨G1.mfree hD, hacc⟩ (racc.mv an))
theorem snd_lc {K wi g tt te vs mi mg mt me} {sl : List Nat} (hi : ∀ F σ H ρ δ ds δ', Good K F σ H ρ δ → mi ρ δ = some (ds, δ') → ∀ R : It → Hp → Prop, (∀ J H', Good K F σ H' ρ δ' → Mv (Mm F σ ρ) H (Mm F σ ρ) H' → Walks K (Mm F σ ρ) H' J ds → R J H') → wi σ H R)
    (hg : ∀ F σ H ρ δ v d ρ', Good K F σ H ρ δ → Rep K (Mm F σ ρ) H v d → mg d ρ = some ρ' → ∀ Q : L2.St → Hp → Prop, (∀ σ', Good K F σ' H ρ' δ → Mv (Mm F σ ρ) H (Mm F σ' ρ') H → Set1 sl σ σ' ρ ρ' → Q σ' H) → g v σ H Q)
    (ht : SndT K tt mt) (he : Snd K te me) (hs : ∀ i ∈ sl, i ∈ vs) : Snd K (tLc wi g tt te vs) (mLc mi vs mg mt me) := fun F σ H ρ δ d δ' G e Q q => by
  unfold mLc at e
  obtain ⟨⟨ds, δ1⟩, e1, e⟩ := Option.bind_eq_some_iff.mp e
  dsimp only at e
  split at e
  · rename_i hu
    obtain ⟨⟨out, δ2⟩, e2, e⟩ := Option.bind_eq_some_iff.mp e
    dsimp only at e
    split at e
    · rename_i hz
      obtain ⟨rfl, rfl⟩ : PyData.list out = d ∧ δ2 = δ' := by
        have := Option.some.inj e
        exact ⟨congrArg Prod.fst this, congrArg Prod.snd this⟩
      exact hi F σ H ρ δ ds δ1 G e1 _ fun J H1 G1 M1 Wk => lc_in hg ht he hs hu e2 hz G1 Wk fun v H' G' M' R => q v H' G' (M1.trans M') R
    · cases e
  · cases e
end PD

namespace PD
open PySem PySem.Spec PyProof.Rows L2
section
variable {X : Cx} {elt tg iter : Expr} {ifs : List Expr} {scope : Scope} {own : List (Str × Nat)} {pos : Pos} {mi : MA} {mg : MG} {mt : MT} {me : ME} {sl : List Nat}
structure Blk (X : Cx) (scope : Scope) (own : List (Str × Nat)) (tg : Expr) (ifs : List Expr) (elt : Expr) (sl : List Nat) (mg : MG) (mt : MT) (me : ME) : Prop where
  g : ∀ (s : Shared) (H : Hp) (C : Addr) (cl : List (Str × Addr)) (fp : List Addr), PDG (X.blk s H scope (compEnvC scope cl C X.env) fp) tg sl mg
  t : ∀ (s : Shared) (H : Hp) (C : Addr) (cl : List (Str × Addr)) (fp : List Addr), PDTs (X.blk s H scope (compEnvC scope cl C X.env) fp) ifs mt
  e : ∀ (s : Shared) (H : Hp) (C : Addr) (cl : List (Str × Addr)) (fp : List Addr), PD (X.blk s H scope (compEnvC scope cl C X.env) fp) elt me
  o : ∀ i ∈ sl, i ∈ own.map (·.2)
theorem Blk.all (B : Blk X scope own tg ifs elt sl mg mt me) : ∃ (g : TG) (tt : TT) (te : TE),
    (∀ (s : Shared) (H : Hp) (C : Addr) (cl : List (Str × Addr)) (fp : List Addr), PG (X.blk s H scope (compEnvC scope cl C X.env) fp) tg g) ∧ (∀ (s : Shared) (H : Hp) (C : Addr) (cl : List (Str × Addr)) (fp : List Addr), PTs (X.blk s H scope (compEnvC scope cl C X.env) fp) ifs tt) ∧
    (∀ (s : Shared) (H : Hp) (C : Addr) (cl : List (Str × Addr)) (fp : List Addr), PE (X.blk s H scope (compEnvC scope cl C X.env) fp) elt te) ∧
    (∀ F σ H ρ δ v d ρ', Good X.K F σ H ρ δ → Rep X.K (Mm F σ ρ) H v d → mg d ρ = some ρ' → ∀ Q : L2.St → Hp → Prop, (∀ σ', Good X.K F σ' H ρ' δ → Mv (Mm F σ ρ) H (Mm F σ' ρ') H → Set1 sl σ σ' ρ ρ' → Q σ' H) → g v σ H Q) ∧
    SndT X.K tt mt ∧ Snd X.K te me := by
  refine ⟨fun v σ H Q => ∀ s h C cl fp, (B.g s h C cl fp).ex.choose v σ H Q, fun σ H Q => ∀ s h C cl fp, (B.t s h C cl fp).ex.choose σ H Q, fun σ H Q => ∀ s h C cl fp, (B.e s h C cl fp).ex.choose σ H Q,
    fun s h C cl fp => ⟨fun pins s' σ H v u Q I r q => (B.g s h C cl fp).ex.choose_spec.1.run pins s' σ H v u Q I r (q s h C cl fp)⟩,
    fun s h C cl fp => ⟨fun pins s' σ H Q I q => (B.t s h C cl fp).ex.choose_spec.1.run pins s' σ H Q I (q s h C cl fp)⟩,
    fun s h C cl fp => ⟨fun pins s' σ H Q I q => (B.e s h C cl fp).ex.choose_spec.1.run pins s' σ H Q I (q s h C cl fp)⟩,
    fun F σ H ρ δ v d ρ' G r e Q q s h C cl fp => (B.g s h C cl fp).ex.choose_spec.2 F σ H ρ δ v d ρ' G r e Q q,
    fun F σ H ρ δ d δ' G e Q q s h C cl fp => (B.t s h C cl fp).ex.choose_spec.2 F σ H ρ δ d δ' G e Q q,
    fun F σ H ρ δ d δ' G e Q q s h C cl fp => (B.e s h C cl fp).ex.choose_spec.2 F σ H ρ δ d δ' G e Q q⟩
theorem pd_lc (hc : X.calm = true) (hN : X.N.Nodup) (hi : PDI X tg iter mi) (ok : BlkOk X.N X.env.scope scope own) (B : Blk X scope own tg ifs elt sl mg mt me) (hs : ∀ x, foldedSetIterable iter X.env x = pure x := by intro _; rfl) :
    PD X (.ListComp elt [⟨tg, iter, ifs, 0⟩] scope pos) (mLc mi (own.map (·.2)) mg mt me) := by
  obtain ⟨wi, h1, s1⟩ := hi.ex
  obtain ⟨g, tt, te, p1, p2, p3, s2, s3, s4⟩ := B.all
  exact ⟨_, pe_lc hc hN h1 ok p1 p2 p3 hs, snd_lc s1 s2 s3 s4 B.o⟩
end

/-! ### statements -/
inductive Fl where
  | nx | rt (d : D) | bk | ct
abbrev MS := List Sl → Dk → Option (Fl × List Sl × Dk)
def Post (K : PySem.W.Frag) (F : Fr) (D : Ends) (fl : Fl) (σ : L2.St) (H : Hp) (ρ : List Sl) : Prop := match fl with
  | .nx => D.nx σ H
  | .bk => D.bk σ H
  | .ct => D.ct σ H
  | .rt d => ∀ v, Rep K (Mm F σ ρ) H v d → D.rt v H
def SndS (K : PySem.W.Frag) (t : TS) (m : MS) : Prop := ∀ F σ H ρ δ fl ρ' δ', Good K F σ H ρ δ → m ρ δ = some (fl, ρ', δ') → ∀ D : Ends,
  (∀ σ' H', Good K F σ' H' ρ' δ' → Mv (Mm F σ ρ) H (Mm F σ' ρ') H' → match fl with
    | .nx => D.nx σ' H'
    | .bk => D.bk σ' H'
    | .ct => D.ct σ' H'
    | .rt d => ∀ v, Rep K (Mm F σ' ρ') H' v d → D.rt v H') → t D σ H
structure PDS (X : Cx) (st : Stmt) (m : MS) : Prop where
  ex : ∃ t, PS X st t ∧ SndS X.K t m
structure PDSs (X : Cx) (sts : List Stmt) (m : MS) : Prop where
  ex : ∃ t, PSs X sts t ∧ SndS X.K t m
def sNext : MS := fun ρ δ => some (.nx, ρ, δ)
def sSeq (a b : MS) : MS := fun ρ δ => (a ρ δ).bind fun p => match p.1 with
  | .nx => b p.2.1 p.2.2
  | f => some (f, p.2)
theorem snd_next {K} : SndS K tNext sNext := fun F σ H ρ δ fl ρ' δ' G e D q => by
  cases e
  exact q σ H G (Mv.refl _ _)
theorem snd_seq {K t u a b} (h : SndS K t a) (g : SndS K u b) : SndS K (tSeq t u) (sSeq a b) := fun F σ H ρ δ fl ρ' δ' G e D q => by
  unfold sSeq at e
  obtain ⟨⟨f, ρ1, δ1⟩, e1, e⟩ := Option.bind_eq_some_iff.mp e
  cases f with
  | nx => exact h F σ H ρ δ .nx ρ1 δ1 G e1 _ fun σ1 H1 G1 M1 => g F σ1 H1 ρ1 δ1 fl ρ' δ' G1 e D fun σ2 H2 G2 M2 => q σ2 H2 G2 (M1.trans M2)
  | bk => cases e; exact h F σ H ρ δ _ _ _ G e1 _ fun σ1 H1 G1 M1 => q σ1 H1 G1 M1
  | ct => cases e; exact h F σ H ρ δ _ _ _ G e1 _ fun σ1 H1 G1 M1 => q σ1 H1 G1 M1
  | rt d => cases e; exact h F σ H ρ δ _ _ _ G e1 _ fun σ1 H1 G1 M1 => q σ1 H1 G1 M1
section
variable {X : Cx} {st : Stmt} {rest : List Stmt} {m m' : MS} {a b c e tg : Expr} {ma mb : ME} {nc : MT} {pos : Pos} {sl : List Nat} {mg : MG}
theorem pdss_nil : PDSs X [] sNext := ⟨_, pss_nil, snd_next⟩
theorem pdss_cons (h1 : PDS X st m) (h2 : PDSs X rest m') : PDSs X (st :: rest) (sSeq m m') := by
  obtain ⟨t, p1, s1⟩ := h1.ex
  obtain ⟨u, p2, s2⟩ := h2.ex
  exact ⟨_, pss_cons p1 p2, snd_seq s1 s2⟩
theorem pdss_one (h1 : PDS X st m) : PDSs X [st] m := by
  obtain ⟨t, p1, s1⟩ := h1.ex
  exact ⟨_, pss_one p1, s1⟩
/-- a list that grew, from now on as it is -/
def sFrz (i : Nat) (s : MS) : MS := fun ρ δ => match ρ[i]? with
  | some (.own (.lst ds)) => s (ρ.set i (.val (.list ds))) δ
  | _ => none
theorem snd_frz {K t s} (i : Nat) (h : SndS K t s) : SndS K t (sFrz i s) := fun F σ H ρ δ fl ρ' δ' G e D q => by
  unfold sFrz at e
  split at e
  · rename_i ds hi
    obtain ⟨a, xs, e1, e2, r, n⟩ := G.uni i ds hi
    have hl : i < ρ.length := by
      rcases Nat.lt_or_ge i ρ.length with h | h
      · exact h
      · rw [List.getElem?_eq_none h] at hi; cases hi
    have hset : σ.set i (some (.ref a)) = σ := by
      refine list_ext fun j => ?_
      by_cases hj : i = j
      · subst hj; rw [List.getElem?_set_self (by rw [G.len]; exact hl), e1]
      · rw [List.getElem?_set_ne hj]
    have hM : ∀ b, Mm F σ (ρ.set i (.val (.list ds))) b → Mm F σ ρ b ∧ b ≠ a := fun b z => by
      rcases z with z | ⟨j, es, f1, f2⟩
      · exact ⟨.inl z, fun y => n.1 (y ▸ z)⟩
      · by_cases hj : i = j
        · subst hj; rw [List.getElem?_set_self hl] at f1; cases f1
        · rw [List.getElem?_set_ne hj] at f1
          exact ⟨.inr ⟨j, es, f1, f2⟩, fun y => by subst y; exact hj (G.inj i j _ es b hi f1 e1 f2)⟩
    have mv : Mv (Mm F σ ρ) H (Mm F σ (ρ.set i (.val (.list ds)))) H := fun b o f g => ⟨f, fun z => g (hM b z).1⟩
    have un : ∀ (j : Nat) es, (ρ.set i (.val (.list ds)))[j]? = some (.own es) → ρ[j]? = some (.own es) := fun j es f => by
      by_cases hj : i = j
      · subst hj; rw [List.getElem?_set_self hl] at f; cases f
      · rw [List.getElem?_set_ne hj] at f; exact f
    have G1 : Good K F σ H (ρ.set i (.val (.list ds))) δ := by
      refine ⟨by rw [List.length_set]; exact G.len, fun j d f => ?_, fun j es f => ?_, fun j k es fs b f1 f2 f3 f4 => G.inj j k es fs b (un j es f1) (un k fs f2) f3 f4, G.m0, fun j f => ?_, G.dck, G.fr⟩
      · by_cases hj : i = j
        · subst hj
          rw [List.getElem?_set_self hl] at f
          cases f
          exact ⟨_, e1, .lst ⟨fun z => (hM a z).2 rfl, e2⟩ (r.mv mv)⟩
        · rw [List.getElem?_set_ne hj] at f
          obtain ⟨v, g1, g2⟩ := G.val j d f
          exact ⟨v, g1, g2.mv mv⟩
      · obtain ⟨b, ys, g1, g2, g3, g4⟩ := G.own j es (un j es f)
        exact ⟨b, ys, g1, g2, g3.mv mv, g4⟩
      · by_cases hj : i = j
        · subst hj; rw [List.getElem?_set_self hl] at f; cases f
        · rw [List.getElem?_set_ne hj] at f
          exact G.dsl j f
    exact h F σ H _ δ fl ρ' δ' G1 e D fun σ1 H1 G2 M2 => q σ1 H1 G2 (mv.trans M2)
  · cases e
theorem pdss_frz (i : Nat) (h : PDSs X rest m) : PDSs X rest (sFrz i m) := by
  obtain ⟨t, p1, s1⟩ := h.ex
  exact ⟨_, p1, snd_frz i s1⟩
theorem pds_frz (i : Nat) (h : PDS X st m) : PDS X st (sFrz i m) := by
  obtain ⟨t, p1, s1⟩ := h.ex
  exact ⟨_, p1, snd_frz i s1⟩
def sAsg (me : ME) (g : MG) : MS := fun ρ δ => (me ρ δ).bind fun p => (g p.1 ρ).map fun ρ1 => (.nx, ρ1, p.2)
theorem snd_asg {K te g m mg} {sl : List Nat} (h : Snd K te m) (hg : ∀ F σ H ρ δ v d ρ', Good K F σ H ρ δ → Rep K (Mm F σ ρ) H v d → mg d ρ = some ρ' → ∀ Q : L2.St → Hp → Prop, (∀ σ', Good K F σ' H ρ' δ → Mv (Mm F σ ρ) H (Mm F σ' ρ') H → Set1 sl σ σ' ρ ρ' → Q σ' H) → g v σ H Q) : SndS K (tAsg te g) (sAsg m mg) := fun F σ H ρ δ fl ρ' δ' G e D q => by
  obtain ⟨⟨x, δ1⟩, e1, e⟩ := Option.bind_eq_some_iff.mp e
  obtain ⟨ρ1, e2, e⟩ := Option.map_eq_some_iff.mp e
  cases e
  exact h F σ H ρ δ x _ G e1 _ fun v H1 G1 M1 R1 => hg F σ H1 ρ _ v x _ G1 R1 e2 _ fun σ2 G2 M2 _ => q σ2 H1 G2 (M1.trans M2)
theorem pds_asg (he : PD X e ma) (hg : PDG X tg sl mg) (hs : swapsWithSole [tg] e pos.line X.env = pure false := by rfl) (hw : swappedStores [tg] e X.env = pure none := by rfl) (h1 : (assignEach [tg] X.env).map (·.2) = [assign tg X.env] := by rfl) : PDS X (.Assign [tg] e pos) (sAsg ma mg) := by
  obtain ⟨t, p1, s1⟩ := he.ex
  obtain ⟨g, p2, s2⟩ := hg.ex
  exact ⟨_, ps_asg p1 p2 hs hw h1, snd_asg s1 s2⟩
theorem pg_set {K} (i : Nat) : ∀ F σ H ρ δ v d ρ', Good K F σ H ρ δ → Rep K (Mm F σ ρ) H v d → gSet i d ρ = some ρ' → ∀ Q : L2.St → Hp → Prop, (∀ σ', Good K F σ' H ρ' δ → Mv (Mm F σ ρ) H (Mm F σ' ρ') H → Set1 [i] σ σ' ρ ρ' → Q σ' H) → gName i v σ H Q := fun F σ H ρ δ v d ρ' G r e Q q => by
  cases e
  exact q _ (G.set i r).1 (G.set i r).2 (Set1.set i)
theorem pds_set (i : Nat) {x : Str} {pos' : Pos} (hN : X.N.Nodup) (he : PD X e ma) (hi : X.N[i]? = some x := by rfl) (hx : Loc X.env.scope x := by first | exact Or.inl rfl | exact Or.inr rfl) (hs : swapsWith e (some (.Name x pos')) pos.line X.env = pure false := by rfl) (hf : X.fn x = true ∨ X.env.scope.names.lookup x = some .local := by first | exact .inl rfl | exact .inr rfl | assumption) : PDS X (.Assign [.Name x pos'] e pos) (sAsg ma (gSet i)) := by
  obtain ⟨t, p1, s1⟩ := he.ex
  exact ⟨_, ps_set hN hi hx p1 hs hf, snd_asg s1 (pg_set i)⟩
theorem pds_setLc (i : Nat) {y : Str} {py spos : Pos} {elt iter : Expr} {ifs : List Expr} {scope : Scope} {own : List (Str × Nat)} {mi : MA} {mt : MT} (hc : X.calm = true) (hN : X.N.Nodup) (hi : PDI X tg iter mi) (ok : BlkOk X.N X.env.scope scope own) (B : Blk X scope own tg ifs elt sl mg mt ma)
    (hsw : swapsWith (.ListComp elt [⟨tg, iter, ifs, 0⟩] scope pos) (some (.Name y py)) spos.line X.env = pure true) (hy : X.N[i]? = some y := by rfl) (hyl : X.env.scope.names.lookup y = some .local := by rfl)  (hs : ∀ x, foldedSetIterable iter X.env x = pure x := by intro _; rfl) :
    PDS X (.Assign [.Name y py] (.ListComp elt [⟨tg, iter, ifs, 0⟩] scope pos) spos) (sAsg (mLc mi (own.map (·.2)) mg mt ma) (gSet i)) := by
  obtain ⟨wi, h1, s1⟩ := hi.ex
  obtain ⟨g, tt, te, p1, p2, p3, s2, s3, s4⟩ := B.all
  exact ⟨_, ps_setLc hc hN hy hyl hsw h1 ok p1 p2 p3 hs, snd_asg (snd_lc s1 s2 s3 s4 B.o) (pg_set i)⟩
def sDrop (m : ME) : MS := fun ρ δ => (m ρ δ).map fun p => (.nx, ρ, p.2)
def sRet (m : ME) : MS := fun ρ δ => (m ρ δ).map fun p => (.rt p.1, ρ, p.2)
theorem pds_ret (he : PD X e ma) : PDS X (.Return (some e) pos) (sRet ma) := by
  obtain ⟨t, p1, s1⟩ := he.ex
  refine ⟨_, ps_ret p1, fun F σ H ρ δ fl ρ' δ' G e D q => ?_⟩
  obtain ⟨⟨x, δ1⟩, e1, e⟩ := Option.map_eq_some_iff.mp e
  cases e
  exact s1 F σ H ρ δ x _ G e1 _ fun v H1 G1 M1 R1 => q σ H1 G1 M1 v R1
def sIf (c : MT) (a b : MS) : MS := fun ρ δ => (c ρ δ).bind fun p => if p.1 = true then a ρ p.2 else b ρ p.2
theorem pds_if {x y : List Stmt} (hc : PDT X c nc) (ha : PDSs X x m) (hb : PDSs X y m') : PDS X (.If c x y pos) (sIf nc m m') := by
  obtain ⟨t, p0, s0⟩ := hc.ex
  obtain ⟨u, p1, s1⟩ := ha.ex
  obtain ⟨w, p2, s2⟩ := hb.ex
  refine ⟨_, ps_if p0 p1 p2, fun F σ H ρ δ fl ρ' δ' G e D q => ?_⟩
  obtain ⟨⟨x, δ1⟩, e1, e⟩ := Option.bind_eq_some_iff.mp e
  refine s0 F σ H ρ δ x δ1 G e1 _ fun H1 G1 M1 => ?_
  cases x with
  | true => exact iteT (s1 F σ H1 ρ δ1 fl ρ' δ' G1 e D fun σ2 H2 G2 M2 => q σ2 H2 G2 (M1.trans M2))
  | false => exact iteF (s2 F σ H1 ρ δ1 fl ρ' δ' G1 e D fun σ2 H2 G2 M2 => q σ2 H2 G2 (M1.trans M2))
theorem pds_pass : PDS X (.Pass pos) sNext := ⟨_, ps_pass, snd_next⟩
def sBrk : MS := fun ρ δ => some (.bk, ρ, δ)
def sCnt : MS := fun ρ δ => some (.ct, ρ, δ)
theorem pds_brk : PDS X (.Break pos) sBrk := ⟨_, ps_break, fun F σ H ρ δ fl ρ' δ' G e D q => by cases e; exact q σ H G (Mv.refl _ _)⟩
theorem pds_cnt : PDS X (.Continue pos) sCnt := ⟨_, ps_continue, fun F σ H ρ δ fl ρ' δ' G e D q => by cases e; exact q σ H G (Mv.refl _ _)⟩
/-- x op= e on ints and texts -/
structure AugS (X : Cx) (op : Operator) (f : D → D → Option D) : Prop where
  ex : ∃ r : TIp, PIp X op r ∧ OpS X.K r f
theorem as_add : AugS X .Add (onI (fun _ _ => true) fun i j => .int (i + j)) := ⟨_, iop_add, ops_I0 fun _ _ _ _ => .int _⟩
theorem as_sub : AugS X .Sub (onI (fun _ _ => true) fun i j => .int (i - j)) := ⟨_, iop_sub, ops_I0 fun _ _ _ _ => .int _⟩
theorem as_mul : AugS X .Mult mulI := ⟨_, iop_mul, ops_I (fun _ _ h => mulOk_of h) fun _ _ _ _ => .int _⟩
def sAug (i : Nat) (f : D → D → Option D) (m : ME) : MS := fun ρ δ => match ρ[i]? with
  | some (.val x) => (m ρ δ).bind fun p => (f x p.1).map fun z => (.nx, ρ.set i (.val z), p.2)
  | _ => none
theorem pds_aug (i : Nat) {x : Str} {op : Operator} {f : D → D → Option D} {pos' : Pos} (hN : X.N.Nodup) (ho : AugS X op f) (he : PD X e ma) (hi : X.N[i]? = some x := by rfl) (hx : Loc X.env.scope x := by first | exact Or.inl rfl | exact Or.inr rfl) (hf : X.fn x = true ∨ X.env.scope.names.lookup x = some .local := by first | exact .inl rfl | exact .inr rfl | assumption) :
    PDS X (.AugAssign (.Name x pos') op e pos) (sAug i f ma) := by
  obtain ⟨r, o1, o2⟩ := ho.ex
  obtain ⟨t, p1, s1⟩ := he.ex
  refine ⟨_, ps_aug hN hi hx p1 o1 hf, fun F σ H ρ δ fl ρ' δ' G e D q => ?_⟩
  unfold sAug at e
  split at e
  · rename_i d hd
    obtain ⟨⟨y, δ1⟩, e1, e⟩ := Option.bind_eq_some_iff.mp e
    obtain ⟨z, e2, e⟩ := Option.map_eq_some_iff.mp e
    cases e
    obtain ⟨v, g1, g2⟩ := G.val i d hd
    refine ⟨v, g1, s1 F σ H ρ δ y _ G e1 _ fun u H1 G1 M1 R1 => ?_⟩
    refine o2 F σ H1 ρ _ v u d y z G1 (g2.mv M1) R1 e2 _ fun w H2 k R2 => ?_
    obtain ⟨G3, M3⟩ := (G1.keep k).set i R2
    exact q _ _ G3 ((M1.trans (Mv.same k)).trans M3)
  · cases e
end
end PD

namespace PD
open PySem PySem.Spec PyProof.Rows L2

/-! ### a list that grows -/
theorem get_set_self {α : Type} {l : List α} {i : Nat} {x y : α} (h : (l.set i x)[i]? = some y) : x = y := by
  by_cases hl : i < l.length
  · rw [List.getElem?_set_self hl] at h; exact Option.some.inj h
  · rw [List.getElem?_eq_none (by simpa using hl)] at h; cases h
theorem Good.ownNew {K F σ H ρ δ p vs ds} (G : Good K F σ H ρ δ) (i : Nat) (hi : i < ρ.length) (hp : H p = none) (r : OwR K (Mm F σ ρ) H vs ds) :
    Good K F (σ.set i (some (.ref p))) (upd H p vs) (ρ.set i (.own ds)) δ ∧ Mv (Mm F σ ρ) H (Mm F (σ.set i (some (.ref p))) (ρ.set i (.own ds))) (upd H p vs) := by
  have hiσ : i < σ.length := by rw [G.len]; exact hi
  have un : ∀ (j : Nat) es, i ≠ j → (ρ.set i (.own ds))[j]? = some (.own es) → ρ[j]? = some (.own es) := fun j es hj e => by
    rw [List.getElem?_set_ne hj] at e; exact e
  have hM : ∀ a, Mm F (σ.set i (some (.ref p))) (ρ.set i (.own ds)) a → Mm F σ ρ a ∨ a = p := fun a z => by
    rcases z with z | ⟨j, es, e1, e2⟩
    · exact .inl (.inl z)
    · by_cases hj : i = j
      · subst hj
        have := get_set_self e2
        cases this
        exact .inr rfl
      · rw [List.getElem?_set_ne hj] at e1 e2
        exact .inl (.inr ⟨j, es, e1, e2⟩)
  have mv : Mv (Mm F σ ρ) H (Mm F (σ.set i (some (.ref p))) (ρ.set i (.own ds))) (upd H p vs) := fun a o e n => ⟨upd_keeps hp a o e, fun z => (hM a z).elim n (ne_of_none e hp)⟩
  refine ⟨⟨by rw [List.length_set, List.length_set]; exact G.len, fun j d e => ?_, fun j es e => ?_, fun j k es fs a e1 e2 e3 e4 => ?_, fun a ha => ?_, fun j e => ?_, fun q e => ?_, fun a o e n => upd_keeps hp _ _ (G.fr a o e n)⟩, mv⟩
  · by_cases hj : i = j
    · subst hj; rw [List.getElem?_set_self hi] at e; cases e
    · rw [List.getElem?_set_ne hj] at e ⊢
      obtain ⟨v, e1, r1⟩ := G.val j d e
      exact ⟨v, e1, r1.mv mv⟩
  · by_cases hj : i = j
    · subst hj
      rw [List.getElem?_set_self hi] at e
      cases e
      exact ⟨p, vs, List.getElem?_set_self hiσ, upd_same, r.mv mv, fun z => G.m0 p z hp, G.fresh0 hp⟩
    · rw [List.getElem?_set_ne hj] at e ⊢
      obtain ⟨a, xs, e1, e2, r1, n⟩ := G.own j es e
      exact ⟨a, xs, e1, upd_keeps hp _ _ e2, r1.mv mv, n⟩
  · by_cases hj : i = j
    · by_cases hk : i = k
      · exact hj.symm.trans hk
      · subst hj
        have z := get_set_self e3
        cases z
        rw [List.getElem?_set_ne hk] at e2 e4
        obtain ⟨b, xs, f1, f2, _⟩ := G.own k fs e2
        rw [e4] at f1; cases f1
        rw [hp] at f2; cases f2
    · by_cases hk : i = k
      · subst hk
        have z := get_set_self e4
        cases z
        rw [List.getElem?_set_ne hj] at e1 e3
        obtain ⟨b, xs, f1, f2, _⟩ := G.own j es e1
        rw [e3] at f1; cases f1
        rw [hp] at f2; cases f2
      · rw [List.getElem?_set_ne hj] at e1 e3
        rw [List.getElem?_set_ne hk] at e2 e4
        exact G.inj j k es fs a e1 e2 e3 e4
  · cases e : H a with
    | none => exact absurd e (G.m0 a ha)
    | some o => rw [upd_keeps hp a o e]; exact fun z => nomatch z
  · by_cases hj : i = j
    · subst hj; rw [List.getElem?_set_self hi] at e; cases e
    · rw [List.getElem?_set_ne hj] at e ⊢
      exact G.dsl j e
  · obtain ⟨d1, d2, d4, d3⟩ := G.dck q e
    exact ⟨d1, d2, d4, d3.ne, d3.ne2, d3.ne3, upd_keeps hp _ _ d3.one, upd_keeps hp _ _ d3.two, upd_keeps hp _ _ d3.tri⟩
theorem Good.ownWrite {K F σ H ρ δ a ys ds es} (G : Good K F σ H ρ δ) (i : Nat) (hi : ρ[i]? = some (.own ds)) (ha : σ[i]? = some (some (.ref a))) (r : OwR K (Mm F σ ρ) H ys es) :
    Good K F σ (upd H a ys) (ρ.set i (.own es)) δ ∧ Mv (Mm F σ ρ) H (Mm F σ (ρ.set i (.own es))) (upd H a ys) := by
  have hl : i < ρ.length := by
    rcases Nat.lt_or_ge i ρ.length with h | h
    · exact h
    · rw [List.getElem?_eq_none h] at hi; cases hi
  have eM : Mm F σ (ρ.set i (.own es)) = Mm F σ ρ := by
    funext b
    refine propext ⟨fun z => ?_, fun z => ?_⟩
    · rcases z with z | ⟨j, fs, e1, e2⟩
      · exact .inl z
      · by_cases hj : i = j
        · subst hj; exact .inr ⟨i, ds, hi, e2⟩
        · rw [List.getElem?_set_ne hj] at e1; exact .inr ⟨j, fs, e1, e2⟩
    · rcases z with z | ⟨j, fs, e1, e2⟩
      · exact .inl z
      · by_cases hj : i = j
        · subst hj; exact .inr ⟨i, es, List.getElem?_set_self hl, e2⟩
        · exact .inr ⟨j, fs, by rw [List.getElem?_set_ne hj]; exact e1, e2⟩
  rw [eM]
  have mv : Mv (Mm F σ ρ) H (Mm F σ ρ) (upd H a ys) := fun b o e n => ⟨by rw [upd_ne (fun z => n (.inr ⟨i, ds, hi, by rw [z]; exact ha⟩))]; exact e, n⟩
  obtain ⟨a', xs', f1, f2, f3, n0, n1⟩ := G.own i ds hi
  rw [ha] at f1
  cases f1
  refine ⟨⟨by rw [List.length_set]; exact G.len, fun j d e => ?_, fun j fs e => ?_, fun j k fs gs b e1 e2 e3 e4 => ?_, fun b hb => ?_, fun j e => ?_, fun q e => ?_, fun b o e n => ?_⟩, mv⟩
  · rw [eM]
    by_cases hj : i = j
    · subst hj; rw [List.getElem?_set_self hl] at e; cases e
    · rw [List.getElem?_set_ne hj] at e
      obtain ⟨v, e1, r1⟩ := G.val j d e
      exact ⟨v, e1, r1.mv mv⟩
  · rw [eM]
    by_cases hj : i = j
    · subst hj
      rw [List.getElem?_set_self hl] at e
      cases e
      exact ⟨a, ys, ha, upd_same, r.mv mv, n0, n1⟩
    · rw [List.getElem?_set_ne hj] at e
      obtain ⟨b, zs, e1, e2, r1, n⟩ := G.own j fs e
      exact ⟨b, zs, e1, by rw [upd_ne (fun z => hj (G.inj i j ds fs a hi e ha (by rw [← z]; exact e1)))]; exact e2, r1.mv mv, n⟩
  · have g : ∀ (j : Nat) fs, (ρ.set i (.own es))[j]? = some (.own fs) → ∃ gs, ρ[j]? = some (.own gs) := fun j fs e => by
      by_cases hj : i = j
      · subst hj; exact ⟨ds, hi⟩
      · rw [List.getElem?_set_ne hj] at e; exact ⟨fs, e⟩
    obtain ⟨fs', e1⟩ := g j fs e1
    obtain ⟨gs', e2⟩ := g k gs e2
    exact G.inj j k fs' gs' b e1 e2 e3 e4
  · by_cases hz : b = a
    · rw [hz, upd_same]; exact fun z => nomatch z
    · rw [upd_ne hz]; exact G.m0 b hb
  · by_cases hj : i = j
    · subst hj; rw [List.getElem?_set_self hl] at e; cases e
    · rw [List.getElem?_set_ne hj] at e
      exact G.dsl j e
  · obtain ⟨d1, d2, d4, d3⟩ := G.dck q e
    exact ⟨d1, d2, d4, d3.ne, d3.ne2, d3.ne3, by rw [upd_ne (fun z => n0 (by rw [← z]; exact d1))]; exact d3.one, by rw [upd_ne (fun z => n0 (by rw [← z]; exact d2))]; exact d3.two, by rw [upd_ne (fun z => n0 (by rw [← z]; exact d4))]; exact d3.tri⟩
  · rw [upd_ne (fun z => by rw [z, n1] at e; cases e)]
    exact G.fr b o e n
theorem Good.uniNew {K F σ H ρ δ p vs ds} (G : Good K F σ H ρ δ) (i : Nat) (hi : i < ρ.length) (hp : H p = none) (r : Reps K (Mm F σ ρ) H vs ds) :
    Good K F (σ.set i (some (.ref p))) (upd H p (.lst vs)) (ρ.set i (.uni ds)) δ ∧ Mv (Mm F σ ρ) H (Mm F (σ.set i (some (.ref p))) (ρ.set i (.uni ds))) (upd H p (.lst vs)) := G.ownNew i hi hp (.lst r)
theorem Good.uniWrite {K F σ H ρ δ a ys ds es} (G : Good K F σ H ρ δ) (i : Nat) (hi : ρ[i]? = some (.uni ds)) (ha : σ[i]? = some (some (.ref a))) (r : Reps K (Mm F σ ρ) H ys es) :
    Good K F σ (upd H a (.lst ys)) (ρ.set i (.uni es)) δ ∧ Mv (Mm F σ ρ) H (Mm F σ (ρ.set i (.uni es))) (upd H a (.lst ys)) := G.ownWrite i hi ha (.lst r)
section
variable {X : Cx} {st : Stmt} {rest : List Stmt} {m m' : MS} {a b c e tg iter : Expr} {es : List Expr} {ma mb : ME} {mr mi : MA} {nc : MT} {pos : Pos} {sl : List Nat} {mg : MG}
def sUni (i : Nat) (r : MA) : MS := fun ρ δ => (r ρ δ).bind fun p => if p.1.length ≤ sizeLine ∧ i < ρ.length then some (.nx, ρ.set i (.uni p.1), p.2) else none
theorem pds_uni (i : Nat) {x : Str} {pos' p2 : Pos} (hN : X.N.Nodup) (he : PDA X es mr) (hi : X.N[i]? = some x := by rfl) (hx : Loc X.env.scope x := by first | exact Or.inl rfl | exact Or.inr rfl) (hs : swapsWith (.List es p2) (some (.Name x pos')) pos.line X.env = pure false := by rfl) (hf : X.fn x = true ∨ X.env.scope.names.lookup x = some .local := by first | exact .inl rfl | exact .inr rfl | assumption) :
    PDS X (.Assign [.Name x pos'] (.List es p2) pos) (sUni i mr) := by
  obtain ⟨t, p1, s1⟩ := he.ex
  refine ⟨_, ps_set hN hi hx (pe_lst p1) hs hf, fun F σ H ρ δ fl ρ' δ' G e D q => ?_⟩
  obtain ⟨⟨ds, δ1⟩, e1, e⟩ := Option.bind_eq_some_iff.mp e
  dsimp only at e
  split at e
  · rename_i hz
    cases e
    refine s1 F σ H ρ δ ds _ G e1 _ fun vs H1 G1 M1 R1 => ⟨by rw [R1.length]; exact hz.1, fun p hp => ?_⟩
    obtain ⟨G2, M2⟩ := G1.uniNew i hz.2 hp R1
    exact q _ _ G2 (M1.trans M2)
  · cases e
def sApp (i : Nat) (me : ME) : MS := fun ρ δ => match ρ[i]? with
  | some (.own (.lst ds)) => (me ρ δ).bind fun p => if ds.length < sizeLine then some (.nx, ρ.set i (.uni (ds ++ [p.1])), p.2) else none
  | _ => none
theorem pds_app (i : Nat) {x : Str} {apos cpos p0 : Pos} (he : PD X e ma) (hN : X.N[i]? = some x := by rfl) (hv : Vis X.env.scope x := by first | exact Or.inl rfl | exact Or.inr (Or.inl rfl) | exact Or.inr (Or.inr rfl)) (hd : (x == ("__debug__" : Str)) = false := by decide)
    (hcd : (x == ("__classdict__" : Str)) = false := by decide) (hbase : attributeBase (.Name x p0) "append" X.env (eval (.Name x p0) X.env) = eval (.Name x p0) X.env := by rfl)
    (hfew : ((backTo cpos (starEach [e] X.env)).all (fun x => !x.1) && (backToKw cpos (keywordEach [] X.env)).all (fun x => x.1.isSome)
      && decide ([e].length + ([] : List Keyword).length + (if ([] : List Keyword).isEmpty then 0 else 1) < 30)) = true := by rfl)
    (hline : (apos.endLine == cpos.line) = true := by rfl) (hs : starEach [e] X.env = (false, eval e X.env) :: starEach [] X.env := by rfl) (hplain : (backTo cpos (starEach [] X.env)).any (·.1) = false := by rfl)
    (hsw : swapsWith (.Call (.Attribute (.Name x p0) "append" apos) [e] [] cpos) none pos.line X.env = pure false := by rfl) :
    PDS X (.Expr (.Call (.Attribute (.Name x p0) "append" apos) [e] [] cpos) pos) (sApp i ma) := by
  obtain ⟨t, p1, s1⟩ := he.ex
  refine ⟨_, ps_expr (pe_bm PySem.F.plainAttrs_list PySem.F.slot_list_append PySem.F.type_list_append mt_append (pe_var hN hv hd hcd) (pa_cons p1 pa_nil hs) hbase hfew hline hs hplain) hsw, fun F σ H ρ δ fl ρ' δ' G e D q => ?_⟩
  unfold sApp at e
  split at e
  · rename_i ds hi
    obtain ⟨⟨y, δ1⟩, e1, e⟩ := Option.bind_eq_some_iff.mp e
    dsimp only at e
    split at e
    · rename_i hz
      cases e
      obtain ⟨a, xs, f1, f2, f3, f4⟩ := G.uni i ds hi
      refine ⟨_, f1, .inl ⟨rfl, xs, SqL.of f2⟩, s1 F σ H ρ δ y _ G e1 _ fun v H1 G1 M1 R1 => ?_⟩
      obtain ⟨a', xs', g1, g2, g3, g4⟩ := G1.uni i ds hi
      rw [f1] at g1
      cases g1
      obtain ⟨G2, M2⟩ := G1.uniWrite (ys := xs' ++ [v]) (es := ds ++ [y]) i hi f1 (g3.append (.cons R1 .nil))
      exact ⟨a, xs', v, rfl, rfl, g2, by rw [g3.length]; exact hz, q _ _ G2 (M1.trans M2)⟩
    · cases e
  · cases e

/-! ### for, while -/
def forL (g : MG) (s : MS) : List D → MS
  | [] => fun ρ δ => some (.nx, ρ, δ)
  | d :: ds => fun ρ δ => (g d ρ).bind fun ρ1 => (s ρ1 δ).bind fun p => match p.1 with
    | .nx => forL g s ds p.2.1 p.2.2
    | .ct => forL g s ds p.2.1 p.2.2
    | .bk => some (.nx, p.2)
    | .rt d => some (.rt d, p.2)
def sFor (mi : MA) (g : MG) (s : MS) : MS := fun ρ δ => (mi ρ δ).bind fun p => forL g s p.1 ρ p.2
theorem pds_for {body : List Stmt} (hp : PassesOwn (model X.prog X.w) X.A X.env X.xe) (hc : X.calm = true) (hi : PDI X tg iter mi) (hg : PDG X tg sl mg) (hb : PDSs X body m) (hs : ∀ x, foldedSetIterable iter X.env x = pure x := by intro _; rfl) :
    PDS X (.For tg iter body [] pos) (sFor mi mg m) := by
  obtain ⟨wi, p1, s1⟩ := hi.ex
  obtain ⟨g, p2, s2⟩ := hg.ex
  obtain ⟨tb, p3, s3⟩ := hb.ex
  refine ⟨_, ps_for hp hc p1 p2 p3 hs, fun F σ0 H0 ρ0 δ0 fl ρ' δ' G e D q => ?_⟩
  obtain ⟨⟨ds, δ1⟩, e1, e⟩ := Option.bind_eq_some_iff.mp e
  refine s1 F σ0 H0 ρ0 δ0 ds δ1 G e1 _ fun J H1 G1 M1 Wk => ?_
  refine ⟨fun i k σ H => k = ds.length - i ∧ i ≤ ds.length ∧ ∃ ρ δ, Good X.K F σ H ρ δ ∧ Mv (Mm F σ0 ρ0) H1 (Mm F σ ρ) H ∧ forL mg m (ds.drop i) ρ δ = some (fl, ρ', δ'), ⟨_, rfl, Nat.zero_le _, ρ0, δ1, G1, Mv.refl _ _, e⟩, ?_⟩
  rintro i k σ H ⟨rfl, hile, ρ, δ, G2, M2, ef⟩
  by_cases hlt : i < ds.length
  · obtain ⟨go, yl⟩ := (Wk _ H M2 G2.mm i).1 hlt
    have hld : i < ds.length := hlt
    rw [List.drop_eq_getElem_cons hld] at ef
    refine .inr ⟨go, fun σ H => ∃ ρ δ, Good X.K F σ H ρ δ ∧ Mv (Mm F σ0 ρ0) H1 (Mm F σ ρ) H ∧ forL mg m (ds.drop (i + 1)) ρ δ = some (fl, ρ', δ'), fun σ' H' h => ⟨ds.length - (i + 1), by omega, rfl, hlt, h⟩, fun x H3 hy => ?_⟩
    obtain ⟨kp, dx, edx, rdx⟩ := yl x H3 hy
    rw [List.getElem?_eq_getElem hld] at edx
    cases edx
    replace G2 := G2.keep kp
    replace M2 := M2.trans (Mv.same kp)
    unfold forL at ef
    obtain ⟨ρ2, f1, ef⟩ := Option.bind_eq_some_iff.mp ef
    obtain ⟨⟨f, ρ3, δ3⟩, f2, ef⟩ := Option.bind_eq_some_iff.mp ef
    refine s2 F σ H3 ρ δ x _ ρ2 G2 rdx f1 _ fun σ2 G3 M3 _ => ?_
    refine s3 F σ2 H3 ρ2 δ f ρ3 δ3 G3 f2 _ fun σ4 H4 G4 M4 => ?_
    cases f with
    | nx => exact ⟨ρ3, δ3, G4, (M2.trans M3).trans M4, ef⟩
    | ct => exact ⟨ρ3, δ3, G4, (M2.trans M3).trans M4, ef⟩
    | bk => cases ef; exact q σ4 H4 G4 (M1.trans ((M2.trans M3).trans M4))
    | rt d => cases ef; exact q σ4 H4 G4 (M1.trans ((M2.trans M3).trans M4))
  · have hi' : i = ds.length := by omega
    subst hi'
    rw [List.drop_of_length_le (Nat.le_refl _)] at ef
    cases ef
    exact .inl ⟨(Wk _ H M2 G2.mm ds.length).2 (Nat.le_refl _), q σ H G2 (M1.trans M2)⟩
def whileL (c : MT) (s : MS) : Nat → MS
  | 0 => fun _ _ => none
  | n + 1 => fun ρ δ => (c ρ δ).bind fun p => if p.1 = true then (s ρ p.2).bind fun q => match q.1 with
    | .nx => whileL c s n q.2.1 q.2.2
    | .ct => whileL c s n q.2.1 q.2.2
    | .bk => some (.nx, q.2)
    | .rt d => some (.rt d, q.2)
    else some (.nx, ρ, p.2)
theorem pds_while (n : Nat) {body : List Stmt} (hp : PassesOwn (model X.prog X.w) X.A X.env X.xe) (hc : PDT X c nc) (hb : PDSs X body m) : PDS X (.While c body [] pos) (whileL nc m n) := by
  obtain ⟨tc, p1, s1⟩ := hc.ex
  obtain ⟨tb, p2, s2⟩ := hb.ex
  refine ⟨_, ps_while hp p1 p2, fun F σ0 H0 ρ0 δ0 fl ρ' δ' G e D q => ?_⟩
  refine ⟨fun k σ H => ∃ ρ δ, Good X.K F σ H ρ δ ∧ Mv (Mm F σ0 ρ0) H0 (Mm F σ ρ) H ∧ whileL nc m k ρ δ = some (fl, ρ', δ'), ⟨n, ρ0, δ0, G, Mv.refl _ _, e⟩, ?_⟩
  rintro k σ H ⟨ρ, δ, G1, M1, ef⟩
  cases k with
  | zero => cases ef
  | succ k =>
    unfold whileL at ef
    obtain ⟨⟨b, δ1⟩, f1, ef⟩ := Option.bind_eq_some_iff.mp ef
    refine s1 F σ H ρ δ b δ1 G1 f1 _ fun H2 G2 M2 => ?_
    cases b with
    | false => cases ef; exact iteF (q σ H2 G2 (M1.trans M2))
    | true =>
      refine iteT ⟨fun σ H => ∃ ρ δ, Good X.K F σ H ρ δ ∧ Mv (Mm F σ0 ρ0) H0 (Mm F σ ρ) H ∧ whileL nc m k ρ δ = some (fl, ρ', δ'), fun σ' H' h => ⟨k, Nat.lt_succ_self k, h⟩, ?_⟩
      rw [if_pos rfl] at ef
      obtain ⟨⟨f, ρ3, δ3⟩, f2, ef⟩ := Option.bind_eq_some_iff.mp ef
      refine s2 F σ H2 ρ δ1 f ρ3 δ3 G2 f2 _ fun σ4 H4 G4 M4 => ?_
      cases f with
      | nx => exact ⟨ρ3, δ3, G4, (M1.trans M2).trans M4, ef⟩
      | ct => exact ⟨ρ3, δ3, G4, (M1.trans M2).trans M4, ef⟩
      | bk => cases ef; exact q σ4 H4 G4 ((M1.trans M2).trans M4)
      | rt d => cases ef; exact q σ4 H4 G4 ((M1.trans M2).trans M4)
end

/-! ### the rule for a def -/
def slots (n : Nat) (ds : List Sl) : List Sl := ds ++ List.replicate (n - ds.length) .no
def outP : Option (Fl × List Sl × Dk) → Option (D × Dk)
  | some (.rt d, _, δ) => some (d, δ)
  | some (.nx, _, δ) => some (.none, δ)
  | _ => none
def fnP (n np : Nat) (s : MS) : List D → Option D := fun ds => if ds.length = np ∧ np ≤ n then (outP (s (slots n (ds.map .val)) ⟨[], 0, [], none⟩)).map (·.1) else none
def fnK (n np : Nat) (s : MS) : List D → Dk → Option (D × Dk) := fun ds δ => if ds.length + 1 = np ∧ np ≤ n then outP (s (slots n (.deck :: ds.map .val)) δ) else none
theorem start_get {N : List Str} {vs : List V} {i : Nat} {v : V} (h : vs[i]? = some v) : (start N vs)[i]? = some (some v) := by
  have hl : i < vs.length := by
    rcases Nat.lt_or_ge i vs.length with h' | h'
    · exact h'
    · rw [List.getElem?_eq_none h'] at h; cases h
  unfold L2.start
  rw [List.getElem?_append_left (by rw [List.length_map]; exact hl), List.getElem?_map, h]; rfl
theorem slots_get {n : Nat} {ds : List Sl} {i : Nat} {x : Sl} (h : (slots n ds)[i]? = some x) : ds[i]? = some x ∨ x = .no := by
  unfold slots at h
  rcases Nat.lt_or_ge i ds.length with h' | h'
  · rw [List.getElem?_append_left h'] at h; exact .inl h
  · rw [List.getElem?_append_right h'] at h
    right
    rw [List.getElem?_replicate] at h
    split at h
    · exact (Option.some.inj h).symm
    · cases h
section
variable {P : Program} {w : World} {K : PySem.W.Frag} {mg : Str → Option Value} {base : Heap}
theorem okP {x qual : Str} {st : Stmt} {f : Addr} {fd : FuncData} {N ps : List Str} {k : Nat} {s : MS} (F : Fun K x qual st f fd) (S : FnScope N ps (defScope st)) (hn : ps.length ≤ N.length)
    (hb : ∀ (cdv : Value) (A : Around) (outer : List Env) (s0 : Shared) (H : Hp) (E : XK), Room k (A.deeper (envOfC qual (defScope st) s0.heap.objs.size f cdv)) → PDSs (cxOf CX0 P w K mg base N qual (defScope st) f cdv A outer s0 H E).nox (defBody st) s) :
    FnOk P w K mg base CX0 (k + 1) f fd ps (spP K (fnP N.length ps.length s)) := by
  refine F.ok S (fun vs H Q E h => ?_) (fun cdv A outer s0 H vs Q E hr h => ?_)
  · obtain ⟨M, ds, r, hM, R, hm, q⟩ := h
    unfold fnP at hm
    split at hm
    · rename_i hz; rw [R.length]; exact hz.1
    · cases hm
  · obtain ⟨M, ds, r, hM, R, hm, q⟩ := h
    unfold fnP at hm
    split at hm
    · rename_i hz
      obtain ⟨t, p1, s1⟩ := (hb cdv A outer s0 H E hr).ex
      refine ⟨t, p1, ?_⟩
      obtain ⟨⟨r', δ'⟩, e1, e2⟩ := Option.map_eq_some_iff.mp hm
      cases e2
      generalize hres : s (slots N.length (ds.map Sl.val)) ⟨[], 0, [], none⟩ = res at e1
      have nun : ∀ (i : Nat) es, (slots N.length (ds.map Sl.val))[i]? ≠ some (.own es) := fun i es h => by
        rcases slots_get h with h | h
        · rw [List.getElem?_map] at h
          obtain ⟨d, _, h⟩ := Option.map_eq_some_iff.mp h
          cases h
        · cases h
      let Fr0 : Fr := ⟨M, none, H⟩
      have eM : Mm Fr0 (start N vs) (slots N.length (ds.map Sl.val)) = M := by
        funext a
        refine propext ⟨fun z => ?_, .inl⟩
        rcases z with z | ⟨i, es, f1, _⟩
        · exact z
        · exact (nun i es f1).elim
      have G : Good K Fr0 (start N vs) H (slots N.length (ds.map Sl.val)) ⟨[], 0, [], none⟩ := by
        refine ⟨?_, fun i d h => ?_, fun i es h => (nun i es h).elim, fun i j es _ _ h => (nun i es h).elim, hM, fun i h => ?_, fun p h => (nomatch h), fun _ _ e _ => e⟩
        · unfold L2.start slots
          simp only [List.length_append, List.length_map, List.length_replicate, R.length]
        · rw [eM]
          rcases slots_get h with h | h
          · rw [List.getElem?_map] at h
            obtain ⟨d', h1, h2⟩ := Option.map_eq_some_iff.mp h
            cases h2
            obtain ⟨v, g1, g2⟩ := R.get' h1
            exact ⟨v, start_get g1, g2⟩
          · cases h
        · rcases slots_get h with h | h
          · rw [List.getElem?_map] at h
            obtain ⟨d', h1, h2⟩ := Option.map_eq_some_iff.mp h
            cases h2
          · cases h
      cases res with
      | none => cases e1
      | some p =>
        obtain ⟨fl, ρ1, δ1⟩ := p
        refine s1 Fr0 (start N vs) H _ ⟨[], 0, [], none⟩ fl ρ1 δ1 G hres _ fun σ' H' G' M' => ?_
        have an : Mv (Mm Fr0 σ' ρ1) H' M H' := fun a o e n => ⟨e, fun z => n (.inl z)⟩
        have kp : ∀ a o, H a = some o → H' a = some o := fun a o e => G'.fr a o e fun p h => nomatch h
        cases fl with
        | nx => cases e1; exact q _ _ kp .non
        | rt d => cases e1; exact fun v R1 => q _ _ kp (R1.mv an)
        | bk => cases e1
        | ct => cases e1
    · cases hm
theorem okK {x qual : Str} {st : Stmt} {f : Addr} {fd : FuncData} {N ps : List Str} {k : Nat} {s : MS} (F : Fun K x qual st f fd) (S : FnScope N ps (defScope st)) (hn : ps.length ≤ N.length)
    (hb : ∀ (cdv : Value) (A : Around) (outer : List Env) (s0 : Shared) (H : Hp) (E : XK), Room k (A.deeper (envOfC qual (defScope st) s0.heap.objs.size f cdv)) → PDSs (cxOf CX0 P w K mg base N qual (defScope st) f cdv A outer s0 H E).nox (defBody st) s) :
    FnOk P w K mg base CX0 (k + 1) f fd ps (spK K (fnK N.length ps.length s)) := by
  refine F.ok S (fun vs H Q E h => ?_) (fun cdv A outer s0 H vs Q E hr h => ?_)
  · obtain ⟨M, p, ws, ds, δ, r, δ', rfl, hM, _, _, _, _, R, hm, q⟩ := h
    unfold fnK at hm
    split at hm
    · rename_i hz; rw [List.length_cons, R.length]; exact hz.1
    · cases hm
  · obtain ⟨M, p, ws, ds, δ, r, δ', rfl, hM, m1, m2, m3, dk, R, hm, q⟩ := h
    unfold fnK at hm
    split at hm
    · rename_i hz
      obtain ⟨t, p1, s1⟩ := (hb cdv A outer s0 H E hr).ex
      refine ⟨t, p1, ?_⟩
      generalize hres : s (slots N.length (Sl.deck :: ds.map Sl.val)) δ = res at hm
      have nun : ∀ (i : Nat) es, (slots N.length (Sl.deck :: ds.map Sl.val))[i]? ≠ some (.own es) := fun i es h => by
        rcases slots_get h with h | h
        · cases i with
          | zero => cases h
          | succ i =>
            rw [List.getElem?_cons_succ, List.getElem?_map] at h
            obtain ⟨d, _, h⟩ := Option.map_eq_some_iff.mp h
            cases h
        · cases h
      let Fr0 : Fr := ⟨M, some p, H⟩
      have eM : Mm Fr0 (start N (.ref p.1 :: ws)) (slots N.length (Sl.deck :: ds.map Sl.val)) = M := by
        funext a
        refine propext ⟨fun z => ?_, .inl⟩
        rcases z with z | ⟨i, es, f1, _⟩
        · exact z
        · exact (nun i es f1).elim
      have G : Good K Fr0 (start N (.ref p.1 :: ws)) H (slots N.length (Sl.deck :: ds.map Sl.val)) δ := by
        refine ⟨?_, fun i d h => ?_, fun i es h => (nun i es h).elim, fun i j es _ _ h => (nun i es h).elim, hM, fun i h => ?_, fun p' h => ?_, fun _ _ e _ => e⟩
        · unfold L2.start slots
          simp only [List.length_append, List.length_map, List.length_replicate, List.length_cons, R.length]
        · rw [eM]
          rcases slots_get h with h | h
          · cases i with
            | zero => cases h
            | succ i =>
              rw [List.getElem?_cons_succ, List.getElem?_map] at h
              obtain ⟨d', h1, h2⟩ := Option.map_eq_some_iff.mp h
              cases h2
              obtain ⟨v, g1, g2⟩ := R.get' h1
              exact ⟨v, start_get (by rw [List.getElem?_cons_succ]; exact g1), g2⟩
          · cases h
        · rcases slots_get h with h | h
          · cases i with
            | zero => cases h; exact ⟨p, rfl, start_get rfl⟩
            | succ i =>
              rw [List.getElem?_cons_succ, List.getElem?_map] at h
              obtain ⟨d', h1, h2⟩ := Option.map_eq_some_iff.mp h
              cases h2
          · cases h
        · cases h
          exact ⟨m1, m2, m3, dk⟩
      cases res with
      | none => cases hm
      | some pp =>
        obtain ⟨fl, ρ1, δ1⟩ := pp
        refine s1 Fr0 (start N (.ref p.1 :: ws)) H _ δ fl ρ1 δ1 G hres _ fun σ' H' G' M' => ?_
        have an : Mv (Mm Fr0 σ' ρ1) H' M H' := fun a o e n => ⟨e, fun z => n (.inl z)⟩
        have kp : ∀ a o, a ≠ p.1 → a ≠ p.2 → a ≠ p.3 → H a = some o → H' a = some o := fun a o n1 n2 n3 e => G'.fr a o e fun p' h => by cases h; exact ⟨n1, n2, n3⟩
        cases fl with
        | nx => cases hm; exact q _ _ kp (G'.dck p rfl).2.2.2 .non
        | rt d => cases hm; exact fun v R1 => q _ _ kp (G'.dck p rfl).2.2.2 (R1.mv an)
        | bk => cases hm
        | ct => cases hm
    · cases hm
end
end PD

namespace PD
open PySem PySem.Spec PyProof.Rows L2
/-! ### a dict that is written out -/
theorem mergeK_app : ∀ (kvs acc : List (Key × V)), ((acc ++ kvs).map (·.1)).Nodup → mergeK acc kvs = acc ++ kvs
  | [], acc, _ => by simp [mergeK]
  | (k, v) :: r, acc, h => by
    have hk : (acc.any fun kv => decide (kv.1 = k)) = false := by
      rw [List.any_eq_false]
      intro x hx hz
      have hz : x.1 = k := of_decide_eq_true hz
      rw [List.map_append, List.map_cons, List.nodup_append] at h
      exact h.2.2 x.1 (List.mem_map_of_mem hx) k (.head _) hz
    have e : mergeK acc ((k, v) :: r) = mergeK (acc ++ [(k, v)]) r := by
      show mergeK (putK acc k v) r = _
      unfold putK
      rw [hk, if_neg Bool.false_ne_true]
    rw [e, mergeK_app r _ (by simpa using h)]
    simp
abbrev MP := List Sl → Dk → Option (List (Key × D) × Dk)
def pNil : MP := fun _ δ => some ([], δ)
def pCons (k v : ME) (r : MP) : MP := fun ρ δ => (k ρ δ).bind fun p => (keyOf p.1).bind fun kk => (v ρ p.2).bind fun q => (r ρ q.2).map fun z => ((kk, q.1) :: z.1, z.2)
inductive RepP (K : PySem.W.Frag) (M : Addr → Prop) (H : Hp) : List (V × V) → List (Key × D) → Prop
  | nil : RepP K M H [] []
  | cons {k : Key} {v : V} {d : D} {ps : List (V × V)} {es : List (Key × D)} : Rep K M H v d → RepP K M H ps es → RepP K M H ((kV k, v) :: ps) ((k, d) :: es)
theorem RepP.mv {K M H M' H'} (h : Mv M H M' H') : ∀ {ps es}, RepP K M H ps es → RepP K M' H' ps es
  | _, _, .nil => .nil
  | _, _, .cons r t => .cons (r.mv h) (RepP.mv h t)
theorem RepP.split {K M H} : ∀ {ps es}, RepP K M H ps es → ∃ kvs : List (Key × V), ps = kvs.map (fun kv => (kV kv.1, kv.2)) ∧ kvs.map (·.1) = es.map (·.1) ∧ RepK K M H kvs (es.map fun e => (keyD e.1, e.2))
  | _, _, .nil => ⟨[], rfl, rfl, .nil⟩
  | _, _, .cons (k := k) (v := v) r t => by
    obtain ⟨kvs, e1, e2, e3⟩ := RepP.split t
    exact ⟨(k, v) :: kvs, by rw [e1]; rfl, by simp [e2], .cons r e3⟩
structure PDP (X : Cx) (pos : Pos) (keys : List (Option Expr)) (values : List Expr) (m : MP) : Prop where
  ex : ∃ trs, PPs X pos keys values trs ∧ ∀ F σ H ρ δ d δ', Good X.K F σ H ρ δ → m ρ δ = some (d, δ') → ∀ Q : List (V × V) → Hp → Prop, (∀ ps H', Good X.K F σ H' ρ δ' → Mv (Mm F σ ρ) H (Mm F σ ρ) H' → RepP X.K (Mm F σ ρ) H' ps d → Q ps H') → tPairs trs σ H Q
section
variable {X : Cx} {pos : Pos} {k v : Expr} {ks : List (Option Expr)} {vs : List Expr} {mk mv : ME} {mr : MP}
theorem pdp_nil : PDP X pos [] [] pNil := ⟨_, pps_nil, fun F σ H ρ δ d δ' G e Q q => by cases e; exact q _ _ G (Mv.refl _ _) .nil⟩
theorem pdp_cons (hk : PD X k mk) (hv : PD X v mv) (hr : PDP X pos ks vs mr) : PDP X pos (some k :: ks) (v :: vs) (pCons mk mv mr) := by
  obtain ⟨tk, p1, s1⟩ := hk.ex
  obtain ⟨tv, p2, s2⟩ := hv.ex
  obtain ⟨trs, p3, s3⟩ := hr.ex
  refine ⟨_, pps_cons p1 p2 p3, fun F σ H ρ δ d δ' G e Q q => ?_⟩
  obtain ⟨⟨x, δ1⟩, e1, e⟩ := Option.bind_eq_some_iff.mp e
  obtain ⟨kk, e0, e⟩ := Option.bind_eq_some_iff.mp e
  obtain ⟨⟨y, δ2⟩, e2, e⟩ := Option.bind_eq_some_iff.mp e
  obtain ⟨⟨z, δ3⟩, e3, e⟩ := Option.map_eq_some_iff.mp e
  cases e
  refine s1 F σ H ρ δ x δ1 G e1 _ fun u H1 G1 M1 R1 => s2 F σ H1 ρ δ1 y δ2 G1 e2 _ fun w H2 G2 M2 R2 => ?_
  have := keyOf_rep R1 e0
  subst this
  exact s3 F σ H2 ρ δ2 z _ G2 e3 _ fun ps H3 G3 M3 R3 => q _ _ G3 ((M1.trans M2).trans M3) (.cons (R2.mv M3) R3)
def nodupK (es : List (Key × D)) : Bool := decide (es.map (·.1)).Nodup
def mDisp (m : MP) : ME := fun ρ δ => (m ρ δ).bind fun p => if nodupK p.1 ∧ p.1.length ≤ 15 then some (.dict (p.1.map fun e => (keyD e.1, e.2)), p.2) else none
theorem pd_disp (h : PDP X pos ks vs mr) (hall : ks.all (·.isSome) = true := by rfl) (hl : ks.length = vs.length := by rfl) (h0 : ks ≠ [] := by exact fun z => nomatch z) (h15 : ks.length ≤ 15 := by decide) : PD X (.Dict ks vs pos) (mDisp mr) := by
  obtain ⟨trs, p1, s1⟩ := h.ex
  refine ⟨_, pe_disp p1 hall hl h0 h15, fun F σ H ρ δ d δ' G e Q q p hp => ?_⟩
  obtain ⟨⟨es, δ1⟩, e1, e⟩ := Option.bind_eq_some_iff.mp e
  dsimp only at e
  split at e
  · rename_i hz
    cases e
    obtain ⟨G1, M1⟩ := G.plus (o := .dK []) hp
    have hp0 : (F.plus p).H0 p = none := G.fresh0 hp
    have nDk : ∀ q, F.dk = some q → p ≠ q.1 ∧ p ≠ q.2 ∧ p ≠ q.3 := fun q hq => ⟨(ne_of_none (G.dck q hq).2.2.2.one hp).symm, (ne_of_none (G.dck q hq).2.2.2.two hp).symm, (ne_of_none (G.dck q hq).2.2.2.tri hp).symm⟩
    refine s1 ((F.plus p).pin p (.dK [])) σ _ ρ δ es _ (G1.pin (.inr rfl) upd_same) e1 _ fun ps H2 G2 M2 R2 => ?_
    rw [Mm_pin] at M2 R2
    have hp2 : H2 p = some (.dK []) := G2.fr p _ upd_same nDk
    obtain ⟨kvs, f1, f2, f3⟩ := R2.split
    have hn : (kvs.map (·.1)).Nodup := by rw [f2]; exact of_decide_eq_true hz.1
    have hlen : kvs.length = es.length := by
      have := congrArg List.length f2
      simpa using this
    refine ⟨hp2, kvs, f1, by rw [hlen]; exact hz.2, ?_⟩
    rw [mergeK_app kvs [] (by simpa using hn), List.nil_append]
    obtain ⟨G3, M3⟩ := (Good.unpin hp0 (.inr rfl) G2).write ⟨_, _, _, G⟩ hp (o := .dK kvs)
    have an : Mv (Mm (F.plus p) σ ρ) (upd H2 p (.dK kvs)) (Mm F σ ρ) (upd H2 p (.dK kvs)) := fun a o e n => ⟨e, fun z => n (by rw [Mm_plus]; exact .inl z)⟩
    have MM : Mv (Mm F σ ρ) H (Mm F σ ρ) (upd H2 p (.dK kvs)) := ((M1.trans M2).trans M3).trans an
    have GB : Good X.K F σ (upd H2 p (.dK kvs)) ρ _ := G.back (vs := []) rfl hp G3 MM
    exact q _ _ GB MM (.dic (G.mfree hp) (.inl upd_same) ((f3.mv M3).mv an))
  · cases e
end
end PD

namespace PD
open PySem PySem.Spec PyProof.Rows L2
theorem atI_map {α β : Type} (f : α → β) (xs : List α) (i : Int) : atI (xs.map f) i = (atI xs i).map f := by
  unfold atI
  rw [List.length_map]
  cases ixN xs.length i with
  | none => rfl
  | some j => simp
/-! constants of the module -/
theorem pd_glob {X : Cx} {x : Str} {v : V} {u : Value} {d : D} {pos : Pos} (h : X.mg x = some u ∧ RelV v u ∧ ∀ M H, Rep X.K M H v d) (hg : Gl X x := by rfl) (hd : (x == ("__debug__" : Str)) = false := by decide) : PD X (.Name x pos) (mC d) := ⟨_, pe_glob hg h.1 h.2.1 hd, snd_c h.2.2⟩
end PD
namespace PD
open PySem L2
theorem u65 {k : Nat} {A : Around} (hr : Room k A) : A.units + 65 < cLine := by have := hr.un; omega
end PD

namespace PD
open PySem PySem.Spec PyProof.Rows L2
/-! ### a list of lists that grow -/
def Fr.plusS (F : Fr) (l : List Addr) : Fr := { F with M0 := fun a => F.M0 a ∨ a ∈ l }
theorem plusS_cons {F : Fr} {l : List Addr} {b : Addr} : (F.plusS l).plus b = F.plusS (l ++ [b]) := by
  unfold Fr.plus Fr.plusS
  congr 1
  funext a
  refine propext ⟨fun z => ?_, fun z => ?_⟩
  · rcases z with (z | z) | z
    · exact .inl z
    · exact .inr (List.mem_append_left _ z)
    · exact .inr (by simp [z])
  · rcases z with z | z
    · exact .inl (.inl z)
    · rcases List.mem_append.mp z with z | z
      · exact .inl (.inr z)
      · exact .inr (by simpa using z)
theorem plusS_nil {F : Fr} : F.plusS [] = F := by
  unfold Fr.plusS
  simp
theorem Mm_plusS {F σ ρ l} : Mm (F.plusS l) σ ρ = fun a => Mm F σ ρ a ∨ a ∈ l := by
  funext a
  refine propext ⟨fun z => ?_, fun z => ?_⟩
  · rcases z with (z | z) | z
    · exact .inl (.inl z)
    · exact .inr z
    · exact .inl (.inr z)
  · rcases z with (z | z) | z
    · exact .inl (.inl z)
    · exact .inr z
    · exact .inl (.inr z)
theorem Good.writeM {K F σ H ρ δ D o} (G : Good K F σ H ρ δ) (hM : F.M0 D) (nd : ∀ p, F.dk = some p → D ≠ p.1 ∧ D ≠ p.2 ∧ D ≠ p.3) (h0 : F.H0 D = none) : Good K F σ (upd H D o) ρ δ ∧ Mv (Mm F σ ρ) H (Mm F σ ρ) (upd H D o) := by
  have mv : Mv (Mm F σ ρ) H (Mm F σ ρ) (upd H D o) := fun a u e n => ⟨by rw [upd_ne (fun z => n (.inl (by rw [z]; exact hM)))]; exact e, n⟩
  refine ⟨⟨G.len, fun i d e => ?_, fun i ds e => ?_, G.inj, fun a ha => ?_, G.dsl, fun p e => ?_, fun a u e n => ?_⟩, mv⟩
  · obtain ⟨v, e1, r⟩ := G.val i d e
    exact ⟨v, e1, r.mv mv⟩
  · obtain ⟨a, xs, e1, e2, r, n⟩ := G.own i ds e
    exact ⟨a, xs, e1, by rw [upd_ne (fun z => n.1 (by rw [z]; exact hM))]; exact e2, r.mv mv, n⟩
  · by_cases hz : a = D
    · rw [hz, upd_same]; exact fun z => nomatch z
    · rw [upd_ne hz]; exact G.m0 a ha
  · obtain ⟨d1, d2, d4, d3⟩ := G.dck p e
    exact ⟨d1, d2, d4, d3.ne, d3.ne2, d3.ne3, by rw [upd_ne (nd p e).1.symm]; exact d3.one, by rw [upd_ne (nd p e).2.1.symm]; exact d3.two, by rw [upd_ne (nd p e).2.2.symm]; exact d3.tri⟩
  · rw [upd_ne (fun z => by rw [z, h0] at e; cases e)]
    exact G.fr a u e n
def Fr.pinS (F : Fr) (l : List Addr) (H : Hp) : Fr := { F with H0 := fun a => if a ∈ l then H a else F.H0 a }
theorem Mm_pinS {F l H σ ρ} : Mm (F.pinS l H) σ ρ = Mm F σ ρ := rfl
theorem Good.pinS {K F σ H ρ δ l} (G : Good K F σ H ρ δ) (hM : ∀ a ∈ l, F.M0 a) : Good K (F.pinS l H) σ H ρ δ := ⟨G.len, G.val, fun i ds e => by
  obtain ⟨a, xs, e1, e2, r, n⟩ := G.own i ds e
  exact ⟨a, xs, e1, e2, r, n.1, (if_neg (fun z => n.1 (hM a z))).trans n.2⟩, G.inj, G.m0, G.dsl, G.dck, fun a u e n => by
  by_cases hz : a ∈ l
  · exact (if_pos hz).symm.trans e
  · exact G.fr a u ((if_neg hz).symm.trans e) n⟩
theorem Good.unpinS {K F σ H0 H ρ δ l} (hM : ∀ a ∈ l, F.M0 a) (h0 : ∀ a ∈ l, F.H0 a = none) (G : Good K (F.pinS l H0) σ H ρ δ) : Good K F σ H ρ δ := ⟨G.len, G.val, fun i ds e => by
  obtain ⟨a, xs, e1, e2, r, n⟩ := G.own i ds e
  exact ⟨a, xs, e1, e2, r, n.1, (if_neg (fun z => n.1 (hM a z))).symm.trans n.2⟩, G.inj, G.m0, G.dsl, G.dck, fun a u e n => G.fr a u (by
  show (if a ∈ l then H0 a else F.H0 a) = some u
  rw [if_neg (fun z => by rw [h0 a z] at e; cases e)]
  exact e) n⟩
theorem Good.setNo {K F σ H ρ δ} (G : Good K F σ H ρ δ) (i : Nat) (x : Option V) : Good K F (σ.set i x) H (ρ.set i .no) δ ∧ Mv (Mm F σ ρ) H (Mm F (σ.set i x) (ρ.set i .no)) H := by
  have un : ∀ (j : Nat) y, (ρ.set i .no)[j]? = some y → y ≠ .no → i ≠ j ∧ ρ[j]? = some y := fun j y e hy => by
    by_cases hj : i = j
    · subst hj; exact absurd (get_set_self e).symm hy
    · rw [List.getElem?_set_ne hj] at e
      exact ⟨hj, e⟩
  have hM : ∀ a, Mm F (σ.set i x) (ρ.set i .no) a → Mm F σ ρ a := fun a z => by
    rcases z with z | ⟨j, ds, e1, e2⟩
    · exact .inl z
    · obtain ⟨hj, e1⟩ := un j _ e1 (fun z => nomatch z)
      rw [List.getElem?_set_ne hj] at e2
      exact .inr ⟨j, ds, e1, e2⟩
  have mv : Mv (Mm F σ ρ) H (Mm F (σ.set i x) (ρ.set i .no)) H := fun a o e n => ⟨e, fun z => n (hM a z)⟩
  refine ⟨⟨by rw [List.length_set, List.length_set]; exact G.len, fun j e h => ?_, fun j ds e => ?_, fun j k ds es a e1 e2 e3 e4 => ?_, G.m0, fun j e => ?_, G.dck, G.fr⟩, mv⟩
  · obtain ⟨hj, h⟩ := un j _ h (fun z => nomatch z)
    obtain ⟨w, e1, r1⟩ := G.val j e h
    exact ⟨w, by rw [List.getElem?_set_ne hj]; exact e1, r1.mv mv⟩
  · obtain ⟨hj, e⟩ := un j _ e (fun z => nomatch z)
    obtain ⟨a, xs, e1, e2, r1, n⟩ := G.own j ds e
    exact ⟨a, xs, by rw [List.getElem?_set_ne hj]; exact e1, e2, r1.mv mv, n⟩
  · obtain ⟨hj, e1⟩ := un j _ e1 (fun z => nomatch z)
    obtain ⟨hk, e2⟩ := un k _ e2 (fun z => nomatch z)
    rw [List.getElem?_set_ne hj] at e3
    rw [List.getElem?_set_ne hk] at e4
    exact G.inj j k ds es a e1 e2 e3 e4
  · obtain ⟨hj, e⟩ := un j _ e (fun z => nomatch z)
    rw [List.getElem?_set_ne hj]
    exact G.dsl j e
theorem Good.shrink {K F σ H ρ δ l} (G0 : ∃ σ H ρ δ, Good K F σ H ρ δ) (G : Good K (F.plusS l) σ H ρ δ) : Good K F σ H ρ δ ∧ Mv (Mm (F.plusS l) σ ρ) H (Mm F σ ρ) H := by
  have an : Mv (Mm (F.plusS l) σ ρ) H (Mm F σ ρ) H := fun a o e n => ⟨e, fun z => n (by rw [Mm_plusS]; exact .inl z)⟩
  obtain ⟨_, _, _, _, G0⟩ := G0
  refine ⟨⟨G.len, fun i d e => ?_, fun i ds e => ?_, G.inj, fun a ha => G.m0 a (.inl ha), G.dsl, fun p e => ?_, G.fr⟩, an⟩
  · obtain ⟨v, e1, r⟩ := G.val i d e
    exact ⟨v, e1, r.mv an⟩
  · obtain ⟨a, xs, e1, e2, r, n⟩ := G.own i ds e
    exact ⟨a, xs, e1, e2, r.mv an, fun z => n.1 (.inl z), n.2⟩
  · obtain ⟨d1, d2, d4, _⟩ := G0.dck p e
    obtain ⟨_, _, _, d3⟩ := G.dck p e
    exact ⟨d1, d2, d4, d3⟩
theorem nodup_inj {l : List Addr} (h : l.Nodup) {i j : Nat} {b : Addr} (hi : l[i]? = some b) (hj : l[j]? = some b) : i = j := by
  obtain ⟨h1, e1⟩ := List.getElem?_eq_some_iff.mp hi
  obtain ⟨h2, e2⟩ := List.getElem?_eq_some_iff.mp hj
  have p := List.pairwise_iff_getElem.mp h
  rcases Nat.lt_trichotomy i j with q | q | q
  · exact absurd (e1.trans e2.symm) (p i j h1 h2 q)
  · exact q
  · exact absurd (e2.trans e1.symm) (p j i h2 h1 q)
/-- the lists at bs hold dss -/
structure Lists (K : PySem.W.Frag) (M : Addr → Prop) (H : Hp) (bs : List Addr) (dss : List (List D)) : Prop where
  len : bs.length = dss.length
  at' : ∀ (j : Nat) b, bs[j]? = some b → ∃ ds xs, dss[j]? = some ds ∧ H b = some (.lst xs) ∧ Reps K M H xs ds
def rulesL (g : MG) (mix me : ME) : List D → List Sl → Dk → List (List D) → Option (List Sl × Dk × List (List D))
  | [], ρ, δ, dss => some (ρ, δ, dss)
  | d :: ds, ρ, δ, dss => (g d ρ).bind fun ρ1 => (mix ρ1 δ).bind fun p => match p.1 with
    | .int i => (ixN dss.length i).bind fun j => (me ρ1 p.2).bind fun q => if (dss.getD j []).length < sizeLine then rulesL g mix me ds ρ1 q.2 (dss.set j (dss.getD j [] ++ [q.1])) else none
    | _ => none
def sRules (r : Nat) (mi1 mi2 : MA) (g : MG) (mix me : ME) : MS := fun ρ δ => (mi1 ρ δ).bind fun p => if p.1.length ≤ sizeLine ∧ r < ρ.length then (mi2 (ρ.set r .no) p.2).bind fun q => (rulesL g mix me q.1 (ρ.set r .no) q.2 (List.replicate p.1.length [])).map fun z => (.nx, z.1.set r (.val (.list (z.2.2.map .list))), z.2.1) else none
theorem reps_lists {K M H} : ∀ {bs : List Addr} {dss : List (List D)}, Lists K M H bs dss → (∀ b ∈ bs, ¬ M b) → Reps K M H (bs.map V.ref) (dss.map .list)
  | [], dss, L, _ => by
    have : dss = [] := List.eq_nil_of_length_eq_zero L.len.symm
    subst this; exact .nil
  | b :: bs, [], L, _ => by have := L.len; simp at this
  | b :: bs, ds :: dss, L, n => by
    obtain ⟨ds', xs, e1, e2, e3⟩ := L.at' 0 b rfl
    cases e1
    exact .cons (.lst ⟨n b (.head _), e2⟩ e3) (reps_lists ⟨by simpa using L.len, fun j c e => L.at' (j + 1) c e⟩ fun c hc => n c (.tail _ hc))
theorem snd_rules {K wi1 wi2 tix te mi1 mi2 mix me j g mg} {sl : List Nat} (r : Nat)
    (h1 : ∀ F σ H ρ δ ds δ', Good K F σ H ρ δ → mi1 ρ δ = some (ds, δ') → ∀ R : It → Hp → Prop, (∀ J H', Good K F σ H' ρ δ' → Mv (Mm F σ ρ) H (Mm F σ ρ) H' → Walks K (Mm F σ ρ) H' J ds → R J H') → wi1 σ H R)
    (h2 : ∀ F σ H ρ δ ds δ', Good K F σ H ρ δ → mi2 ρ δ = some (ds, δ') → ∀ R : It → Hp → Prop, (∀ J H', Good K F σ H' ρ δ' → Mv (Mm F σ ρ) H (Mm F σ ρ) H' → Walks K (Mm F σ ρ) H' J ds → R J H') → wi2 σ H R)
    (hg : ∀ F σ H ρ δ v d ρ', Good K F σ H ρ δ → Rep K (Mm F σ ρ) H v d → mg d ρ = some ρ' → ∀ Q : L2.St → Hp → Prop, (∀ σ', Good K F σ' H ρ' δ → Mv (Mm F σ ρ) H (Mm F σ' ρ') H → Set1 sl σ σ' ρ ρ' → Q σ' H) → g v σ H Q)
    (hix : Snd K tix mix) (he : Snd K te me) (hr : r ∉ sl) :
    SndS K (tSeq (tAsg (tLc wi1 (gName j) tYes (tLst tNil) [j]) (gName r)) (tFor wi2 g (tDrop (tBM K "list" rAppend (tOp (rIxL K) (tVar r) tix) (tCons te tNil))))) (sRules r mi1 mi2 mg mix me) := fun F σ H ρ δ fl ρ' δ' G e D q => by
  obtain ⟨⟨ds1, δ1⟩, e1, e⟩ := Option.bind_eq_some_iff.mp e
  dsimp only at e
  split at e
  · rename_i hz
    obtain ⟨⟨ds2, δ2⟩, e2, e⟩ := Option.bind_eq_some_iff.mp e
    obtain ⟨⟨ρ3, δ3, dss3⟩, e3, e⟩ := Option.map_eq_some_iff.mp e
    cases e
    refine h1 F σ H ρ δ ds1 δ1 G e1 _ fun J H1 G1 M1 Wk A hA => ?_
    have nDk : ∀ a, H1 a = none → ∀ p, F.dk = some p → a ≠ p.1 ∧ a ≠ p.2 ∧ a ≠ p.3 := fun a ha p hp => ⟨(ne_of_none (G1.dck p hp).2.2.2.one ha).symm, (ne_of_none (G1.dck p hp).2.2.2.two ha).symm, (ne_of_none (G1.dck p hp).2.2.2.tri ha).symm⟩
    obtain ⟨GA, MA⟩ := G1.plus (o := .lst []) hA
    have eA : F.plus A = F.plusS [A] := by
      have := plusS_cons (F := F) (l := []) (b := A)
      rw [plusS_nil] at this
      exact this
    rw [eA] at GA MA
    have hwipe : ∀ v, L2.wipe ((L2.wipe σ [j]).set j (some v)) [j] = L2.wipe σ [j] := fun v => by
      have := (Set1.set (σ := L2.wipe σ [j]) (ρ := ρ) (v := v) (d := .none) j).wipes (vs := [j]) (by simp)
      rw [this.1, wipe_wipe]
    refine ⟨fun i m H => m = ds1.length - i ∧ i ≤ ds1.length ∧ ∃ bs : List Addr, bs.length = i ∧ H A = some (.lst (bs.map V.ref)) ∧ Good K (F.plusS (A :: bs)) σ H ρ δ1 ∧ Mv (Mm F σ ρ) H1 (Mm (F.plusS (A :: bs)) σ ρ) H ∧ (∀ b ∈ bs, H b = some (.lst [])) ∧ (A :: bs).Nodup ∧ (∀ a ∈ A :: bs, H1 a = none),
      ⟨_, rfl, Nat.zero_le _, [], rfl, upd_same, GA, MA, fun b hb => (by simp at hb), (by simp), fun a ha => (by simp at ha; rw [ha]; exact hA)⟩, ?_⟩
    rintro i m H2 ⟨rfl, hile, bs, hbl, hHA, G2, M2, hbs, hnd, hfr⟩
    by_cases hlt : i < ds1.length
    · obtain ⟨go, yl⟩ := (Wk _ H2 M2 G2.mm i).1 hlt
      refine .inr ⟨go, fun H => ∃ bs : List Addr, bs.length = i + 1 ∧ H A = some (.lst (bs.map V.ref)) ∧ Good K (F.plusS (A :: bs)) σ H ρ δ1 ∧ Mv (Mm F σ ρ) H1 (Mm (F.plusS (A :: bs)) σ ρ) H ∧ (∀ b ∈ bs, H b = some (.lst [])) ∧ (A :: bs).Nodup ∧ (∀ a ∈ A :: bs, H1 a = none), fun H' h => ⟨ds1.length - (i + 1), by omega, rfl, hlt, h⟩, fun x H3 hy => ?_⟩
      obtain ⟨kp, _⟩ := yl x H3 hy
      replace G2 := G2.keep kp
      replace M2 := M2.trans (Mv.same kp)
      replace hHA := kp _ _ hHA
      replace hbs : ∀ b ∈ bs, H3 b = some (.lst []) := fun b hb => kp _ _ (hbs b hb)
      refine ⟨hwipe x, ?_⟩
      simp only [tYes, ↓reduceIte]
      refine ⟨Nat.zero_le _, fun b hb => ?_⟩
      have hbA : A ≠ b := ne_of_none hHA hb
      obtain ⟨G3, M3⟩ := G2.plus (o := .lst []) hb
      rw [plusS_cons] at G3 M3
      have hb1 : H1 b = none := by
        cases hq : H1 b with
        | none => rfl
        | some o =>
          by_cases hm : Mm F σ ρ b
          · rcases hm with hm | ⟨ii, es, f1, f2⟩
            · exact absurd hb (G2.m0 b (.inl hm))
            · obtain ⟨c, ys, g1, g2, _⟩ := G2.own ii es f1
              rw [f2] at g1; cases g1
              rw [hb] at g2; cases g2
          · have := (M2 b o hq hm).1
            rw [hb] at this; cases this
      have hD : (F.plusS ((A :: bs) ++ [b])).M0 A := .inr (by simp)
      obtain ⟨G4, M4⟩ := G3.writeM (D := A) (o := .lst (bs.map V.ref ++ [.ref b])) hD (nDk A hA) (G1.fresh0 hA)
      have hbn : b ∉ bs := fun z => by rw [hbs b z] at hb; cases hb
      refine ⟨bs.map V.ref, by rw [upd_ne hbA]; exact hHA, ?_, bs ++ [b], by simp [hbl], by rw [upd_same, List.map_append]; rfl, G4, (M2.trans M3).trans M4, fun c hc => ?_, ?_, fun a ha => ?_⟩
      · rw [List.length_map, hbl]
        omega
      · have hcA : c ≠ A := by
          rintro rfl
          rcases List.mem_append.mp hc with z | z
          · exact (List.nodup_cons.mp hnd).1 z
          · simp at z; exact hbA z
        rw [upd_ne hcA]
        rcases List.mem_append.mp hc with z | z
        · exact upd_keeps hb _ _ (hbs c z)
        · simp at z; rw [z, upd_same]
      · rw [← List.cons_append, List.nodup_append]
        refine ⟨hnd, by simp, fun a ha c hc => ?_⟩
        simp at hc
        subst hc
        rintro rfl
        rcases List.mem_cons.mp ha with z | z
        · exact hbA z.symm
        · exact hbn z
      · rcases List.mem_cons.mp ha with z | z
        · rw [z]; exact hA
        · rcases List.mem_append.mp z with z | z
          · exact hfr a (.tail _ z)
          · simp at z; rw [z]; exact hb1
    · have hi' : i = ds1.length := by omega
      refine .inl ⟨(Wk _ H2 M2 G2.mm i).2 (by omega), ?_⟩
      -- the list of lists is there
      have hnM : ∀ a ∈ A :: bs, ¬ F.M0 a := fun a ha z => G1.m0 a z (hfr a ha)
      have hn0 : ∀ a ∈ A :: bs, (F.plusS (A :: bs)).H0 a = none := fun a ha => G1.fresh0 (hfr a ha)
      have hMl : ∀ a ∈ A :: bs, (F.plusS (A :: bs)).M0 a := fun a ha => .inr ha
      obtain ⟨G3, M3⟩ := G2.setNo r (some (.ref A))
      have hrl : r < σ.length := by rw [G1.len]; exact hz.2
      refine h2 _ (σ.set r (some (.ref A))) H2 (ρ.set r .no) δ1 ds2 δ2 (G3.pinS hMl) e2 _ fun J2 H4 G4 M4 Wk2 => ?_
      rw [Mm_pinS] at M4 Wk2
      have keep4 : ∀ a ∈ A :: bs, ∀ o, H2 a = some o → H4 a = some o := fun a ha o ho => G4.fr a o ((if_pos ha).trans ho) (nDk a (hfr a ha))
      have L0 : Lists K (Mm (F.plusS (A :: bs)) (σ.set r (some (.ref A))) (ρ.set r .no)) H4 bs (List.replicate ds1.length []) := ⟨by rw [List.length_replicate, hbl, hi'], fun jj b hb => ⟨[], [], by
        rw [List.getElem?_replicate, if_pos]
        have : jj < bs.length := by
          rcases Nat.lt_or_ge jj bs.length with h | h
          · exact h
          · rw [List.getElem?_eq_none h] at hb; cases hb
        rw [hbl, hi'] at this
        exact this, keep4 b (.tail _ (List.mem_of_getElem? hb)) _ (hbs b (List.mem_of_getElem? hb)), .nil⟩⟩
      refine ⟨fun ii k σ5 H5 => k = ds2.length - ii ∧ ii ≤ ds2.length ∧ ∃ ρ5 δ5 dss5, Good K (F.plusS (A :: bs)) σ5 H5 ρ5 δ5 ∧ σ5[r]? = some (some (.ref A)) ∧ ρ5[r]? = some .no ∧ H5 A = some (.lst (bs.map V.ref)) ∧ Lists K (Mm (F.plusS (A :: bs)) σ5 ρ5) H5 bs dss5 ∧
        Mv (Mm (F.plusS (A :: bs)) (σ.set r (some (.ref A))) (ρ.set r .no)) H4 (Mm (F.plusS (A :: bs)) σ5 ρ5) H5 ∧ rulesL mg mix me (ds2.drop ii) ρ5 δ5 dss5 = some (ρ3, δ3, dss3), ⟨_, rfl, Nat.zero_le _, ρ.set r .no, δ2, _, Good.unpinS hMl hn0 G4, List.getElem?_set_self hrl, List.getElem?_set_self hz.2, keep4 A (.head _) _ hHA, L0, Mv.refl _ _, e3⟩, ?_⟩
      rintro ii k σ5 H5 ⟨rfl, hile5, ρ5, δ5, dss5, G5, hσ5, hρ5, hA5, L5, M5, ef⟩
      by_cases hlt5 : ii < ds2.length
      · obtain ⟨go5, yl5⟩ := (Wk2 _ H5 M5 G5.mm ii).1 hlt5
        have hld : ii < ds2.length := hlt5
        rw [List.drop_eq_getElem_cons hld] at ef
        refine .inr ⟨go5, fun σ5 H5 => ∃ ρ5 δ5 dss5, Good K (F.plusS (A :: bs)) σ5 H5 ρ5 δ5 ∧ σ5[r]? = some (some (.ref A)) ∧ ρ5[r]? = some .no ∧ H5 A = some (.lst (bs.map V.ref)) ∧ Lists K (Mm (F.plusS (A :: bs)) σ5 ρ5) H5 bs dss5 ∧
          Mv (Mm (F.plusS (A :: bs)) (σ.set r (some (.ref A))) (ρ.set r .no)) H4 (Mm (F.plusS (A :: bs)) σ5 ρ5) H5 ∧ rulesL mg mix me (ds2.drop (ii + 1)) ρ5 δ5 dss5 = some (ρ3, δ3, dss3), fun σ' H' h => ⟨ds2.length - (ii + 1), by omega, rfl, hlt5, h⟩, fun x H6 hy => ?_⟩
        obtain ⟨kp, dx, edx, rdx⟩ := yl5 x H6 hy
        rw [List.getElem?_eq_getElem hld] at edx
        cases edx
        replace G5 := G5.keep kp
        replace M5 := M5.trans (Mv.same kp)
        replace hA5 := kp _ _ hA5
        replace L5 : Lists K (Mm (F.plusS (A :: bs)) σ5 ρ5) H6 bs dss5 := ⟨L5.len, fun j b hb => by
          obtain ⟨ds, xs, g1, g2, g3⟩ := L5.at' j b hb
          exact ⟨ds, xs, g1, kp _ _ g2, g3.mv (Mv.same kp)⟩⟩
        unfold rulesL at ef
        obtain ⟨ρ6, f1, ef⟩ := Option.bind_eq_some_iff.mp ef
        obtain ⟨⟨vi, δ6⟩, f2, ef⟩ := Option.bind_eq_some_iff.mp ef
        dsimp only at ef
        split at ef
        · rename_i iv
          obtain ⟨jj, f3, ef⟩ := Option.bind_eq_some_iff.mp ef
          obtain ⟨⟨y, δ7⟩, f4, ef⟩ := Option.bind_eq_some_iff.mp ef
          dsimp only at ef
          split at ef
          · rename_i hsz
            refine hg _ σ5 H6 ρ5 δ5 x _ ρ6 G5 rdx f1 _ fun σ6 G6 M6 T6 => ?_
            have hσ6 : σ6[r]? = some (some (.ref A)) := (T6.s r hr).trans hσ5
            have hρ6 : ρ6[r]? = some .no := (T6.r r hr).trans hρ5
            refine ⟨_, hσ6, ?_⟩
            refine hix ((F.plusS (A :: bs)).pinS (A :: bs) H6) σ6 H6 ρ6 δ5 _ _ (G6.pinS hMl) f2 _ fun v7 H7 G7 M7 R7 => ?_
            rw [Mm_pinS] at M7 R7
            cases R7
            have keep7 : ∀ a ∈ A :: bs, ∀ o, H6 a = some o → H7 a = some o := fun a ha o ho => G7.fr a o ((if_pos ha).trans ho) (nDk a (hfr a ha))
            have hjl : jj < bs.length := by rw [L5.len]; exact (ixN_seq f3).2.1
            obtain ⟨bj, hbj⟩ : ∃ bj, bs[jj]? = some bj := ⟨bs[jj], List.getElem?_eq_getElem hjl⟩
            obtain ⟨dsj, xsj, g1, g2, g3⟩ := L5.at' jj bj hbj
            have hbjm : bj ∈ A :: bs := .tail _ (List.mem_of_getElem? hbj)
            refine ⟨A, bs.map V.ref, iv, .ref bj, rfl, rfl, SqL.of (keep7 A (.head _) _ hA5), ?_, ?_⟩
            · unfold atI
              rw [List.length_map, L5.len, f3]
              simp [hbj]
            · refine ⟨.inl ⟨rfl, xsj, SqL.of (keep7 bj hbjm _ g2)⟩, ?_⟩
              refine he ((F.plusS (A :: bs)).pinS (A :: bs) H6) σ6 H7 ρ6 δ6 _ _ G7 f4 _ fun v8 H8 G8 M8 R8 => ?_
              rw [Mm_pinS] at M8 R8
              have keep8 : ∀ a ∈ A :: bs, ∀ o, H6 a = some o → H8 a = some o := fun a ha o ho => G8.fr a o ((if_pos ha).trans ho) (nDk a (hfr a ha))
              have MM := (M6.trans M7).trans M8
              have hdj : dss5.getD jj [] = dsj := by rw [List.getD_eq_getElem?_getD, g1]; rfl
              rw [hdj] at hsz ef
              obtain ⟨G9, M9⟩ := (Good.unpinS hMl hn0 G8).writeM (D := bj) (o := .lst (xsj ++ [v8])) (.inr hbjm) (nDk bj (hfr bj hbjm)) (hn0 bj hbjm)
              refine ⟨bj, xsj, v8, rfl, rfl, keep8 bj hbjm _ g2, by rw [g3.length]; exact hsz, ρ6, δ7, _, G9, hσ6, hρ6, ?_, ?_, (M5.trans MM).trans M9, ef⟩
              · rw [upd_ne (fun z => (List.nodup_cons.mp hnd).1 (by rw [z]; exact List.mem_of_getElem? hbj))]
                exact keep8 A (.head _) _ hA5
              · refine ⟨by rw [List.length_set]; exact L5.len, fun k b hb => ?_⟩
                by_cases hk : jj = k
                · subst hk
                  rw [hbj] at hb
                  cases hb
                  exact ⟨dsj ++ [y], xsj ++ [v8], List.getElem?_set_self (by rw [← L5.len]; exact hjl), upd_same, ((g3.mv MM).append (.cons R8 .nil)).mv M9⟩
                · obtain ⟨dsk, xsk, k1, k2, k3⟩ := L5.at' k b hb
                  have hne : b ≠ bj := fun z => by
                    subst z
                    exact hk (nodup_inj (List.nodup_cons.mp hnd).2 hbj hb)
                  exact ⟨dsk, xsk, by rw [List.getElem?_set_ne hk]; exact k1, by rw [upd_ne hne]; exact keep8 b (.tail _ (List.mem_of_getElem? hb)) _ k2, (k3.mv MM).mv M9⟩
          · cases ef
        · cases ef
      · have hi5 : ii = ds2.length := by omega
        subst hi5
        rw [List.drop_of_length_le (Nat.le_refl _)] at ef
        cases ef
        refine .inl ⟨(Wk2 _ H5 M5 G5.mm ds2.length).2 (Nat.le_refl _), ?_⟩
        obtain ⟨G9, M9⟩ := Good.shrink ⟨_, _, _, _, G1⟩ G5
        have hnot : ∀ a ∈ A :: bs, ¬ Mm F σ5 ρ3 a := fun a ha z => by
          rcases z with z | ⟨ii, es, f1, f2⟩
          · exact hnM a ha z
          · obtain ⟨c, zs, g1, g2, g3, g4⟩ := G5.own ii es f1
            rw [f2] at g1; cases g1
            exact g4.1 (hMl _ ha)
        have RR : Rep K (Mm F σ5 ρ3) H5 (.ref A) (.list (dss3.map .list)) := .lst ⟨hnot A (.head _), hA5⟩ (reps_lists ⟨L5.len, fun k b hb => by
          obtain ⟨dsk, xsk, k1, k2, k3⟩ := L5.at' k b hb
          exact ⟨dsk, xsk, k1, k2, k3.mv M9⟩⟩ fun b hb => hnot b (.tail _ hb))
        obtain ⟨G10, M10⟩ := G9.set r RR
        have hset : σ5.set r (some (.ref A)) = σ5 := by
          have hr5 : r < σ5.length := by
            rcases Nat.lt_or_ge r σ5.length with h | h
            · exact h
            · rw [List.getElem?_eq_none h] at hσ5; cases hσ5
          refine list_ext fun k => ?_
          by_cases hk : r = k
          · subst hk; rw [List.getElem?_set_self hr5, hσ5]
          · rw [List.getElem?_set_ne hk]
        rw [hset] at G10 M10
        exact q σ5 H5 G10 ((((M1.trans M2).trans M3).trans M4).trans ((M5.trans M9).trans M10))
  · cases e

theorem pdss_rules {X : Cx} {iter1 iter2 ix e tg1 : Expr} {kk2 R : Str} {st1 : Stmt} {pk2 p1 p2 apos cpos pos2 fpos : Pos} {rest : List Stmt} {mi1 mi2 : MA} {mix me : ME} {m : MS} (r j j2 : Nat)
    (hc : X.calm = true) (hi1 : PDI X tg1 iter1 mi1) (hst : ∀ wi, PI X tg1 iter1 wi → PS X st1 (tAsg (tLc wi (gName j) tYes (tLst tNil) [j]) (gName r)))
    (hi2 : PDI X (.Name kk2 pk2) iter2 mi2) (hg2 : PG X (.Name kk2 pk2) (gName j2)) (hix : PD X ix mix) (he : PD X e me) (hrest : PDSs X rest m) (hrj : r ≠ j2)
    (hy : X.N[r]? = some R := by rfl) (hs2 : ∀ x, foldedSetIterable iter2 X.env x = pure x := by intro _; rfl) (hp : PassesOwn (model X.prog X.w) X.A X.env X.xe)
    (hv : Vis X.env.scope R := by first | exact Or.inl rfl | exact Or.inr (Or.inl rfl) | exact Or.inr (Or.inr rfl)) (hd : (R == ("__debug__" : Str)) = false := by decide) (hcd : (R == ("__classdict__" : Str)) = false := by decide) (hpx : PlainIx ix := by exact fun _ _ => rfl)
    (hbase : attributeBase (.Subscript (.Name R p1) ix p2) "append" X.env (eval (.Subscript (.Name R p1) ix p2) X.env) = eval (.Subscript (.Name R p1) ix p2) X.env := by rfl)
    (hfew : ((backTo cpos (starEach [e] X.env)).all (fun x => !x.1) && (backToKw cpos (keywordEach [] X.env)).all (fun x => x.1.isSome)
      && decide ([e].length + ([] : List Keyword).length + (if ([] : List Keyword).isEmpty then 0 else 1) < 30)) = true := by rfl)
    (hline : (apos.endLine == cpos.line) = true := by rfl) (hs : starEach [e] X.env = (false, eval e X.env) :: starEach [] X.env := by rfl) (hplain : (backTo cpos (starEach [] X.env)).any (·.1) = false := by rfl)
    (hse : swapsWith (.Call (.Attribute (.Subscript (.Name R p1) ix p2) "append" apos) [e] [] cpos) none pos2.line X.env = pure false := by rfl) :
    PDSs X (st1 :: .For (.Name kk2 pk2) iter2 [.Expr (.Call (.Attribute (.Subscript (.Name R p1) ix p2) "append" apos) [e] [] cpos) pos2] [] fpos :: rest) (sSeq (sRules r mi1 mi2 (gSet j2) mix me) m) := by
  obtain ⟨wi1, w1, s1⟩ := hi1.ex
  obtain ⟨wi2, w2, s2⟩ := hi2.ex
  obtain ⟨tix, w3, s3⟩ := hix.ex
  obtain ⟨te, w4, s4⟩ := he.ex
  obtain ⟨tr, w5, s5⟩ := hrest.ex
  refine ⟨_, pss_cons (hst wi1 w1) (pss_cons (ps_for hp hc w2 hg2 (pss_one (ps_expr (pe_bm PySem.F.plainAttrs_list PySem.F.slot_list_append PySem.F.type_list_append mt_append (pe_ix ix_list (pe_var hy hv hd hcd) w3 hpx) (pa_cons w4 pa_nil hs) hbase hfew hline hs hplain) hse)) hs2) w5), ?_⟩
  have z := snd_seq (snd_rules (j := j) r s1 s2 (pg_set j2) s3 s4 (by simp; exact hrj)) s5
  exact z
end PD

namespace PD
open PySem PySem.Spec PyProof.Rows L2
/-! ### the deck is made -/
def cellsOf (ns : List Int) : List Int := ns.take 63 ++ (if ns = [] then [0] else [])
def restOf (c : Int) : Int := c * (if 1000000000000000000 ≤ c then 1 else 0)
def deckOf (ns : List Int) : Dk := ⟨cellsOf ns, 0, (cellsOf ns).map restOf, none⟩
def spDeck (K : PySem.W.Frag) (mk : List Int → Dk := deckOf) : Sp := fun vs H Q _ => ∃ (a : Addr) (ns : List Int), vs = [.ref a] ∧ SqL K H a (ns.map V.int) ∧ ∀ (p : DP) H', Same H H' → DeckAt H' p (mk ns) → Q (.ref p.1) H'
theorem same_new {H : Hp} {p : Addr} {o : HO} (h : H p = none) : Same H (upd H p o) := fun b x e => upd_keeps h b x e
theorem cut63 (xs : List V) : cutV xs none (some 63) = xs.take 63 := by
  unfold cutV
  rw [show HT.sIx xs.length xs.length (some 63) = min 63 xs.length from HT.sIx_nat xs.length xs.length 63, HT.sIx_none, List.drop_zero, Nat.sub_zero]
  rcases Nat.le_total 63 xs.length with h | h
  · rw [Nat.min_eq_left h]
  · rw [Nat.min_eq_right h, List.take_of_length_le h, List.take_of_length_le (Nat.le_refl _)]
section
variable {P : Program} {w : World} {K : PySem.W.Frag} {mg : Str → Option Value} {base : Heap}
def spLaw (K : PySem.W.Frag) : Sp := fun vs H Q _ => ∃ (a : Addr) (ns : List Int), vs = [.ref a] ∧ SqL K H a (ns.map V.int) ∧ ns.length ≤ 63 ∧ ∀ H', Q (.bl true) H'
theorem okLaw {x qual : Str} {st : Stmt} {f : Addr} {fd : FuncData} {N : List Str} {k : Nat} {s : MS} {rest : List Stmt} {p1 p2 p3 p4 p5 : Pos} {xs xd xf : Str} (F : Fun K x qual st f fd) (S : FnScope N [xs] (defScope st)) (hl : 2 ≤ N.length)
    (hbd : defBody st = .Assign [.Name xd p1] (.Call (.Name xf p2) [.Name xs p3] [] p4) p5 :: rest)
    (h1 : ∀ (cdv : Value) (A : Around) (outer : List Env) (s0 : Shared) (H : Hp) (E : XK), Room k (A.deeper (envOfC qual (defScope st) s0.heap.objs.size f cdv)) → PS (cxOf CX0 P w K mg base N qual (defScope st) f cdv A outer s0 H E).nox (.Assign [.Name xd p1] (.Call (.Name xf p2) [.Name xs p3] [] p4) p5) (tAsg (tCall (spDeck K) [] E0 (tCons (tVar 0) tNil)) (gName 1)))
    (h2 : ∀ (cdv : Value) (A : Around) (outer : List Env) (s0 : Shared) (H : Hp) (E : XK), Room k (A.deeper (envOfC qual (defScope st) s0.heap.objs.size f cdv)) → PDSs (cxOf CX0 P w K mg base N qual (defScope st) f cdv A outer s0 H E).nox rest s)
    (hm : ∀ ns : List Int, ns.length ≤ 63 → ∃ ρ' δ', s (slots N.length [.no, .deck]) (deckOf ns) = some (.rt (.bool true), ρ', δ')) :
    FnOk P w K mg base CX0 (k + 1) f fd [xs] (spLaw K) := by
  refine F.ok S (fun vs H Q E h => ?_) (fun cdv A outer s0 H vs Q E hr h => ?_)
  · obtain ⟨a, ns, rfl, _⟩ := h
    rfl
  · obtain ⟨a, ns, rfl, hS, hn, q⟩ := h
    obtain ⟨t, w2, s2⟩ := (h2 cdv A outer s0 H E hr).ex
    rw [hbd]
    refine ⟨_, pss_cons (h1 cdv A outer s0 H E hr) w2, ?_⟩
    refine ⟨.ref a, start_get rfl, a, ns, rfl, hS, fun p H' sm dk => ?_⟩
    obtain ⟨ρ', δ', hm⟩ := hm ns hn
    have hge : ∀ (i : Nat) x, (slots N.length [Sl.no, Sl.deck])[i]? = some x → x = .no ∨ (i = 1 ∧ x = .deck) := fun i x h => by
      rcases slots_get h with h | h
      · match i, h with
        | 0, h => cases h; exact .inl rfl
        | 1, h => cases h; exact .inr ⟨rfl, rfl⟩
        | i + 2, h => cases h
      · exact .inl h
    have G : Good K ⟨fun a => a = p.1 ∨ a = p.2 ∨ a = p.3, some p, H'⟩ ((L2.start N [.ref a]).set 1 (some (.ref p.1))) H' (slots N.length [.no, .deck]) (deckOf ns) := by
      refine ⟨?_, fun i d h => ?_, fun i ds h => ?_, fun i j ds _ _ h => ?_, fun b hb => ?_, fun i h => ?_, fun p' h => ?_, fun _ _ e _ => e⟩
      · unfold L2.start slots
        simp only [List.length_set, List.length_append, List.length_map, List.length_replicate, List.length_cons, List.length_nil]
        omega
      · rcases hge i _ h with h | ⟨_, h⟩ <;> cases h
      · rcases hge i _ h with h | ⟨_, h⟩ <;> cases h
      · rcases hge i _ h with h | ⟨_, h⟩ <;> cases h
      · rcases hb with rfl | rfl | rfl
        · rw [dk.one]; exact fun z => nomatch z
        · rw [dk.two]; exact fun z => nomatch z
        · rw [dk.tri]; exact fun z => nomatch z
      · rcases hge i _ h with h | ⟨rfl, hk⟩
        · cases h
        · cases hk
          exact ⟨p, rfl, List.getElem?_set_self (by unfold L2.start; simp only [List.length_append, List.length_map, List.length_replicate, List.length_cons, List.length_nil]; omega)⟩
      · cases h
        exact ⟨.inl rfl, .inr (.inl rfl), .inr (.inr rfl), dk⟩
    refine s2 _ _ H' _ _ _ ρ' δ' G hm _ fun σ' H2 G2 M2 v R => ?_
    cases R
    exact q H2
end
end PD

namespace PD
open PySem PySem.Spec PyProof.Rows L2
/-! ### operators at their kinds -/
theorem addD_int (i j : Int) : addD (.int i) (.int j) = some (.int (i + j)) := rfl
theorem addD_str {x y : Str} (h : x.length + y.length ≤ sizeLine) : addD (.str x) (.str y) = some (.str (x ++ y)) := by
  show (Option.orElse none fun _ => Option.orElse (if decide (x.length + y.length ≤ sizeLine) = true then some (PyData.str (x ++ y)) else none) _) = _
  rw [if_pos (decide_eq_true h)]; rfl
theorem addD_lst {x y : List D} (h : x.length + y.length ≤ sizeLine) : addD (.list x) (.list y) = some (.list (x ++ y)) := by
  show (Option.orElse none fun _ => Option.orElse none fun _ => Option.orElse (if x.length + y.length ≤ sizeLine then some (PyData.list (x ++ y)) else none) _) = _
  rw [if_pos h]; rfl
theorem addD_tup {x y : List D} (h : x.length + y.length ≤ sizeLine) : addD (.tuple x) (.tuple y) = some (.tuple (x ++ y)) := by
  show (Option.orElse none fun _ => Option.orElse none fun _ => Option.orElse none fun _ => (if x.length + y.length ≤ sizeLine then some (PyData.tuple (x ++ y)) else none)) = _
  rw [if_pos h]; rfl
theorem subD_int (i j : Int) : subD (.int i) (.int j) = some (.int (i - j)) := rfl
theorem mulD_int {i j : Int} (h : mulOk i j = true) : mulD (.int i) (.int j) = some (.int (i * j)) := by
  show (Option.orElse (if mulOk i j = true then some (PyData.int (i * j)) else none) _) = _
  rw [if_pos h]; rfl
theorem modD_int {i j : Int} (h : 0 < j) : modD (.int i) (.int j) = some (.int (i % j)) := if_pos (decide_eq_true h)
theorem fdivD_int {i j : Int} (h : 0 < j) (h' : j.natAbs.log2 < 9000) : fdivD (.int i) (.int j) = some (.int (i / j)) := if_pos (decide_eq_true ⟨h, h'⟩)
theorem powD_int {i j : Int} (h : 0 ≤ j) (h1 : j ≤ 1000000) (h2 : i.natAbs < 2 ^ 64) : powD (.int i) (.int j) = some (.int (i ^ j.toNat)) := if_pos (decide_eq_true ⟨h, h1, h2⟩)
theorem ltD_int (i j : Int) : ltD (.int i) (.int j) = some (.bool (decide (i < j))) := rfl
theorem leD_int (i j : Int) : leD (.int i) (.int j) = some (.bool (decide (i ≤ j))) := rfl
theorem gtD_int (i j : Int) : gtD (.int i) (.int j) = some (.bool (decide (j < i))) := rfl
theorem geD_int (i j : Int) : geD (.int i) (.int j) = some (.bool (decide (j ≤ i))) := rfl
theorem eqD_int (i j : Int) : eqD (.int i) (.int j) = some (.bool (decide (i = j))) := by
  show some (PyData.bool (i == j)) = _
  rw [Bool.eq_iff_iff.mpr (by simp : (i == j) = true ↔ decide (i = j) = true)]
theorem eqD_bool (i j : Bool) : eqD (.bool i) (.bool j) = some (.bool (i == j)) := rfl
theorem neD_bool (i j : Bool) : neD (.bool i) (.bool j) = some (.bool (!(i == j))) := rfl
theorem eqD_str {x y : Str} (h : PyData.strOk x = true) (h' : PyData.strOk y = true) : eqD (.str x) (.str y) = some (.bool (decide (x = y))) := by
  unfold eqD
  have h1 : SeqAt.shaped (.str x) = true := by simp [SeqAt.shaped, PyData.canLay0, PyData.depth, h]
  have h2 : SeqAt.shaped (.str y) = true := by simp [SeqAt.shaped, PyData.canLay0, PyData.depth, h']
  rw [h1, h2]
  show some (PyData.bool (x == y)) = _
  rw [show (x == y) = decide (x = y) from Bool.eq_iff_iff.mpr (by simp)]
theorem ix_lst (ds : List D) (i : Int) {d : D} (h : atI ds i = some d) : subD' (.list ds) (.int i) = some d := by
  show (Option.orElse (atI ds i) _) = _
  rw [h]; rfl
theorem ix_tupl (ds : List D) (i : Int) {d : D} (h : atI ds i = some d) : subD' (.tuple ds) (.int i) = some d := by
  show (Option.orElse (atI ds i) _) = _
  rw [h]; rfl
/-! ### statements one behind another -/
theorem seq_nx {a b : MS} {ρ ρ1 : List Sl} {δ δ1 : Dk} (h : a ρ δ = some (.nx, ρ1, δ1)) : sSeq a b ρ δ = b ρ1 δ1 := by unfold sSeq; rw [h]; rfl
theorem seq_rt {a b : MS} {ρ ρ1 : List Sl} {δ δ1 : Dk} {d : D} (h : a ρ δ = some (.rt d, ρ1, δ1)) : sSeq a b ρ δ = some (.rt d, ρ1, δ1) := by unfold sSeq; rw [h]; rfl
theorem asg_eq {m : ME} {g : MG} {ρ ρ1 : List Sl} {δ δ1 : Dk} {d : D} (h : m ρ δ = some (d, δ1)) (hg : g d ρ = some ρ1) : sAsg m g ρ δ = some (.nx, ρ1, δ1) := by unfold sAsg; rw [h]; simp [hg]
theorem ret_eq {m : ME} {ρ : List Sl} {δ δ1 : Dk} {d : D} (h : m ρ δ = some (d, δ1)) : sRet m ρ δ = some (.rt d, ρ, δ1) := by unfold sRet; rw [h]; rfl
theorem if_t {c : MT} {a b : MS} {ρ : List Sl} {δ δ1 : Dk} (h : c ρ δ = some (true, δ1)) : sIf c a b ρ δ = a ρ δ1 := by unfold sIf; rw [h]; rfl
theorem if_f {c : MT} {a b : MS} {ρ : List Sl} {δ δ1 : Dk} (h : c ρ δ = some (false, δ1)) : sIf c a b ρ δ = b ρ δ1 := by unfold sIf; rw [h]; rfl
theorem bin_eq {f : D → D → Option D} {a b : ME} {ρ : List Sl} {δ δ1 δ2 : Dk} {x y z : D} (h1 : a ρ δ = some (x, δ1)) (h2 : b ρ δ1 = some (y, δ2)) (h3 : f x y = some z) : mBin f a b ρ δ = some (z, δ2) := by
  unfold mBin; rw [h1]; simp only [Option.bind_some]; rw [h2]; simp only [Option.bind_some]; rw [h3]; rfl
theorem mB_eq {m : ME} {ρ : List Sl} {δ δ1 : Dk} {b : Bool} (h : m ρ δ = some (.bool b, δ1)) : mB m ρ δ = some (b, δ1) := by unfold mB; rw [h]; rfl
theorem un_eq {f : D → Option D} {a : ME} {ρ : List Sl} {δ δ1 : Dk} {x z : D} (h1 : a ρ δ = some (x, δ1)) (h3 : f x = some z) : mUn f a ρ δ = some (z, δ1) := by
  unfold mUn; rw [h1]; simp only [Option.bind_some]; rw [h3]; rfl
theorem callK_eq {i : Nat} {m : List D → Dk → Option (D × Dk)} {r : MA} {ρ : List Sl} {δ δ1 δ2 : Dk} {ds : List D} {z : D} (hi : ρ[i]? = some .deck) (h1 : r ρ δ = some (ds, δ1)) (h2 : m ds δ1 = some (z, δ2)) : mCallK i m r ρ δ = some (z, δ2) := by
  unfold mCallK; rw [hi]; simp only; rw [h1]; exact h2
theorem call_eq {f : List D → Option D} {r : MA} {ρ : List Sl} {δ δ1 : Dk} {ds : List D} {z : D} (h1 : r ρ δ = some (ds, δ1)) (h2 : f ds = some z) : mCall f r ρ δ = some (z, δ1) := by
  unfold mCall; rw [h1]; simp only [Option.bind_some]; rw [h2]; rfl
theorem cons_eq {a : ME} {r : MA} {ρ : List Sl} {δ δ1 δ2 : Dk} {x : D} {xs : List D} (h1 : a ρ δ = some (x, δ1)) (h2 : r ρ δ1 = some (xs, δ2)) : mCons a r ρ δ = some (x :: xs, δ2) := by
  unfold mCons; rw [h1]; simp only [Option.bind_some]; rw [h2]; rfl
theorem sl_eq {a : ME} {lo hi : MO} {ρ : List Sl} {δ δ1 δ2 δ3 : Dk} {x z : D} {l h : Option Int} (h1 : a ρ δ = some (x, δ1)) (h2 : lo ρ δ1 = some (l, δ2)) (h3 : hi ρ δ2 = some (h, δ3)) (h4 : slD l h x = some z) : mSl a lo hi ρ δ = some (z, δ3) := by
  unfold mSl; rw [h1]; simp only [Option.bind_some]; rw [h2]; simp only [Option.bind_some]; rw [h3]; simp only [Option.bind_some]; rw [h4]; rfl
theorem os_eq {m : ME} {ρ : List Sl} {δ δ1 : Dk} {i : Int} (h : m ρ δ = some (.int i, δ1)) : oSome m ρ δ = some (some i, δ1) := by unfold oSome; rw [h]; rfl
theorem lst_eq {r : MA} {ρ : List Sl} {δ δ1 : Dk} {ds : List D} (h : r ρ δ = some (ds, δ1)) (hz : ds.length ≤ sizeLine) : mLst r ρ δ = some (.list ds, δ1) := by unfold mLst; rw [h]; simp only [Option.bind_some]; rw [if_pos hz]
theorem tup_eq {r : MA} {ρ : List Sl} {δ δ1 : Dk} {ds : List D} (h : r ρ δ = some (ds, δ1)) (hz : ds.length ≤ sizeLine) : mTup r ρ δ = some (.tuple ds, δ1) := by unfold mTup; rw [h]; simp only [Option.bind_some]; rw [if_pos hz]
theorem tru_eq {m : ME} {ρ : List Sl} {δ δ1 : Dk} {d : D} {b : Bool} (h : m ρ δ = some (d, δ1)) (h2 : truD d = some b) : mTru m ρ δ = some (b, δ1) := by unfold mTru; rw [h]; simp only [Option.bind_some]; rw [h2]; rfl
theorem lc_eq {mi : MA} {vs : List Nat} {g : MG} {tt : MT} {te : ME} {ρ : List Sl} {δ δ1 δ2 : Dk} {ds out : List D} (h1 : mi ρ δ = some (ds, δ1)) (hu : noU ρ vs = true) (h2 : compL g tt te (wipeR ρ vs) ds δ1 = some (out, δ2)) (hz : out.length ≤ sizeLine) : mLc mi vs g tt te ρ δ = some (.list out, δ2) := by
  unfold mLc; rw [h1]; simp only [Option.bind_some]; rw [if_pos hu, h2]; simp only [Option.bind_some]; rw [if_pos hz]
theorem it_eq {m : ME} {ρ : List Sl} {δ δ1 : Dk} {d : D} {ds : List D} (h : m ρ δ = some (d, δ1)) (h2 : itemsD d = some ds) : mItems m ρ δ = some (ds, δ1) := by unfold mItems; rw [h]; simp only [Option.bind_some]; rw [h2]; rfl
theorem inB_nat {j : Nat} (h : j ≤ 1000000) : inB (j : Int) = true := by
  have h1 : (-(4611686018427387904 : Int)) ≤ (j : Int) := by omega
  have h2 : (j : Int) < 4611686018427387904 := by omega
  have e : (2 : Int) ^ 62 = 4611686018427387904 := by decide
  unfold inB
  rw [e]
  exact decide_eq_true ⟨h1, h2⟩
def rngL (j : Nat) : List D := (List.range j).map fun (i : Nat) => .int (i : Int)
theorem rngL_eq (j : Nat) : ((List.range (j : Int).toNat).map fun (i : Nat) => PyData.int (0 + (i : Int))) = rngL j := by
  unfold rngL
  rw [Int.toNat_natCast]
  congr 1
  funext i
  rw [Int.zero_add]
theorem rng_eq {m : ME} {ρ : List Sl} {δ δ1 : Dk} {j : Nat} (h : m ρ δ = some (.int j, δ1)) (h2 : j ≤ 1000000) : mRng1 m ρ δ = some (rngL j, δ1) := by
  unfold mRng1
  rw [h, Option.bind_some]
  dsimp only
  rw [if_pos (inB_nat h2), rngL_eq]
/-- a comprehension without a draw: each item's element -/
theorem compL_map {α : Type} {g : MG} {te : ME} {ρ : List Sl} {δ : Dk} (enc : α → D) (f : α → D) : ∀ xs : List α, (∀ x ∈ xs, ∃ ρ2, g (enc x) ρ = some ρ2 ∧ te ρ2 δ = some (f x, δ)) → compL g mYes te ρ (xs.map enc) δ = some (xs.map f, δ)
  | [], _ => rfl
  | d :: ds, h => by
    obtain ⟨ρ2, e1, e2⟩ := h d (.head _)
    rw [List.map_cons]
    unfold compL
    rw [e1]
    simp only [Option.bind_some, mYes, ↓reduceIte]
    rw [e2]
    simp only [Option.bind_some]
    rw [compL_map enc f ds fun x hx => h x (.tail _ hx)]
    rfl
theorem compL_filter {α : Type} {g : MG} {tt : MT} {te : ME} {ρ : List Sl} {δ : Dk} (enc : α → D) (p : α → Bool) (f : α → D) : ∀ xs : List α, (∀ x ∈ xs, ∃ ρ2, g (enc x) ρ = some ρ2 ∧ tt ρ2 δ = some (p x, δ) ∧ (p x = true → te ρ2 δ = some (f x, δ))) → compL g tt te ρ (xs.map enc) δ = some ((xs.filter p).map f, δ)
  | [], _ => rfl
  | d :: ds, h => by
    obtain ⟨ρ2, e1, e2, e3⟩ := h d (.head _)
    rw [List.map_cons]
    unfold compL
    rw [e1]
    simp only [Option.bind_some]
    rw [e2]
    simp only [Option.bind_some]
    have ih := compL_filter enc p f ds fun x hx => h x (.tail _ hx)
    cases hp : p d with
    | false =>
      rw [List.filter_cons_of_neg (by rw [hp]; exact Bool.false_ne_true)]
      simp only [Bool.false_eq_true, ↓reduceIte]
      exact ih
    | true =>
      rw [List.filter_cons_of_pos hp]
      simp only [↓reduceIte]
      rw [e3 hp]
      simp only [Option.bind_some]
      rw [ih]
      rfl
theorem boolsD_map : ∀ bs : List Bool, boolsD (bs.map .bool) = some bs
  | [] => rfl
  | b :: r => by rw [List.map_cons]; unfold boolsD; rw [boolsD_map r]; rfl
theorem strsD_map : ∀ bs : List Str, strsD (bs.map .str) = some bs
  | [] => rfl
  | b :: r => by rw [List.map_cons]; unfold strsD; rw [strsD_map r]; rfl
/-- data that may be compared, so deep -/
def Sh (k : Nat) (d : D) : Prop := d.canLay0 = true ∧ d.depth ≤ k
theorem Sh.all {k : Nat} : ∀ {ds : List D}, (∀ d ∈ ds, Sh k d) → PyData.canLayAll0 ds = true ∧ PyData.depthAll ds ≤ k
  | [], _ => ⟨by simp [PyData.canLayAll0], by simp [PyData.depthAll]⟩
  | d :: ds, h => by
    obtain ⟨a1, a2⟩ := h d (.head _)
    obtain ⟨b1, b2⟩ := Sh.all (ds := ds) fun x hx => h x (.tail _ hx)
    refine ⟨by simp [PyData.canLayAll0, a1, b1], ?_⟩
    simp only [PyData.depthAll]
    omega
theorem Sh.lst {k : Nat} {ds : List D} (h : ∀ d ∈ ds, Sh k d) : Sh (k + 1) (.list ds) := by
  obtain ⟨a, b⟩ := Sh.all h
  exact ⟨by simp [PyData.canLay0, a], by simp only [PyData.depth]; omega⟩
theorem Sh.tup {k : Nat} {ds : List D} (h : ∀ d ∈ ds, Sh k d) : Sh (k + 1) (.tuple ds) := by
  obtain ⟨a, b⟩ := Sh.all h
  exact ⟨by simp [PyData.canLay0, a], by simp only [PyData.depth]; omega⟩
theorem Sh.int (i : Int) : Sh 0 (.int i) := ⟨by simp [PyData.canLay0], by simp [PyData.depth]⟩
theorem Sh.bool (i : Bool) : Sh 0 (.bool i) := ⟨by simp [PyData.canLay0], by simp [PyData.depth]⟩
theorem Sh.str {x : Str} (h : PyData.strOk x = true) : Sh 0 (.str x) := ⟨by simp [PyData.canLay0, h], by simp [PyData.depth]⟩
theorem Sh.mono {k l : Nat} {d : D} (h : Sh k d) (hl : k ≤ l) : Sh l d := ⟨h.1, Nat.le_trans h.2 hl⟩
theorem Sh.ok {k : Nat} {d : D} (h : Sh k d) (hl : k ≤ 64) : SeqAt.shaped d = true := by
  unfold SeqAt.shaped
  rw [h.1, decide_eq_true (Nat.le_trans h.2 hl)]
  rfl
theorem eqD_of {k l : Nat} {d e : D} (h : Sh k d) (h' : Sh l e) (hk : k ≤ 64) (hl : l ≤ 64) : eqD d e = some (.bool (PyData.eqv d e)) := by
  unfold eqD
  rw [h.ok hk, h'.ok hl]; rfl
theorem neD_of {k l : Nat} {d e : D} (h : Sh k d) (h' : Sh l e) (hk : k ≤ 64) (hl : l ≤ 64) : neD d e = some (.bool (!PyData.eqv d e)) := by
  unfold neD
  rw [h.ok hk, h'.ok hl]; rfl
theorem eqv_nil (ds : List D) : PyData.eqv (.list ds) (.list []) = ds.isEmpty := by cases ds <;> simp [PyData.eqv, PyData.eqvAll]
theorem eqv_nilT (ds : List D) : PyData.eqv (.tuple ds) (.tuple []) = ds.isEmpty := by cases ds <;> simp [PyData.eqv, PyData.eqvAll]
/-- a comprehension that draws: an invariant of the deck by the turn -/
theorem compL_inv {g : MG} {te : ME} {ρ : List Sl} (I : Nat → Dk → Prop) (R : D → D → Prop) : ∀ (ds : List D) (n : Nat) (δ : Dk), I n δ → (∀ d ∈ ds, ∀ (k : Nat) δ, k < n + ds.length → I k δ → ∃ ρ2 z δ', g d ρ = some ρ2 ∧ te ρ2 δ = some (z, δ') ∧ R d z ∧ I (k + 1) δ') →
    ∃ out δ', compL g mYes te ρ ds δ = some (out, δ') ∧ I (n + ds.length) δ' ∧ Paired R ds out
  | [], n, δ, h, _ => ⟨[], δ, rfl, h, .nil⟩
  | d :: ds, n, δ, h, hs => by
    obtain ⟨ρ2, z, δ1, e1, e2, r, h1⟩ := hs d (.head _) n δ (by simp) h
    obtain ⟨out, δ', e3, h3, r3⟩ := compL_inv I R ds (n + 1) δ1 h1 fun x hx k δ hk => hs x (.tail _ hx) k δ (by simp; omega)
    refine ⟨z :: out, δ', ?_, by rw [show n + (d :: ds).length = n + 1 + ds.length by simp; omega]; exact h3, .cons r r3⟩
    unfold compL
    rw [e1]
    simp only [Option.bind_some, mYes, ↓reduceIte]
    rw [e2]
    simp only [Option.bind_some]
    rw [e3]
    rfl
theorem fnP_eq {n np : Nat} {s : MS} {ds : List D} {d : D} {ρ' : List Sl} {δ' : Dk} (hl : ds.length = np ∧ np ≤ n) (h : s (slots n (ds.map .val)) ⟨[], 0, [], none⟩ = some (.rt d, ρ', δ')) : fnP n np s ds = some d := by
  unfold fnP
  rw [if_pos hl, h]; rfl
theorem fnK_eq {n np : Nat} {s : MS} {ds : List D} {d : D} {ρ' : List Sl} {δ δ' : Dk} (hl : ds.length + 1 = np ∧ np ≤ n) (h : s (slots n (.deck :: ds.map .val)) δ = some (.rt d, ρ', δ')) : fnK n np s ds δ = some (d, δ') := by
  unfold fnK
  rw [if_pos hl, h]; rfl
end PD

namespace PD
open PySem PySem.Spec PyProof.Rows L2
/-! ### further operators -/
def bandD : D → D → Option D := onI (fun _ _ => true) fun i j => .int (Builtin.bitAnd i j)
section
variable {X : Cx} {a b : Expr} {ma mb : ME} {p pos pos1 pos2 p1 p2 : Pos}
theorem pd_band (ha : PD X a ma) (hb : PD X b mb) : PD X (.BinOp a .BitAnd b pos) (mBin bandD ma mb) := PD.op op_and (ops_I0 fun _ _ _ _ => .int _) ha hb
/-- x is None, x is True -/
def isND : D → D → Option D
  | .none, .none => some (.bool true)
  | _, .none => some (.bool false)
  | _, _ => none
def isBD : D → D → Option D
  | .bool x, .bool y => some (.bool (decide (x = y)))
  | _, _ => none
theorem isN_dec {K M H v d} (r : Rep K M H v d) : (decide (v = .non)) = (match d with | .none => true | _ => false) := by
  cases r <;> simp
theorem ops_isN {K} : OpS K (fun x y H Q => y = .non ∧ Q (.bl (decide (x = .non))) H) isND := fun F σ H ρ δ x y d e z G rx ry hz Q q => by
  cases ry <;> first | (cases d <;> simp [isND] at hz; done) | skip
  refine ⟨rfl, ?_⟩
  rw [isN_dec rx]
  cases d <;> (simp only [isND, Option.some.injEq] at hz; subst hz; exact q _ _ nokeep (.bl _))
theorem ops_isB {K} : OpS K rIsB isBD := fun F σ H ρ δ x y d e z G rx ry hz Q q => by
  unfold isBD at hz
  split at hz
  · cases hz; cases rx; cases ry
    exact ⟨_, _, rfl, rfl, q _ _ nokeep (.bl _)⟩
  · cases hz
def notOpt (f : D → D → Option D) : D → D → Option D := fun d e => (f d e).bind notD
theorem ops_notN {K} : OpS K (fun x y H Q => y = .non ∧ Q (.bl (!decide (x = .non))) H) (notOpt isND) := fun F σ H ρ δ x y d e z G rx ry hz Q q => by
  cases ry <;> first | (cases d <;> simp [isND, notOpt] at hz; done) | skip
  refine ⟨rfl, ?_⟩
  rw [isN_dec rx]
  cases d <;> (simp only [notOpt, isND, Option.bind_some, notD, Option.some.injEq] at hz; subst hz; exact q _ _ nokeep (.bl _))
theorem ops_notB {K} : OpS K rNotB (notOpt isBD) := fun F σ H ρ δ x y d e z G rx ry hz Q q => by
  unfold notOpt isBD at hz
  split at hz
  · simp only [Option.bind_some, notD, Option.some.injEq] at hz
    subst hz
    cases rx; cases ry
    exact ⟨_, _, rfl, rfl, q _ _ nokeep (.bl _)⟩
  · cases hz
def isD' : D → D → Option D := fun d e => (isND d e).orElse fun _ => isBD d e
def isNotD : D → D → Option D := fun d e => (notOpt isND d e).orElse fun _ => notOpt isBD d e
theorem cs_is : CmpS X .Is isD' := ⟨_, OpR.or op_isN op_isBl, OpS.or ops_isN ops_isB⟩
theorem cs_isnot : CmpS X .IsNot isNotD := ⟨_, OpR.or op_notN op_notBl, OpS.or ops_notN ops_notB⟩

/-! ### list(range(..)) -/
def mLRng (r : MA) : ME := fun ρ δ => (r ρ δ).bind fun p => if p.1.length ≤ 100000 then some (.list p.1, p.2) else none
theorem pd_listR1 (hl : X.mg "list" = none) (hm : X.mg "range" = none) (hc : X.calm = true) (ha : PD X a ma) (hg : Gl X "list" := by rfl) (hgr : Gl X "range" := by rfl) (na : starEach [a] X.env = (false, eval a X.env) :: starEach [] X.env := by rfl)
    (nb : starEach [Expr.Call (.Name "range" p1) [a] [] pos1] X.env = (false, eval (.Call (.Name "range" p1) [a] [] pos1) X.env) :: starEach [] X.env := by rfl) : PD X (.Call (.Name "list" p) [.Call (.Name "range" p1) [a] [] pos1] [] pos) (mLRng (mRng1 ma)) := by
  obtain ⟨ta, h1, s1⟩ := ha.ex
  refine ⟨_, pe_listRg hc hg hl (prg_1 hgr hm h1 na) nb, fun F σ H ρ δ d δ' G e Q q => ?_⟩
  obtain ⟨⟨xs, δ1⟩, e1, e⟩ := Option.bind_eq_some_iff.mp e
  obtain ⟨⟨x, δ2⟩, e2, e1⟩ := Option.bind_eq_some_iff.mp e1
  refine s1 F σ H ρ δ _ _ G e2 _ fun v H1 G1 M1 R1 => ?_
  dsimp only at e1 e
  split at e1
  · rename_i j
    split at e1
    · rename_i hb
      have hb := of_decide_eq_true hb
      cases e1
      split at e
      · rename_i hz
        cases e
        cases R1
        rw [List.length_map, List.length_range] at hz
        refine ⟨_, rfl, ?_, fun q' hq => ?_⟩
        · have h0 : (j - 0).toNat ≤ 2 ^ 24 := by rw [Int.sub_zero]; exact Nat.le_trans hz (by decide)
          exact ⟨by omega, by omega, hb.1, hb.2, h0⟩
        · have k := upd_keeps (o := .lst (rgV 0 j)) hq
          refine q _ _ (G1.keep k) (M1.trans (Mv.same k)) (.lst ⟨G1.mfree hq, upd_same⟩ ?_)
          unfold rgV
          rw [Int.sub_zero]
          exact reps_ints (fun i => 0 + (i : Int)) (List.range j.toNat)
      · cases e
    · cases e1
  · cases e1

/-! ### a dict that a loop fills by setdefault -/
end
inductive RepD (K : PySem.W.Frag) (M : Addr → Prop) (H : Hp) : List (Key × V) → List (Key × D) → Prop
  | nil : RepD K M H [] []
  | cons {k : Key} {v : V} {d : D} {ps : List (Key × V)} {es : List (Key × D)} : Rep K M H v d → RepD K M H ps es → RepD K M H ((k, v) :: ps) ((k, d) :: es)
theorem RepD.mv {K M H M' H'} (h : Mv M H M' H') : ∀ {ps es}, RepD K M H ps es → RepD K M' H' ps es
  | _, _, .nil => .nil
  | _, _, .cons r t => .cons (r.mv h) (RepD.mv h t)
theorem RepD.app {K M H} : ∀ {ps es k v d}, RepD K M H ps es → Rep K M H v d → RepD K M H (ps ++ [(k, v)]) (es ++ [(k, d)])
  | _, _, _, _, _, .nil, r => .cons r .nil
  | _, _, _, _, _, .cons q t, r => .cons q (RepD.app t r)
theorem RepD.repK {K M H} : ∀ {ps es}, RepD K M H ps es → RepK K M H ps (es.map fun e => (keyD e.1, e.2))
  | _, _, .nil => .nil
  | _, _, .cons r t => .cons r (RepD.repK t)
def hasK (es : List (Key × D)) (k : Key) : Bool := es.any fun e => decide (e.1 = k)
theorem RepD.len {K M H} : ∀ {ps es}, RepD K M H ps es → ps.length = es.length
  | _, _, .nil => rfl
  | _, _, .cons _ t => by simp [RepD.len t]
theorem RepD.val {K M H} (k : Key) : ∀ {ps es}, RepD K M H ps es → (hasK es k = true → ∃ v, valV ps k = some v) ∧ (hasK es k = false → valV ps k = none ∧ (ps.any fun kv => decide (kv.1 = k)) = false)
  | _, _, .nil => ⟨fun h => by simp [hasK] at h, fun _ => ⟨rfl, rfl⟩⟩
  | _, _, .cons (k := k') (v := v) r t => by
    obtain ⟨h1, h2⟩ := RepD.val k t
    rw [valV_cons]
    by_cases hk : k' = k
    · rw [if_pos hk]
      exact ⟨fun _ => ⟨v, rfl⟩, fun h => by simp [hasK, hk] at h⟩
    · rw [if_neg hk]
      refine ⟨fun h => h1 ?_, fun h => ?_⟩
      · simpa [hasK, hk] using h
      · obtain ⟨a, b⟩ := h2 (by simpa [hasK, hk] using h)
        exact ⟨a, by rw [List.any_cons, b, decide_eq_false hk]; rfl⟩
def dictL (g : MG) (m1 m2 : ME) : List D → List Sl → Dk → List (Key × D) → Option (List Sl × Dk × List (Key × D))
  | [], ρ, δ, es => some (ρ, δ, es)
  | d :: ds, ρ, δ, es => (g d ρ).bind fun ρ1 => (m1 ρ1 δ).bind fun p => (keyOf p.1).bind fun k => (m2 ρ1 p.2).bind fun q => if es.length < sizeLine then dictL g m1 m2 ds ρ1 q.2 (if hasK es k then es else es ++ [(k, q.1)]) else none
def sDict (r : Nat) (mi : MA) (g : MG) (m1 m2 : ME) : MS := fun ρ δ => if r < ρ.length then (mi (ρ.set r .no) δ).bind fun p => (dictL g m1 m2 p.1 (ρ.set r .no) p.2 []).map fun z => (.nx, z.1.set r (.val (.dict (z.2.2.map fun e => (keyD e.1, e.2)))), z.2.1) else none
theorem snd_dict {K wi t1 t2 mi m1 m2 g mg} {sl : List Nat} (r : Nat)
    (hi : ∀ F σ H ρ δ ds δ', Good K F σ H ρ δ → mi ρ δ = some (ds, δ') → ∀ R : It → Hp → Prop, (∀ J H', Good K F σ H' ρ δ' → Mv (Mm F σ ρ) H (Mm F σ ρ) H' → Walks K (Mm F σ ρ) H' J ds → R J H') → wi σ H R)
    (hg : ∀ F σ H ρ δ v d ρ', Good K F σ H ρ δ → Rep K (Mm F σ ρ) H v d → mg d ρ = some ρ' → ∀ Q : L2.St → Hp → Prop, (∀ σ', Good K F σ' H ρ' δ → Mv (Mm F σ ρ) H (Mm F σ' ρ') H → Set1 sl σ σ' ρ ρ' → Q σ' H) → g v σ H Q)
    (h1 : Snd K t1 m1) (h2 : Snd K t2 m2) (hr : r ∉ sl) :
    SndS K (tSeq (tAsg tDNewK (gName r)) (tFor wi g (tDrop (tDSetd (tVar r) t1 t2)))) (sDict r mi mg m1 m2) := fun F σ H ρ δ fl ρ' δ' G e D q => by
  unfold sDict at e
  split at e
  · rename_i hz
    obtain ⟨⟨ds, δ1⟩, e1, e⟩ := Option.bind_eq_some_iff.mp e
    obtain ⟨⟨ρ3, δ3, es3⟩, e3, e⟩ := Option.map_eq_some_iff.mp e
    cases e
    intro A hA
    have nDk : ∀ p, F.dk = some p → A ≠ p.1 ∧ A ≠ p.2 ∧ A ≠ p.3 := fun p hp => ⟨(ne_of_none (G.dck p hp).2.2.2.one hA).symm, (ne_of_none (G.dck p hp).2.2.2.two hA).symm, (ne_of_none (G.dck p hp).2.2.2.tri hA).symm⟩
    obtain ⟨G1, M1⟩ := G.plus (o := .dK []) hA
    have hn0 : (F.plus A).H0 A = none := G.fresh0 hA
    have hMA : (F.plus A).M0 A := .inr rfl
    obtain ⟨G2, M2⟩ := G1.setNo r (some (.ref A))
    have hrl : r < σ.length := by rw [G.len]; exact hz
    refine hi ((F.plus A).pin A (.dK [])) (σ.set r (some (.ref A))) _ (ρ.set r .no) δ ds δ1 (G2.pin hMA upd_same) e1 _ fun J H4 G4 M4 Wk => ?_
    rw [Mm_pin] at M4 Wk
    have hA4 : H4 A = some (.dK []) := G4.fr A _ upd_same nDk
    refine ⟨fun ii k σ5 H5 => k = ds.length - ii ∧ ii ≤ ds.length ∧ ∃ ρ5 δ5 es5 kvs5, Good K (F.plus A) σ5 H5 ρ5 δ5 ∧ σ5[r]? = some (some (.ref A)) ∧ ρ5[r]? = some .no ∧ H5 A = some (.dK kvs5) ∧ RepD K (Mm (F.plus A) σ5 ρ5) H5 kvs5 es5 ∧
      Mv (Mm (F.plus A) (σ.set r (some (.ref A))) (ρ.set r .no)) H4 (Mm (F.plus A) σ5 ρ5) H5 ∧ dictL mg m1 m2 (ds.drop ii) ρ5 δ5 es5 = some (ρ3, δ3, es3), ⟨_, rfl, Nat.zero_le _, ρ.set r .no, δ1, [], [], Good.unpin hn0 hMA G4, List.getElem?_set_self hrl, List.getElem?_set_self hz, hA4, .nil, Mv.refl _ _, e3⟩, ?_⟩
    rintro ii k σ5 H5 ⟨rfl, hile, ρ5, δ5, es5, kvs5, G5, hσ5, hρ5, hA5, RD5, M5, ef⟩
    by_cases hlt : ii < ds.length
    · obtain ⟨go, yl⟩ := (Wk _ H5 M5 G5.mm ii).1 hlt
      have hld : ii < ds.length := hlt
      rw [List.drop_eq_getElem_cons hld] at ef
      refine .inr ⟨go, fun σ5 H5 => ∃ ρ5 δ5 es5 kvs5, Good K (F.plus A) σ5 H5 ρ5 δ5 ∧ σ5[r]? = some (some (.ref A)) ∧ ρ5[r]? = some .no ∧ H5 A = some (.dK kvs5) ∧ RepD K (Mm (F.plus A) σ5 ρ5) H5 kvs5 es5 ∧
        Mv (Mm (F.plus A) (σ.set r (some (.ref A))) (ρ.set r .no)) H4 (Mm (F.plus A) σ5 ρ5) H5 ∧ dictL mg m1 m2 (ds.drop (ii + 1)) ρ5 δ5 es5 = some (ρ3, δ3, es3), fun σ' H' h => ⟨ds.length - (ii + 1), by omega, rfl, hlt, h⟩, fun x H6 hy => ?_⟩
      obtain ⟨kp, dx, edx, rdx⟩ := yl x H6 hy
      rw [List.getElem?_eq_getElem hld] at edx
      cases edx
      replace G5 := G5.keep kp
      replace M5 := M5.trans (Mv.same kp)
      replace hA5 := kp _ _ hA5
      replace RD5 := RD5.mv (Mv.same kp)
      unfold dictL at ef
      obtain ⟨ρ6, f1, ef⟩ := Option.bind_eq_some_iff.mp ef
      obtain ⟨⟨d1, δ6⟩, f2, ef⟩ := Option.bind_eq_some_iff.mp ef
      obtain ⟨kk, f3, ef⟩ := Option.bind_eq_some_iff.mp ef
      obtain ⟨⟨d2, δ7⟩, f4, ef⟩ := Option.bind_eq_some_iff.mp ef
      dsimp only at ef
      split at ef
      · rename_i hsz
        refine hg _ σ5 H6 ρ5 δ5 x _ ρ6 G5 rdx f1 _ fun σ6 G6 M6 T6 => ?_
        have hσ6 : σ6[r]? = some (some (.ref A)) := (T6.s r hr).trans hσ5
        have hρ6 : ρ6[r]? = some .no := (T6.r r hr).trans hρ5
        refine ⟨_, hσ6, A, rfl, .inl ⟨kvs5, .inl hA5⟩, ?_⟩
        refine h1 ((F.plus A).pin A (.dK kvs5)) σ6 H6 ρ6 δ5 d1 δ6 (G6.pin hMA hA5) f2 _ fun v1 H7 G7 M7 R7 => ?_
        refine h2 ((F.plus A).pin A (.dK kvs5)) σ6 H7 ρ6 δ6 d2 δ7 G7 f4 _ fun v2 H8 G8 M8 R8 => ?_
        rw [Mm_pin] at M7 R7 M8 R8
        have hA8 : H8 A = some (.dK kvs5) := G8.fr A _ upd_same nDk
        have ky := keyOf_rep R7 f3
        have MM := (M6.trans M7).trans M8
        have RD8 := RD5.mv MM
        obtain ⟨c1, c2⟩ := RD8.val kk
        have G8' := Good.unpin hn0 hMA G8
        refine ⟨kvs5, kk, hA8, ky, by rw [RD8.len]; exact hsz, fun v hv => ?_, fun hv => ?_⟩
        · cases hh : hasK es5 kk with
          | false => rw [(c2 hh).1] at hv; cases hv
          | true =>
            rw [hh] at ef
            exact ⟨ρ6, δ7, es5, kvs5, G8', hσ6, hρ6, hA8, RD8, M5.trans MM, ef⟩
        · cases hh : hasK es5 kk with
          | true => obtain ⟨v, hv'⟩ := c1 hh; rw [hv'] at hv; cases hv
          | false =>
            rw [hh] at ef
            obtain ⟨G9, M9⟩ := G8'.writeM (D := A) (o := .dK (kvs5 ++ [(kk, v2)])) hMA nDk hn0
            have hput : putK kvs5 kk v2 = kvs5 ++ [(kk, v2)] := by
              unfold putK
              rw [(c2 hh).2, if_neg Bool.false_ne_true]
            rw [hput]
            exact ⟨ρ6, δ7, es5 ++ [(kk, d2)], _, G9, hσ6, hρ6, upd_same, (RD8.app R8).mv M9, (M5.trans MM).trans M9, ef⟩
      · cases ef
    · have hi5 : ii = ds.length := by omega
      subst hi5
      rw [List.drop_of_length_le (Nat.le_refl _)] at ef
      cases ef
      refine .inl ⟨(Wk _ H5 M5 G5.mm ds.length).2 (Nat.le_refl _), ?_⟩
      have eA : F.plus A = F.plusS [A] := by
        have := plusS_cons (F := F) (l := []) (b := A)
        rw [plusS_nil] at this
        exact this
      have G5' := G5
      rw [eA] at G5'
      obtain ⟨G9, M9⟩ := Good.shrink ⟨_, _, _, _, G⟩ G5'
      rw [← eA] at M9
      have hnot : ¬ Mm F σ5 ρ3 A := fun z => by
        rcases z with z | ⟨jj, fs, f1, f2⟩
        · exact G.m0 A z hA
        · obtain ⟨c, zs, g1, g2, g3, g4⟩ := G5.own jj fs f1
          rw [f2] at g1; cases g1
          exact g4.1 hMA
      have RR : Rep K (Mm F σ5 ρ3) H5 (.ref A) (.dict (es3.map fun e => (keyD e.1, e.2))) := .dic hnot (.inl hA5) (RD5.mv M9).repK
      obtain ⟨G10, M10⟩ := G9.set r RR
      have hset : σ5.set r (some (.ref A)) = σ5 := by
        have hr5 : r < σ5.length := by
          rcases Nat.lt_or_ge r σ5.length with h | h
          · exact h
          · rw [List.getElem?_eq_none h] at hσ5; cases hσ5
        refine list_ext fun k => ?_
        by_cases hk : r = k
        · subst hk; rw [List.getElem?_set_self hr5, hσ5]
        · rw [List.getElem?_set_ne hk]
      rw [hset] at G10 M10
      exact q σ5 H5 G10 (((M1.trans M2).trans M4).trans ((M5.trans M9).trans M10))
  · cases e
end PD

namespace PD
open PySem PySem.Spec PyProof.Rows L2
/-! ### a dict that is walked: locked meanwhile -/
section
variable {K : PySem.W.Frag} {M : Addr → Prop} {H : Hp} {A : Addr} {od : Obj} {kvs : List (Key × V)}
theorem rd_lock {u : HO} {a : Addr} (hA : H A = some (.dK kvs)) (hu : ∀ o, u ≠ .frz o (.dK kvs)) (r : Rd H a u) : Rd (upd H A (.frz od (.dK kvs))) a u := by
  by_cases ha : a = A
  · subst ha
    rcases r with r | ⟨o, r⟩
    · rw [hA] at r; cases r; exact .inr ⟨od, upd_same⟩
    · rw [hA] at r; cases r
  · rcases r with r | ⟨o, r⟩
    · exact .inl (by rw [upd_ne ha]; exact r)
    · exact .inr ⟨o, by rw [upd_ne ha]; exact r⟩
theorem rd_unlock {u : HO} {a : Addr} (hA : H A = some (.frz od (.dK kvs))) (hu : ∀ o w, u ≠ .frz o w) (r : Rd H a u) : Rd (upd H A (.dK kvs)) a u := by
  by_cases ha : a = A
  · subst ha
    rcases r with r | ⟨o, r⟩
    · rw [hA] at r; cases r; exact absurd rfl (hu _ _)
    · rw [hA] at r; cases r; exact .inl upd_same
  · rcases r with r | ⟨o, r⟩
    · exact .inl (by rw [upd_ne ha]; exact r)
    · exact .inr ⟨o, by rw [upd_ne ha]; exact r⟩
theorem lst_lock {xs : List V} {a : Addr} (hA : H A = some (.dK kvs)) (h : H a = some (.lst xs)) : upd H A (.frz od (.dK kvs)) a = some (.lst xs) := by
  rw [upd_ne (fun z => by rw [z, hA] at h; cases h)]; exact h
theorem lst_unlock {xs : List V} {a : Addr} (hA : H A = some (.frz od (.dK kvs))) (h : H a = some (.lst xs)) : upd H A (.dK kvs) a = some (.lst xs) := by
  rw [upd_ne (fun z => by rw [z, hA] at h; cases h)]; exact h
end
structure Al (K : PySem.W.Frag) (M : Addr → Prop) (H H' : Hp) : Prop where
  al : ∀ {a xs}, AL K M H a xs → AL K M H' a xs
  at' : ∀ {a xs}, AT K M H a xs → AT K M H' a xs
  ad : ∀ {a kvs}, Rd H a (.dK kvs) → Rd H' a (.dK kvs)
mutual
theorem Rep.al {K M H H'} (h : Al K M H H') : ∀ {v d}, Rep K M H v d → Rep K M H' v d
  | _, _, .non => .non
  | _, _, .bl b => .bl b
  | _, _, .int i => .int i
  | _, _, .str x => .str x
  | _, _, .lst a r => .lst (h.al a) (Reps.al h r)
  | _, _, .tup a r => .tup (h.at' a) (Reps.al h r)
  | _, _, .dic n e r => .dic n (h.ad e) (RepK.al h r)
theorem Reps.al {K M H H'} (h : Al K M H H') : ∀ {vs ds}, Reps K M H vs ds → Reps K M H' vs ds
  | _, _, .nil => .nil
  | _, _, .cons r t => .cons (Rep.al h r) (Reps.al h t)
theorem RepK.al {K M H H'} (h : Al K M H H') : ∀ {vs ds}, RepK K M H vs ds → RepK K M H' vs ds
  | _, _, .nil => .nil
  | _, _, .cons r t => .cons (Rep.al h r) (RepK.al h t)
end
section
variable {K : PySem.W.Frag} {M : Addr → Prop} {H : Hp} {A : Addr} {od : Obj} {kvs : List (Key × V)}
theorem al_lock (hA : H A = some (.dK kvs)) : Al K M H (upd H A (.frz od (.dK kvs))) :=
  ⟨fun a => ⟨a.1, lst_lock hA a.2⟩, fun a => a.elim (fun a => .inl ⟨a.1, rd_lock hA (fun o z => nomatch z) a.2⟩) .inr, fun e => rd_lock hA (fun o z => nomatch z) e⟩
theorem al_unlock (hA : H A = some (.frz od (.dK kvs))) : Al K M H (upd H A (.dK kvs)) :=
  ⟨fun a => ⟨a.1, lst_unlock hA a.2⟩, fun a => a.elim (fun a => .inl ⟨a.1, rd_unlock hA (fun o w z => nomatch z) a.2⟩) .inr, fun e => rd_unlock hA (fun o w z => nomatch z) e⟩
theorem Rep.lock {v d} (r : Rep K M H v d) (hA : H A = some (.dK kvs)) : Rep K M (upd H A (.frz od (.dK kvs))) v d := r.al (al_lock hA)
theorem Reps.lock {v d} (r : Reps K M H v d) (hA : H A = some (.dK kvs)) : Reps K M (upd H A (.frz od (.dK kvs))) v d := r.al (al_lock hA)
theorem RepK.lock {v d} (r : RepK K M H v d) (hA : H A = some (.dK kvs)) : RepK K M (upd H A (.frz od (.dK kvs))) v d := r.al (al_lock hA)
theorem OwR.lock {v d} (r : OwR K M H v d) (hA : H A = some (.dK kvs)) : OwR K M (upd H A (.frz od (.dK kvs))) v d := by
  cases r with
  | lst r => exact .lst (r.lock hA)
  | dic r => exact .dic (r.lock hA)
theorem Rep.unlock {v d} (r : Rep K M H v d) (hA : H A = some (.frz od (.dK kvs))) : Rep K M (upd H A (.dK kvs)) v d := r.al (al_unlock hA)
theorem Reps.unlock {v d} (r : Reps K M H v d) (hA : H A = some (.frz od (.dK kvs))) : Reps K M (upd H A (.dK kvs)) v d := r.al (al_unlock hA)
theorem RepK.unlock {v d} (r : RepK K M H v d) (hA : H A = some (.frz od (.dK kvs))) : RepK K M (upd H A (.dK kvs)) v d := r.al (al_unlock hA)
theorem OwR.unlock {v d} (r : OwR K M H v d) (hA : H A = some (.frz od (.dK kvs))) : OwR K M (upd H A (.dK kvs)) v d := by
  cases r with
  | lst r => exact .lst (r.unlock hA)
  | dic r => exact .dic (r.unlock hA)
end
def Fr.lock (F : Fr) (A : Addr) : Fr := { F with H0 := fun a => if a = A then none else F.H0 a }
theorem Mm_lock {F A σ ρ} : Mm (F.lock A) σ ρ = Mm F σ ρ := rfl
theorem Good.lock {K F σ H ρ δ A kvs od} (G : Good K F σ H ρ δ) (nA : ¬ Mm F σ ρ A) (hA : H A = some (.dK kvs)) : Good K (F.lock A) σ (upd H A (.frz od (.dK kvs))) ρ δ := by
  refine ⟨G.len, fun i d e => ?_, fun i ds e => ?_, G.inj, fun a ha => ?_, G.dsl, fun p e => ?_, fun a o e n => ?_⟩
  · obtain ⟨v, e1, r⟩ := G.val i d e
    exact ⟨v, e1, r.lock hA⟩
  · obtain ⟨a, xs, e1, e2, r, n⟩ := G.own i ds e
    refine ⟨a, xs, e1, by rw [upd_ne (fun z => nA (by rw [← z]; exact .inr ⟨i, ds, e, e1⟩))]; exact e2, r.lock hA, n.1, ?_⟩
    show (if a = A then none else F.H0 a) = none
    split
    · rfl
    · exact n.2
  · by_cases hz : a = A
    · rw [hz, upd_same]; exact fun z => nomatch z
    · rw [upd_ne hz]; exact G.m0 a ha
  · obtain ⟨d1, d2, d4, d3⟩ := G.dck p e
    exact ⟨d1, d2, d4, d3.ne, d3.ne2, d3.ne3, by rw [upd_ne (fun z => by have := d3.one; rw [z, hA] at this; cases this)]; exact d3.one, by rw [upd_ne (fun z => by have := d3.two; rw [z, hA] at this; cases this)]; exact d3.two, by rw [upd_ne (fun z => by have := d3.tri; rw [z, hA] at this; cases this)]; exact d3.tri⟩
  · have e : (if a = A then none else F.H0 a) = some o := e
    split at e
    · cases e
    · rename_i hz
      rw [upd_ne hz]
      exact G.fr a o e n
theorem Good.unlock {K F σ H H0 ρ ρ0 δ δ0 A kvs od} (G0 : Good K F σ H0 ρ0 δ0) (hA0 : H0 A = some (.dK kvs)) (G : Good K (F.lock A) σ H ρ δ) (hA : H A = some (.frz od (.dK kvs))) (hu : ∀ (i : Nat) ds, ρ[i]? = some (.own ds) → ρ0[i]? = some (.own ds)) : Good K F σ (upd H A (.dK kvs)) ρ δ := by
  refine ⟨G.len, fun i d e => ?_, fun i ds e => ?_, G.inj, fun a ha => ?_, G.dsl, fun p e => ?_, fun a o e n => ?_⟩
  · obtain ⟨v, e1, r⟩ := G.val i d e
    exact ⟨v, e1, r.unlock hA⟩
  · obtain ⟨a, xs, e1, e2, r, n⟩ := G.own i ds e
    obtain ⟨a', xs', f1, f2, f3, f4⟩ := G0.own i ds (hu i ds e)
    rw [e1] at f1; cases f1
    exact ⟨a, xs, e1, by rw [upd_ne (fun z => by rw [z, hA] at e2; cases e2; cases r)]; exact e2, r.unlock hA, f4⟩
  · by_cases hz : a = A
    · rw [hz, upd_same]; exact fun z => nomatch z
    · rw [upd_ne hz]; exact G.m0 a ha
  · obtain ⟨d1, d2, d4, d3⟩ := G.dck p e
    exact ⟨d1, d2, d4, d3.ne, d3.ne2, d3.ne3, by rw [upd_ne (fun z => by have := d3.one; rw [z, hA] at this; cases this)]; exact d3.one, by rw [upd_ne (fun z => by have := d3.two; rw [z, hA] at this; cases this)]; exact d3.two, by rw [upd_ne (fun z => by have := d3.tri; rw [z, hA] at this; cases this)]; exact d3.tri⟩
  · by_cases hz : a = A
    · subst hz
      have := G0.fr a o e n
      rw [hA0] at this
      cases this
      exact upd_same
    · rw [upd_ne hz]
      exact G.fr a o (by show (if a = A then none else F.H0 a) = some o; rw [if_neg hz]; exact e) n
theorem walk_items {K M H A o kvs es} (n : ¬ M A) (hA : H A = some (.frz o (.dK kvs))) (r : RepK K M H kvs es) : Walks K M H (Iti A o kvs) (es.map fun e => .tuple [e.1, e.2]) := fun M2 H2 mv wf i => by
  have hl : ∀ {kvs : List (Key × V)} {es : List (D × D)}, RepK K M H kvs es → kvs.length = es.length := fun {kvs es} r => by
    have : ∀ {kvs : List (Key × V)} {es : List (D × D)}, RepK K M H kvs es → kvs.length = es.length := @fun kvs => by
      induction kvs with
      | nil => intro es r; cases r; rfl
      | cons x xs ih => intro es r; cases r with | cons _ t => simp [ih t]
    exact this r
  have hA2 := (mv A _ hA n).1
  have r2 := r.mv mv
  have hg : ∀ {kvs : List (Key × V)} {es : List (D × D)} {i : Nat} {k v}, RepK K M2 H2 kvs es → kvs[i]? = some (k, v) → ∃ d, es[i]? = some (keyD k, d) ∧ Rep K M2 H2 v d := by
    intro kvs
    induction kvs with
    | nil => intro es i k v r e; simp at e
    | cons x xs ih =>
      intro es i k v r e
      cases r with
      | cons q t =>
        cases i with
        | zero => simp at e; obtain ⟨rfl, rfl⟩ := e; exact ⟨_, rfl, q⟩
        | succ i => simpa using ih t (by simpa using e)
  refine ⟨fun hi => ⟨⟨hA2, by rw [hl r]; simpa using hi⟩, fun x H3 y => ?_⟩, fun hi => ⟨hA2, by rw [hl r]; simpa using hi⟩⟩
  obtain ⟨T, k, v, e1, rfl, hT, rfl⟩ := y
  obtain ⟨d, e2, rr⟩ := hg r2 e1
  have kp := upd_keeps (o := .tup [kV k, v]) hT
  refine ⟨kp, .tuple [keyD k, d], by rw [List.getElem?_map, e2]; rfl, .tup (.inl ⟨fun z => wf T z hT, .inl upd_same⟩) (.cons ?_ (.cons (rr.mv (Mv.same kp)) .nil))⟩
  cases k with
  | inl i => exact .int i
  | inr i => exact .str i
/-- [elt for a, b in NAME.items() ..] -/
def mLcItems (r : Nat) (vs : List Nat) (g : MG) (tt : MT) (te : ME) : ME := fun ρ δ => match ρ[r]? with
  | some (.val (.dict es)) => if noU ρ vs = true then (compL g tt te (wipeR ρ vs) (es.map fun e => .tuple [e.1, e.2]) δ).bind fun q => if q.1.length ≤ sizeLine then some (.list q.1, q.2) else none else none
  | _ => none
/-- only a dict that no lock holds may be locked: the value in the slot stands as itself -/
theorem snd_lcItems {K g tt te vs mg mt me r} {sl : List Nat} (hg : ∀ F σ H ρ δ v d ρ', Good K F σ H ρ δ → Rep K (Mm F σ ρ) H v d → mg d ρ = some ρ' → ∀ Q : L2.St → Hp → Prop, (∀ σ', Good K F σ' H ρ' δ → Mv (Mm F σ ρ) H (Mm F σ' ρ') H → Set1 sl σ σ' ρ ρ' → Q σ' H) → g v σ H Q)
    (ht : SndT K tt mt) (he : Snd K te me) (hs : ∀ i ∈ sl, i ∈ vs) : Snd K (fun σ H Q => tLockE (tLc (iItems (tVar r)) g tt te vs) σ H Q ∨ tLc (iItems (tVar r)) g tt te vs σ H Q) (mLcItems r vs mg mt me) := fun F σ H ρ δ d δ' G e Q q => by
  unfold mLcItems at e
  split at e
  · rename_i es hr
    split at e
    · rename_i hu
      obtain ⟨⟨out, δ2⟩, e2, e⟩ := Option.bind_eq_some_iff.mp e
      dsimp only at e
      split at e
      · rename_i hz
        obtain ⟨rfl, rfl⟩ : PyData.list out = d ∧ δ2 = δ' := by
          have := Option.some.inj e
          exact ⟨congrArg Prod.fst this, congrArg Prod.snd this⟩
        obtain ⟨v, hv, R⟩ := G.val r _ hr
        cases R with
        | @dic A kvs _ n hA rk =>
          rcases hA with hA | ⟨o, hA⟩
          · refine .inl ⟨A, .dK kvs, hA, trivial, fun od => ?_⟩
            have GL : Good K (F.lock A) σ (upd H A (.frz od (.dK kvs))) ρ δ := G.lock n hA
            refine ⟨_, hv, A, od, kvs, rfl, upd_same, ?_⟩
            refine lc_in (Q := fun w H' => H' A = some (.frz od (.dK kvs)) ∧ Q w (upd H' A (.dK kvs))) hg ht he hs hu e2 hz GL (walk_items (by rw [Mm_lock]; exact n) upd_same (rk.lock hA)) fun w H' G' M' R' => ?_
            rw [Mm_lock] at M' R'
            have hA' : H' A = some (.frz od (.dK kvs)) := (M' A _ upd_same n).1
            refine ⟨hA', q w _ (G.unlock hA G' hA' fun _ _ h => h) (fun a o' e' n' => ?_) (R'.unlock hA')⟩
            by_cases haz : a = A
            · subst haz
              rw [hA] at e'; cases e'
              exact ⟨upd_same, n'⟩
            · rw [upd_ne haz]
              exact ⟨(M' a o' (by rw [upd_ne haz]; exact e') n').1, n'⟩
          · exact .inr ⟨_, hv, A, o, kvs, rfl, hA, lc_in hg ht he hs hu e2 hz G (walk_items n hA rk) q⟩
      · cases e
    · cases e
  · cases e
section
variable {X : Cx} {elt : Expr} {elts : List Expr} {kk : Nat} {tpos apos cpos p0 pos : Pos} {ifs : List Expr} {scope : Scope} {own : List (Str × Nat)} {mg : MG} {mt : MT} {me : ME} {sl : List Nat} {x : Str}
theorem pd_lcItems (r : Nat) (hc : X.calm = true) (hN : X.N.Nodup) (ok : BlkOk X.N X.env.scope scope own) (B : Blk X scope own (.Tuple elts kk tpos) ifs elt sl mg mt me) (hNr : X.N[r]? = some x := by rfl) (hv : Vis X.env.scope x := by first | exact Or.inl rfl | exact Or.inr (Or.inl rfl) | exact Or.inr (Or.inr rfl)) (hd : (x == ("__debug__" : Str)) = false := by decide)
    (hcd : (x == ("__classdict__" : Str)) = false := by decide) (hbase : attributeBase (.Name x p0) "items" X.env (eval (.Name x p0) X.env) = eval (.Name x p0) X.env := by rfl) (hline : (apos.endLine == cpos.line) = true := by rfl) (hs : ∀ y, foldedSetIterable (.Call (.Attribute (.Name x p0) "items" apos) [] [] cpos) X.env y = pure y := by intro _; rfl) :
    PD X (.ListComp elt [⟨.Tuple elts kk tpos, .Call (.Attribute (.Name x p0) "items" apos) [] [] cpos, ifs, 0⟩] scope pos) (mLcItems r (own.map (·.2)) mg mt me) := by
  obtain ⟨g, tt, te, p1, p2, p3, s2, s3, s4⟩ := B.all
  have P := pe_lc (pos := pos) hc hN (pi_items (pe_var hNr hv hd hcd) hbase hline) ok p1 p2 p3 hs
  have PL := pe_lock P
  exact ⟨_, ⟨fun pins s σ H Q I h => h.elim (fun h => PL.run pins s σ H Q I h) (fun h => P.run pins s σ H Q I h)⟩, snd_lcItems s2 s3 s4 B.o⟩
end
end PD

namespace PD
open PySem PySem.Spec PyProof.Rows L2
/-! ### comprehensions of any number of fors -/
section
variable {P : Program} {ω : World} {A : Around} {R : Result → Shared → Prop} {s : Shared} {el : Expr} {gs : List Comprehension} {sc : Scope} {ps : Pos} {k : Nat} {t0 i0 t1 i1 : Expr} {ff0 ff1 : List Expr} {it acc : Value} {ε : Env}
abbrev tests (fs : List Expr) (ε : Env) : Sem Bool := forIn fs true fun c r => if r = true then do let ok ← isTrue c ε (eval c ε); pure (ForInStep.yield ok) else pure (ForInStep.yield r)
theorem loopN_out (h0 : gs[k]? = some ⟨t0, i0, ff0, 0⟩) (h1 : gs[k + 1]? = some ⟨t1, i1, ff1, 0⟩) (hs : ∀ x, foldedSetIterable i1 ε x = pure x) (I : Nat → Shared → Prop)
    (turn : ∀ n s, I n s → wpAny (model P ω) A (pyNext it) (fun r s₁ => match r with
      | none => R (.ok .next) s₁
      | some v => wpAny (model P ω) A (letOwnedTupleGo t0 it v) (fun _ s₁' => wpAny (model P ω) A (assign t0 ε v) (fun _ s₂ =>
          wpAny (model P ω) A (tests ff0 ε) (fun ok s₃ =>
            if ok = true then wpAny (model P ω) A (eval i1 ε) (fun x s₄ => wpAny (model P ω) A (pyIter x) (fun it1 s₅ =>
              codeAny (model P ω) A (.compStart (.ListComp el gs sc ps) (k + 1) it1 acc ε) (fun r s' => match r with
                | .ok _ => ∃ m, m < n ∧ I m s'
                | .error _ => False) s₅) (fun _ _ => False) s₄) (fun _ _ => False) s₃
            else ∃ m, m < n ∧ I m s₃) (fun _ _ => False) s₂) (fun _ _ => False) s₁') (fun _ _ => False) s₁) (fun _ _ => False) s)
    (n : Nat) (h : I n s) : codeAny (model P ω) A (.compLoop (.ListComp el gs sc ps) k it acc ε) R s := by
  refine codeAny_loop rfl I (fun nn sh hIn => ?_) n h
  show wpAny _ A ((compTurn (.ListComp el gs sc ps) k it acc ε).onRaise (fun x => do noteFrame x ε; theTreesLotGoes x)) _ _ sh
  refine wpAny_noted ?_
  unfold compTurn
  simp only [h0, h1]
  refine wpAny_bind (wpAny_standAt (wpAny_bind (thnF (turn nn sh hIn) fun r s₁ z₁ => ?_)))
  cases r with
  | none => exact wpAny_pure z₁
  | some v =>
    refine wpAny_bind (thnF z₁ fun _ s₁' z₁' => ?_)
    refine wpAny_bind (thnF z₁' fun _ s₂ z₂ => wpAny_bind (thnF z₂ fun ok s₃ z₃ => ?_))
    cases ok with
    | false => exact wpAny_pure ⟨rfl, z₃⟩
    | true =>
      refine wpAny_bind (thnF z₃ fun x s₄ z₄ => ?_)
      refine wpAny_bind (wpAny_standAt (wpAny_bind (wpAny_of_eq (hs x) (wpAny_bind (wpAny_holding (thnF z₄ fun it1 s₅ z₅ => ?_))))))
      refine wpAny_bind (wpAny_runOwn ?_)
      rw [Around.mark_none]
      refine codeAny_mono z₅ fun r s' hrr => ?_
      cases r with
      | ok f =>
        first
          | exact wpAny_pure ⟨rfl, hrr⟩
          | exact wpAny_bind (wpAny_pure (wpAny_pure ⟨rfl, hrr⟩))
      | error e => exact hrr.elim
theorem loopN_in (h0 : gs[k]? = some ⟨t0, i0, ff0, 0⟩) (h1 : gs[k + 1]? = none) (I : Nat → Shared → Prop)
    (turn : ∀ n s, I n s → wpAny (model P ω) A (pyNext it) (fun r s₁ => match r with
      | none => R (.ok .next) s₁
      | some v => wpAny (model P ω) A (letOwnedTupleGo t0 it v) (fun _ s₁' => wpAny (model P ω) A (assign t0 ε v) (fun _ s₂ =>
          wpAny (model P ω) A (tests ff0 ε) (fun ok s₃ =>
            if ok = true then wpAny (model P ω) A (eval el ε) (fun x s₄ =>
              wpAny (model P ω) A (call (.builtin "list.append") [acc, x]) (fun _ s₅ => ∃ m, m < n ∧ I m s₅) (fun _ _ => False) s₄) (fun _ _ => False) s₃
            else ∃ m, m < n ∧ I m s₃) (fun _ _ => False) s₂) (fun _ _ => False) s₁') (fun _ _ => False) s₁) (fun _ _ => False) s)
    (n : Nat) (h : I n s) : codeAny (model P ω) A (.compLoop (.ListComp el gs sc ps) k it acc ε) R s := by
  refine codeAny_loop rfl I (fun nn sh hIn => ?_) n h
  show wpAny _ A ((compTurn (.ListComp el gs sc ps) k it acc ε).onRaise (fun x => do noteFrame x ε; theTreesLotGoes x)) _ _ sh
  refine wpAny_noted ?_
  unfold compTurn
  simp only [h0, h1]
  refine wpAny_bind (wpAny_standAt (wpAny_bind (thnF (turn nn sh hIn) fun r s₁ z₁ => ?_)))
  cases r with
  | none => exact wpAny_pure z₁
  | some v =>
    refine wpAny_bind (thnF z₁ fun _ s₁' z₁' => ?_)
    refine wpAny_bind (thnF z₁' fun _ s₂ z₂ => wpAny_bind (thnF z₂ fun ok s₃ z₃ => ?_))
    cases ok with
    | false => exact wpAny_pure ⟨rfl, z₃⟩
    | true => exact wpAny_bind (wpAny_bind (thnF z₃ fun x s₄ z₄ => wpAny_bind (thnF z₄ fun _ s₅ z₅ => wpAny_pure (wpAny_pure ⟨rfl, z₅⟩))))
theorem startN (h0 : gs[k]? = some ⟨t0, i0, ff0, 0⟩) (hl : codeAny (model P ω) A (.compLoop (.ListComp el gs sc ps) k it acc ε) R s)
    (hi : wpAny (model P ω) A (pyIter it) (fun j s' => codeAny (model P ω) A (.compLoop (.ListComp el gs sc ps) k j acc ε) R s') (fun _ _ => False) s) :
    codeAny (model P ω) A (.compStart (.ListComp el gs sc ps) k it acc ε) R s := by
  refine codeAny_of_tree ?_
  show wpAny _ _ ((compStart (.ListComp el gs sc ps) k it acc ε).onRaise (fun x => do noteFrame x ε; standAt theWindowsPlace)) _ _ s
  refine wpAny_notedAt ?_
  unfold compStart
  have hc : (clausesOf (.ListComp el gs sc ps))[k]? = some ⟨t0, i0, ff0, 0⟩ := h0
  simp only [hc]
  show wpAny _ _ (ask >>= _) _ _ s
  refine wpAny_bind (wpAny_askSetting (wpAny_ite ?_))
  split
  · first
      | exact wpAny_bind (wpAny_pure (wpAny_pure ⟨rfl, hl⟩))
      | exact wpAny_pure ⟨rfl, hl⟩
  · refine wpAny_bind (wpAny_rule ?_)
    exact wpAny_bind (wpAny_standAt (wpAny_bind (thnF hi fun j s' z => wpAny_pure ⟨rfl, z⟩)))
end

structure Cl where
  wi : TI
  g : TG
  tt : TT
  vs : List Nat
def tLoop (rest : L2.St → Hp → (Hp → Prop) → Prop) (J : It) (g : TG) (tt : TT) (vs : List Nat) (σ : L2.St) (H : Hp) (Nx : Hp → Prop) : Prop :=
  ∃ W : Nat → Nat → Hp → Prop, (∃ m, W 0 m H) ∧ ∀ i m H, W i m H → (J.stop i H ∧ Nx H) ∨ (J.go i H ∧ ∃ Ny : Hp → Prop, (∀ H', Ny H' → ∃ m', m' < m ∧ W (i + 1) m' H') ∧
    ∀ x H', J.yld i H x H' → g x (L2.wipe σ vs) H' fun τ Hh2 => L2.wipe τ vs = L2.wipe σ vs ∧ tt τ Hh2 fun b Hh3 => if b = true then rest τ Hh3 Ny else Ny Hh3)
def tIn (D : Addr) (te : TE) : List Cl → L2.St → Hp → (Hp → Prop) → Prop
  | [], σ, H, Nx => te σ H fun y Hh4 => ∃ l, Hh4 D = some (.lst l) ∧ l.length < sizeLine ∧ Nx (upd Hh4 D (.lst (l ++ [y])))
  | c :: cs, σ, H, Nx => c.wi σ H fun J Hh4 => tLoop (tIn D te cs) J c.g c.tt c.vs σ Hh4 Nx
def tLcN (wi : TI) (g : TG) (tt : TT) (vs : List Nat) (cs : List Cl) (te : TE) : TE := fun σ H Q => wi σ H fun J Hh1 => ∀ D, Hh1 D = none → tLoop (tIn D te cs) J g tt vs σ (upd Hh1 D (.lst [])) (Q (.ref D))
inductive ClsOk (X : Cx) : List Nat → List Comprehension → List Cl → Prop
  | nil {vs} : ClsOk X vs [] []
  | cons {vs tg iter ifs gl c cs} : (∀ i ∈ c.vs, i ∈ vs) → PI X tg iter c.wi → PG X tg c.g → PTs X ifs c.tt → (∀ x, foldedSetIterable iter X.env x = pure x) → ClsOk X c.vs gl cs → ClsOk X vs (⟨tg, iter, ifs, 0⟩ :: gl) (c :: cs)
theorem drop_at {α : Type} {gs gl : List α} {k : Nat} {a : α} (h : gs.drop k = a :: gl) : gs[k]? = some a ∧ gs.drop (k + 1) = gl := by
  constructor
  · have := congrArg List.head? h
    rwa [List.head?_drop] at this
  · have := congrArg List.tail h
    rwa [List.tail_drop] at this
theorem drop_nil {α : Type} {gs : List α} {k : Nat} (h : gs.drop k = []) : gs[k]? = none := by
  have := congrArg List.head? h
  rwa [List.head?_drop] at this
section
variable {X : Cx} {el : Expr} {gs : List Comprehension} {sc : Scope} {ps : Pos} {D : Addr} {te : TE}
theorem loop_ok (hc : X.calm = true) (hx : X.xe = fun _ _ => False) (pe : PE X el te) : ∀ (cs : List Cl) (k : Nat) (gl : List Comprehension) (tg iter : Expr) (ifs : List Expr) (g : TG) (tt : TT) (vs : List Nat), gs.drop k = ⟨tg, iter, ifs, 0⟩ :: gl → ClsOk X vs gl cs → PG X tg g → PTs X ifs tt →
    ∀ (pins : List (Addr × Obj)) (J : It) (fp : List Addr) (it : Addr) (tn : Nat → Heap → Prop), Turn X.prog X.w X.K tg J fp it tn → ∀ (s : Shared) (σ : L2.St) (H : Hp) (Nx : Hp → Prop) (R : Result → Shared → Prop), Inv X pins σ H s → tn 0 s.heap → (∀ b ∈ fp, FpOk X pins H b) →
    tLoop (tIn D te cs) J g tt vs σ H Nx → (∀ s' H', Inv X pins (L2.wipe σ vs) H' s' → Nx H' → R (.ok .next) s') → codeAny (model X.prog X.w) X.A (.compLoop (.ListComp el gs sc ps) k (.ref it) (.ref D) X.env) R s := by
  intro cs
  induction cs with
  | nil => ?_
  | cons c cs ih => ?_
  all_goals
    intro k gl tg iter ifs g tt vs hd hcl pg pt pins J fp it tn T s σ H Nx R Iv0 stt0 hf h hR
    obtain ⟨hk, hd1⟩ := drop_at hd
    obtain ⟨W, ⟨m0, ww0⟩, turn⟩ := h
    have stat : ∀ {H' : Hp}, (∀ b ∈ fp, H' b = none) → ∀ b ∈ fp, FpOk X pins H' b := fun hNs b hb => ⟨hNs b hb, (hf b hb).2⟩
    have fin : ∀ (n i : Nat) (sh7 : Shared) (Ny : Hp → Prop), (∀ H', Ny H' → ∃ m', m' < n ∧ W (i + 1) m' H') → tn (i + 1) sh7.heap → ∀ {τ : L2.St} {s' : Shared} {H' : Hp}, Inv X (pins ++ pinsAt fp sh7.heap) τ H' s' → (L2.wipe σ vs).length = τ.length → (∀ (j : Nat) v, (L2.wipe σ vs)[j]? = some (some v) → τ[j]? = some (some v)) → Ny H' →
        ∃ m, m < n ∧ ∃ i H', Inv X pins (L2.wipe σ vs) H' s' ∧ tn i s'.heap ∧ (∀ b ∈ fp, H' b = none) ∧ W i m H' := fun n i sh7 Ny hNy stt7 {τ s' H'} I' hl hkn ny => by
      obtain ⟨m', hm, w'⟩ := hNy H' ny
      have pinAt : ∀ b ∈ fp, ∀ o, sh7.heap.get? b = some o → s'.heap.get? b = some o ∧ H' b = none := fun b hb o e =>
        have z := I'.pin (b, o) (List.mem_append_right _ (List.mem_append_right _ (mem_pinsAt hb e)))
        ⟨z.1, z.2.1⟩
      refine ⟨m', hm, i + 1, H', (I'.unpinned).weak hl hkn, T.keep _ _ _ stt7 fun b hb o e => (pinAt b hb o e).1, fun b hb => ?_, w'⟩
      obtain ⟨o, e, _⟩ := T.obj _ _ stt7 b hb
      exact (pinAt b hb o e).2
    have Iv1 : Inv X pins (L2.wipe σ vs) H s := Iv0.weak (L2.wipe_length _ _) fun j v e => (L2.wipe_some e).1
  · cases hcl
    refine loopN_in hk (drop_nil hd1) (fun n s' => ∃ i H', Inv X pins (L2.wipe σ vs) H' s' ∧ tn i s'.heap ∧ (∀ b ∈ fp, H' b = none) ∧ W i n H') ?_ m0 ⟨0, H, Iv1, stt0, fun b hb => (hf b hb).1, ww0⟩
    rintro n sh5 ⟨i, Hh5, Iv5, stt5, nn5, ww5⟩
    rcases turn i n Hh5 ww5 with ⟨stop, nx⟩ | ⟨go, Ny, hNy, step⟩
    · refine thnF (T.done X rfl rfl rfl hc i pins sh5 _ Hh5 (fun _ _ => False) Iv5 (stat nn5) stt5 stop) fun r sh6 ⟨hrr, Iv6⟩ => ?_
      subst hrr
      exact hR sh6 Hh5 Iv6 nx
    · refine thnF (T.item X rfl rfl rfl hc i pins sh5 _ Hh5 (fun _ _ => False) Iv5 (stat nn5) stt5 go) fun r sh6 ⟨u, hrr, hh6⟩ => ?_
      subst hrr
      refine thnF hh6 fun _ sh7 ⟨x, Hh7, Iv7, r7, y7, stt7, nn7⟩ => ?_
      have p1 := pg.run _ sh7 _ Hh7 x u _ (Iv7.pinned (stat nn7) (T.obj _ _ stt7)) r7 (step x Hh7 y7)
      rw [hx] at p1
      refine thnF p1 fun _ sh8 ⟨τ, Hh8, Iv8, hw8, qq8⟩ => ?_
      have p2 := pt.run _ sh8 τ Hh8 _ Iv8 qq8
      rw [hx] at p2
      refine thnF p2 fun b sh9 ⟨Hh9, Iv9, qq9⟩ => ?_
      have hl8 : (L2.wipe σ vs).length = τ.length := by rw [← hw8, L2.wipe_length]
      have hk8 : ∀ (j : Nat) v, (L2.wipe σ vs)[j]? = some (some v) → τ[j]? = some (some v) := fun j v e => by
        rw [← hw8] at e
        exact (L2.wipe_some e).1
      cases b with
      | false =>
        simp only [Bool.false_eq_true, if_false] at qq9 ⊢
        exact fin n i sh7 Ny hNy stt7 Iv9 hl8 hk8 qq9
      | true =>
        simp only [if_true] at qq9 ⊢
        have p3 := pe.run _ sh9 τ Hh9 _ Iv9 qq9
        rw [hx] at p3
        refine thnF p3 fun z sh17 ⟨yv, Hh17, Iv17, r17, l, hD17, hz17, ny⟩ => ?_
        exact app_ok Iv17 hD17 hz17 r17 fun sh18 Iv18 => fin n i sh7 Ny hNy stt7 Iv18 hl8 hk8 ny
  · cases hcl with
    | @cons _ tg1 iter1 ifs1 gl1 _ _ hv pi1 pg1 pt1 hs1 hcl1 =>
      refine loopN_out hk (drop_at hd1).1 hs1 (fun n s' => ∃ i H', Inv X pins (L2.wipe σ vs) H' s' ∧ tn i s'.heap ∧ (∀ b ∈ fp, H' b = none) ∧ W i n H') ?_ m0 ⟨0, H, Iv1, stt0, fun b hb => (hf b hb).1, ww0⟩
      rintro n sh5 ⟨i, Hh5, Iv5, stt5, nn5, ww5⟩
      rcases turn i n Hh5 ww5 with ⟨stop, nx⟩ | ⟨go, Ny, hNy, step⟩
      · refine thnF (T.done X rfl rfl rfl hc i pins sh5 _ Hh5 (fun _ _ => False) Iv5 (stat nn5) stt5 stop) fun r sh6 ⟨hrr, Iv6⟩ => ?_
        subst hrr
        exact hR sh6 Hh5 Iv6 nx
      · refine thnF (T.item X rfl rfl rfl hc i pins sh5 _ Hh5 (fun _ _ => False) Iv5 (stat nn5) stt5 go) fun r sh6 ⟨u, hrr, hh6⟩ => ?_
        subst hrr
        refine thnF hh6 fun _ sh7 ⟨x, Hh7, Iv7, r7, y7, stt7, nn7⟩ => ?_
        have p1 := pg.run _ sh7 _ Hh7 x u _ (Iv7.pinned (stat nn7) (T.obj _ _ stt7)) r7 (step x Hh7 y7)
        rw [hx] at p1
        refine thnF p1 fun _ sh8 ⟨τ, Hh8, Iv8, hw8, qq8⟩ => ?_
        have p2 := pt.run _ sh8 τ Hh8 _ Iv8 qq8
        rw [hx] at p2
        refine thnF p2 fun b sh9 ⟨Hh9, Iv9, qq9⟩ => ?_
        have hl8 : (L2.wipe σ vs).length = τ.length := by rw [← hw8, L2.wipe_length]
        have hk8 : ∀ (j : Nat) v, (L2.wipe σ vs)[j]? = some (some v) → τ[j]? = some (some v) := fun j v e => by
          rw [← hw8] at e
          exact (L2.wipe_some e).1
        cases b with
        | false =>
          simp only [Bool.false_eq_true, if_false] at qq9 ⊢
          exact fin n i sh7 Ny hNy stt7 Iv9 hl8 hk8 qq9
        | true =>
          simp only [if_true] at qq9 ⊢
          have p3 := pi1.run _ sh9 τ Hh9 _ Iv9 qq9
          rw [hx] at p3
          refine thnF p3 fun xv sh10 hxv => thnF hxv fun itv sh11 h11 => ?_
          obtain ⟨it1, fp1, tn1, J1, Hh11, e1, Iv11, T1, stt11, f11, lp⟩ := h11
          subst e1
          have loop1 := ih (k + 1) gl1 tg1 iter1 ifs1 c.g c.tt c.vs hd1 hcl1 pg1 pt1 (pins ++ pinsAt fp sh7.heap) J1 fp1 it1 tn1 T1 sh11 τ Hh11 Ny
            (fun r s' => match r with
              | .ok _ => ∃ m, m < n ∧ ∃ i H', Inv X pins (L2.wipe σ vs) H' s' ∧ tn i s'.heap ∧ (∀ b ∈ fp, H' b = none) ∧ W i m H'
              | .error _ => False) Iv11 stt11 f11 lp fun s' H' I' ny => fin n i sh7 Ny hNy stt7 I' (hl8.trans (L2.wipe_length τ c.vs).symm) (fun j v e => by
                rw [← hw8] at e
                obtain ⟨e1, e2⟩ := L2.wipe_some e
                rw [L2.wipe_out fun z => e2 (hv j z)]
                exact e1) ny
          exact startN (drop_at hd1).1 loop1 (T1.self X.A 0 _ _ _ stt11 loop1)
end
section
variable {X : Cx} {el tg iter : Expr} {ifs : List Expr} {gl : List Comprehension} {sc : Scope} {own : List (Str × Nat)} {ps : Pos} {wi : TI} {g : TG} {tt : TT} {te : TE} {cs : List Cl}
abbrev AllBlk (X : Cx) (sc : Scope) (p : Cx → Prop) : Prop := ∀ (s : Shared) (H : Hp) (C : Addr) (cl : List (Str × Addr)) (fp : List Addr), p (X.blk s H sc (compEnvC sc cl C X.env) fp)
theorem lcN_core {pins : List (Addr × Obj)} {s : Shared} {σ : L2.St} {H : Hp} {Q : VK} {ps' : Pos} {use : Option (Value → Sem Unit)} {Qf : Value → Shared → Prop} (hc : X.calm = true) (hN : X.N.Nodup) (I : Inv X pins σ H s) (hi : PI X tg iter wi) (ok : BlkOk X.N X.env.scope sc own)
    (hg : AllBlk X sc fun Y => PG Y tg g) (ht : AllBlk X sc fun Y => PTs Y ifs tt) (he : AllBlk X sc fun Y => PE Y el te) (hcl : AllBlk X sc fun Y => ClsOk Y (own.map (·.2)) gl cs) (hs : ∀ x, foldedSetIterable iter X.env x = pure x)
    (h : tLcN wi g tt (own.map (·.2)) cs te σ H Q)
    (hEnd : ∀ D C s' m H', Inv X pins σ H' s' → Q (.ref D) H' → s'.heap.Ns C m → FpOk X pins H' C → compPost (model X.prog X.w) X.A X.xe use Qf (.ref D) C (.ok .next) s') :
    wpAny (model X.prog X.w) X.A (comprehension (.ListComp el (⟨tg, iter, ifs, 0⟩ :: gl) sc ps) sc X.env ps' (newList []) false (eval iter X.env) use) Qf X.xe s := by
  have hfree : ∀ y ∈ sc.names, y.2 = .free → ∃ c, X.env.cells.lookup y.1 = some c := fun y hy e =>
    (ok.free y hy e).elim (fun k => I.ok.has _ (.inl k)) (fun k => I.ok.has _ (.inr k))
  refine wpAny_comprehension_free (use := use) rfl hs (closure_ok hfree) ok.kind (fun y hy e => by rw [ok.uniq y hy, e]) (thn (hi.run pins s σ H _ I h) fun xv sh1 hxx => thn hxx fun itv sh2 h2 => ?_)
  obtain ⟨it, fp, tn, J, Hh2, e, Iv2, T, stt2, ff2, q⟩ := h2
  subst e
  refine wpAny_newObj_type (newEnv_comp ?_) (by show 0 ≤ sizeLine; decide)
  generalize eqD : sh2.heap.objs.size = D
  have eqDn : Hh2 D = none := Iv2.hok.fresh (Nat.le_of_eq eqD)
  have lp := q D eqDn
  generalize hs3 : ({ sh2 with heap := sh2.heap.push { cls := .type "list", data := .seq ([] : List Value).toArray } } : Shared) = sh3
  have h3 : sh3.heap = sh2.heap.push { cls := .type "list", data := .seq ([] : List Value).toArray } := by subst hs3; rfl
  have Iv3 : Inv X pins σ (upd Hh2 D (.lst [])) sh3 := by
    subst hs3
    refine Iv2.laid (t' := sh2.toks) (fun b o e => Heap.get?_push_of_some _ e) (Nat.le_of_eq eqD) ⟨Nat.zero_le _, [], 0, .nil, ?_⟩
    subst eqD
    exact Heap.get?_push_size _ rfl
  have sz : ∀ b ∈ fp, b < sh2.heap.objs.size := fun b hb => (T.obj _ _ stt2 b hb).elim fun o e => Heap.lt_size e.1
  have ff3 : ∀ b ∈ fp, FpOk X pins (upd Hh2 D (.lst [])) b ∧ b < sh3.heap.objs.size := fun b hb =>
    ⟨⟨by rw [upd_ne (by rw [← eqD]; exact Nat.ne_of_lt (sz b hb))]; exact (ff2 b hb).1, (ff2 b hb).2⟩, by rw [h3, Heap.size_push]; exact Nat.lt_succ_of_lt (sz b hb)⟩
  have stt3 : tn 0 sh3.heap := T.keep _ _ _ stt2 fun b _ o e => by rw [h3]; exact Heap.get?_push_of_some _ e
  have Iv4 := block_start Iv3 ok hN ff3
  have pg := hg sh3 (upd Hh2 D (.lst [])) sh3.heap.objs.size (cellsFrom (sh3.heap.objs.size + 1) sc.names (cloFrom X.env.cells sc.names [])) fp
  have pt := ht sh3 (upd Hh2 D (.lst [])) sh3.heap.objs.size (cellsFrom (sh3.heap.objs.size + 1) sc.names (cloFrom X.env.cells sc.names [])) fp
  have pe := he sh3 (upd Hh2 D (.lst [])) sh3.heap.objs.size (cellsFrom (sh3.heap.objs.size + 1) sc.names (cloFrom X.env.cells sc.names [])) fp
  have pc := hcl sh3 (upd Hh2 D (.lst [])) sh3.heap.objs.size (cellsFrom (sh3.heap.objs.size + 1) sc.names (cloFrom X.env.cells sc.names [])) fp
  show codeAny _ _ (.compStart (.ListComp el (⟨tg, iter, ifs, 0⟩ :: gl) sc ps) 0 (.ref it) (.ref D) (compEnvC sc (cellsFrom (sh3.heap.objs.size + 1) sc.names (cloFrom X.env.cells sc.names [])) sh3.heap.objs.size X.env)) (compPost (model X.prog X.w) X.A X.xe use Qf (.ref D) sh3.heap.objs.size) { sh3 with heap := pushCells (sh3.heap.push { cls := .type "dict", data := .dict #[] }) sc.names }
  have noFp : ∀ b ∈ fp, (upd Hh2 D (.lst [])) b = none := fun b hb => (ff3 b hb).1.1
  generalize hce : compEnvC sc (cellsFrom (sh3.heap.objs.size + 1) sc.names (cloFrom X.env.cells sc.names [])) sh3.heap.objs.size X.env = ce at Iv4 pg pt pe pc ⊢
  have locC : ce.locals = sh3.heap.objs.size := by subst hce; rfl
  generalize hH3 : upd Hh2 D (.lst []) = Hh3 at Iv3 Iv4 pg pt pe pc lp noFp ff3
  generalize hs4 : ({ sh3 with heap := pushCells (sh3.heap.push { cls := .type "dict", data := .dict #[] }) sc.names } : Shared) = sh4 at Iv4 ⊢
  have stt4 : tn 0 sh4.heap := T.keep _ _ _ stt3 fun b _ o e => by subst hs4; exact pushCells_keeps _ _ _ _ (Heap.get?_push_of_some _ e)
  have stat : ∀ b ∈ fp, FpOk (X.blk sh3 Hh3 sc ce fp) [] Hh3 b := fun b hb =>
    ⟨noFp b hb, (Iv4.ok.exf b hb).1, Iv4.ok.exfs b hb, .inl hb, fun x c e => (Iv4.ok.exf b hb).2 x c e, fun p hp => absurd (show p ∈ ([] : List (Addr × Obj)) ++ [] from hp) (by simp)⟩
  have lp' : tLoop (tIn D te cs) J g tt (own.map (·.2)) (L2.wipe σ (own.map (·.2))) Hh3 (Q (.ref D)) := by
    unfold tLoop
    rw [wipe_wipe]
    exact lp
  have loop : codeAny (model X.prog X.w) X.A (.compLoop (.ListComp el (⟨tg, iter, ifs, 0⟩ :: gl) sc ps) 0 (.ref it) (.ref D) ce) (compPost (model X.prog X.w) X.A X.xe use Qf (.ref D) sh3.heap.objs.size) sh4 := by
    refine loop_ok (X := X.blk sh3 Hh3 sc ce fp) hc rfl pe cs 0 gl tg iter ifs g tt _ rfl pc pg pt [] J fp it tn T sh4 _ Hh3 _ _ Iv4 stt4 stat lp' fun sh6 Hh5 Iv6 qq => ?_
    have Iv7 : Inv X pins σ Hh5 sh6 := Iv3.call' (ch := fp) Iv6.os Iv6.base Iv6.hok Iv6.bare fun b hb => ⟨(ff3 b hb).1.2.2.2.1, (ff3 b hb).1.2.1, (ff3 b hb).1.2.2.2.2.1, (ff3 b hb).1.2.2.2.2.2⟩
    have nC : Hh5 sh3.heap.objs.size = none := by rw [← locC]; exact Iv6.free
    obtain ⟨m, hNs, _⟩ := Iv6.loc
    have hNs : sh6.heap.Ns ce.locals m := hNs
    rw [locC] at hNs
    exact hEnd D sh3.heap.objs.size sh6 m Hh5 Iv7 qq hNs (Iv3.fpOk (Nat.le_refl _) nC)
  exact codeAny_compStart_list loop (T.self X.A 0 _ _ _ stt4 loop)
theorem pe_lcN (hc : X.calm = true) (hN : X.N.Nodup) (hi : PI X tg iter wi) (ok : BlkOk X.N X.env.scope sc own) (hg : AllBlk X sc fun Y => PG Y tg g) (ht : AllBlk X sc fun Y => PTs Y ifs tt) (he : AllBlk X sc fun Y => PE Y el te) (hcl : AllBlk X sc fun Y => ClsOk Y (own.map (·.2)) gl cs) (hs : ∀ x, foldedSetIterable iter X.env x = pure x := by intro _; rfl) :
    PE X (.ListComp el (⟨tg, iter, ifs, 0⟩ :: gl) sc ps) (tLcN wi g tt (own.map (·.2)) cs te) := by
  refine ⟨fun pins s σ H Q I h => ?_⟩
  rw [eval_ListComp]
  refine lcN_core hc hN I hi ok hg ht he hcl hs h fun D C s' m H' I' q hNs f => ⟨m, hNs, fun h'' sb => ?_⟩
  obtain ⟨ff0, ff1, ff2, ff3, ff4, ff5⟩ := f
  exact ⟨.ref D, H', I'.turned (t' := s'.toks) (fun b o hb e => (sb.2 b hb).trans e) ff0 ff1 ff3 ff4 ff5, rfl, q⟩
end
end PD

namespace PD
open PySem PySem.Spec PyProof.Rows L2
theorem Walks.mv {K M H M' H' J ds} (w : Walks K M H J ds) (h : Mv M H M' H') : Walks K M' H' J ds := fun M2 H2 g => w M2 H2 (h.trans g)
theorem Good.unwipe {K F σ H H1 ρ δ δ1 vs} (G1 : Good K F σ H1 ρ δ1) (hu : noU ρ vs = true) (G : Good K F (L2.wipe σ vs) H (wipeR ρ vs) δ) (mv : Mv (Mm F σ ρ) H1 (Mm F σ ρ) H) : Good K F σ H ρ δ := by
  refine ⟨G1.len, fun i d e => ?_, fun i ds e => ?_, G1.inj, G.m0, G1.dsl, fun p e => ?_, G.fr⟩
  · obtain ⟨v, e1, r⟩ := G1.val i d e
    exact ⟨v, e1, r.mv mv⟩
  · have hi : i ∉ vs := fun q => noU_of hu q e
    obtain ⟨a, xs, e1, e2, r, n⟩ := G.own i ds (by rw [wipeR_get, if_neg hi]; exact e)
    rw [wipe_get, if_neg hi] at e1
    rw [Mm_wipe hu] at r
    exact ⟨a, xs, e1, e2, r, n⟩
  · obtain ⟨_, _, _, d3⟩ := G.dck p e
    obtain ⟨d1, d2, d4, _⟩ := G1.dck p e
    exact ⟨d1, d2, d4, d3⟩
abbrev MR := List Sl → Dk → Option (List D × Dk)
/-- D: the list that grows; it is of the frame's own that change -/
structure Grows (F : Fr) (D : Addr) : Prop where
  m : F.M0 D
  z : F.H0 D = none
  k : ∀ p, F.dk = some p → D ≠ p.1 ∧ D ≠ p.2 ∧ D ≠ p.3
def SndR (K : PySem.W.Frag) (A : Addr) (rest : L2.St → Hp → (Hp → Prop) → Prop) (mr : MR) : Prop :=
  ∀ F σ H ρ δ out δ' l (Nx : Hp → Prop), Good K F σ H ρ δ → Grows F A → H A = some (.lst l) → mr ρ δ = some (out, δ') → l.length + out.length ≤ sizeLine →
    (∀ H' xs, Good K F σ H' ρ δ' → Mv (Mm F σ ρ) H (Mm F σ ρ) H' → H' A = some (.lst (l ++ xs)) → Reps K (Mm F σ ρ) H' xs out → Nx H') → rest σ H Nx
def mOne (me : ME) : MR := fun ρ δ => (me ρ δ).map fun q => ([q.1], q.2)
def compC (g : MG) (tt : MT) (mr : MR) (ρ : List Sl) : List D → Dk → Option (List D × Dk)
  | [], δ => some ([], δ)
  | d :: ds, δ => (g d ρ).bind fun ρ2 => (tt ρ2 δ).bind fun p => if p.1 = true then (mr ρ2 p.2).bind fun q => (compC g tt mr ρ ds q.2).map fun r => (q.1 ++ r.1, r.2) else compC g tt mr ρ ds p.2
def mFor (mi : MA) (vs : List Nat) (g : MG) (tt : MT) (mr : MR) : MR := fun ρ δ => (mi ρ δ).bind fun p => if noU ρ vs = true then compC g tt mr (wipeR ρ vs) p.1 p.2 else none
def mLcN (mr : MR) : ME := fun ρ δ => (mr ρ δ).bind fun q => if q.1.length ≤ sizeLine then some (.list q.1, q.2) else none
abbrev SndG (K : PySem.W.Frag) (sl : List Nat) (g : TG) (mg : MG) : Prop := ∀ F σ H ρ δ v d ρ', Good K F σ H ρ δ → Rep K (Mm F σ ρ) H v d → mg d ρ = some ρ' → ∀ Q : L2.St → Hp → Prop, (∀ σ', Good K F σ' H ρ' δ → Mv (Mm F σ ρ) H (Mm F σ' ρ') H → Set1 sl σ σ' ρ ρ' → Q σ' H) → g v σ H Q
abbrev SndI (K : PySem.W.Frag) (wi : TI) (mi : MA) : Prop := ∀ F σ H ρ δ ds δ', Good K F σ H ρ δ → mi ρ δ = some (ds, δ') → ∀ R : It → Hp → Prop, (∀ J H', Good K F σ H' ρ δ' → Mv (Mm F σ ρ) H (Mm F σ ρ) H' → Walks K (Mm F σ ρ) H' J ds → R J H') → wi σ H R
theorem snd_one {K A te me} (he : Snd K te me) : SndR K A (tIn A te []) (mOne me) := fun F σ H ρ δ out δ' l Nx G gr hA e hz q => by
  obtain ⟨⟨y, δ1⟩, e1, e⟩ := Option.map_eq_some_iff.mp e
  cases e
  refine he (F.pin A (.lst l)) σ H ρ δ y δ1 (G.pin gr.m hA) e1 _ fun v H5 G5 M5 R5 => ?_
  rw [Mm_pin] at M5 R5
  have hA5 := G5.fr A _ upd_same gr.k
  obtain ⟨GC, MC⟩ := (Good.unpin gr.z gr.m G5).writeM (o := .lst (l ++ [v])) gr.m gr.k gr.z
  exact ⟨l, hA5, Nat.lt_of_succ_le (by simpa using hz), q _ [v] GC (M5.trans MC) upd_same ((Reps.cons R5 .nil).mv MC)⟩
theorem snd_loop {K A rest mr g tt mg mt vs} {sl : List Nat} (hr : SndR K A rest mr) (hg : SndG K sl g mg) (ht : SndT K tt mt) (hs : ∀ i ∈ sl, i ∈ vs) {F σ H1 ρ δ1 δ2 J l} {ds out : List D} {Nx : Hp → Prop} (hu : noU ρ vs = true)
    (e2 : compC mg mt mr (wipeR ρ vs) ds δ1 = some (out, δ2)) (G1 : Good K F σ H1 ρ δ1) (gr : Grows F A) (hA : H1 A = some (.lst l)) (hz : l.length + out.length ≤ sizeLine) (Wk : Walks K (Mm F σ ρ) H1 J ds)
    (q : ∀ H' xs, Good K F σ H' ρ δ2 → Mv (Mm F σ ρ) H1 (Mm F σ ρ) H' → H' A = some (.lst (l ++ xs)) → Reps K (Mm F σ ρ) H' xs out → Nx H') : tLoop rest J g tt vs σ H1 Nx := by
  have GW := G1.wipe (vs := vs) hu
  have eM : Mm F (L2.wipe σ vs) (wipeR ρ vs) = Mm F σ ρ := Mm_wipe hu
  refine ⟨fun i m H => m = ds.length - i ∧ i ≤ ds.length ∧ ∃ δ3 done more xs, Good K F (L2.wipe σ vs) H (wipeR ρ vs) δ3 ∧ Mv (Mm F σ ρ) H1 (Mm F σ ρ) H ∧ H A = some (.lst (l ++ xs)) ∧ Reps K (Mm F σ ρ) H xs done ∧
    compC mg mt mr (wipeR ρ vs) (ds.drop i) δ3 = some (more, δ2) ∧ done ++ more = out, ⟨_, rfl, Nat.zero_le _, δ1, [], out, [], GW, Mv.refl _ _, by rw [List.append_nil]; exact hA, .nil, e2, rfl⟩, ?_⟩
  rintro i m H2 ⟨rfl, hile, δ3, done, more, xs, G2, M2, hA2, rx, ec, eo⟩
  have wf2 : ∀ a, Mm F σ ρ a → H2 a ≠ none := by rw [← eM]; exact G2.mm
  by_cases hlt : i < ds.length
  · obtain ⟨go, yl⟩ := (Wk _ H2 M2 wf2 i).1 hlt
    rw [List.drop_eq_getElem_cons hlt] at ec
    refine .inr ⟨go, fun H' => ∃ δ3 done more xs, Good K F (L2.wipe σ vs) H' (wipeR ρ vs) δ3 ∧ Mv (Mm F σ ρ) H1 (Mm F σ ρ) H' ∧ H' A = some (.lst (l ++ xs)) ∧ Reps K (Mm F σ ρ) H' xs done ∧
      compC mg mt mr (wipeR ρ vs) (ds.drop (i + 1)) δ3 = some (more, δ2) ∧ done ++ more = out, fun H' h => ⟨ds.length - (i + 1), by omega, rfl, hlt, h⟩, fun x H3 hy => ?_⟩
    obtain ⟨kp, dx, edx, rdx⟩ := yl x H3 hy
    rw [List.getElem?_eq_getElem hlt] at edx
    cases edx
    replace G2 := G2.keep kp
    replace M2 := M2.trans (Mv.same kp)
    replace hA2 := kp _ _ hA2
    replace rx := rx.mv (Mv.same kp)
    unfold compC at ec
    obtain ⟨ρ2, b1, ec⟩ := Option.bind_eq_some_iff.mp ec
    obtain ⟨⟨b, δ4⟩, b2, ec⟩ := Option.bind_eq_some_iff.mp ec
    dsimp only at ec
    refine hg (F.pin A (.lst (l ++ xs))) (L2.wipe σ vs) H3 (wipeR ρ vs) δ3 x _ ρ2 (G2.pin gr.m hA2) (by rw [Mm_pin, eM]; exact rdx) b1 _ fun τ G3 M3 T3 => ?_
    obtain ⟨w1, w2⟩ := T3.wipes hs
    rw [wipe_wipe] at w1
    rw [wipeR_wipeR] at w2
    have hu2 : noU ρ2 vs = true := T3.noU (noU_wipe ρ vs)
    have eM2 : Mm F τ ρ2 = Mm F σ ρ := by rw [← Mm_wipe hu2, w1, w2, eM]
    refine ⟨w1, ht (F.pin A (.lst (l ++ xs))) τ H3 ρ2 δ3 b δ4 G3 b2 _ fun H4 G4 M4 => ?_⟩
    rw [Mm_pin, eM2] at M4
    have G5 := Good.unpin gr.z gr.m G4
    have hA4 := G4.fr A _ upd_same gr.k
    cases b with
    | false =>
      refine iteF ?_
      rw [if_neg Bool.false_ne_true] at ec
      have GB := G5.wipe hu2
      rw [w1, w2] at GB
      exact ⟨δ4, done, more, xs, GB, M2.trans M4, hA4, rx.mv M4, ec, eo⟩
    | true =>
      refine iteT ?_
      rw [if_pos rfl] at ec
      obtain ⟨⟨ys, δ5⟩, b3, ec⟩ := Option.bind_eq_some_iff.mp ec
      obtain ⟨⟨more2, δ6⟩, b4, ec⟩ := Option.map_eq_some_iff.mp ec
      cases ec
      have hlen : out.length = done.length + (ys.length + more2.length) := by rw [← eo]; simp
      refine hr F τ H4 ρ2 δ4 ys δ5 (l ++ xs) _ G5 gr hA4 b3 (by rw [List.length_append, rx.length]; omega) fun H6 zs G6 M6 hA6 R6 => ?_
      rw [eM2] at M6 R6
      have GB := G6.wipe hu2
      rw [w1, w2] at GB
      exact ⟨δ5, done ++ ys, more2, xs ++ zs, GB, (M2.trans M4).trans M6, by rw [← List.append_assoc]; exact hA6, (rx.mv (M4.trans M6)).append R6, b4, by rw [← eo]; simp⟩
  · have hi' : i = ds.length := by omega
    subst hi'
    refine .inl ⟨(Wk _ H2 M2 wf2 ds.length).2 (Nat.le_refl _), ?_⟩
    rw [List.drop_of_length_le (Nat.le_refl _)] at ec
    cases ec
    rw [List.append_nil] at eo
    subst eo
    exact q _ xs (G1.unwipe hu G2 M2) M2 hA2 rx
theorem sndR_cons {K A te mr mi mg mt} {c : Cl} {cs : List Cl} {sl : List Nat} (hr : SndR K A (tIn A te cs) mr) (hi : SndI K c.wi mi) (hg : SndG K sl c.g mg) (ht : SndT K c.tt mt) (hs : ∀ i ∈ sl, i ∈ c.vs) : SndR K A (tIn A te (c :: cs)) (mFor mi c.vs mg mt mr) := fun F σ H ρ δ out δ' l Nx G gr hA e hz q => by
  obtain ⟨⟨ds, δ1⟩, e1, e⟩ := Option.bind_eq_some_iff.mp e
  dsimp only at e
  split at e
  · rename_i hu
    refine hi (F.pin A (.lst l)) σ H ρ δ ds δ1 (G.pin gr.m hA) e1 _ fun J H1 G1 M1 Wk => ?_
    rw [Mm_pin] at M1 Wk
    exact snd_loop hr hg ht hs hu e (Good.unpin gr.z gr.m G1) gr (G1.fr A _ upd_same gr.k) hz Wk fun H' xs G' M' hA' R' => q H' xs G' (M1.trans M') hA' R'
  · cases e
theorem snd_lcN {K te mr wi g tt vs mi mg mt} {cs : List Cl} {sl : List Nat} (hr : ∀ A, SndR K A (tIn A te cs) mr) (hi : SndI K wi mi) (hg : SndG K sl g mg) (ht : SndT K tt mt) (hs : ∀ i ∈ sl, i ∈ vs) : Snd K (tLcN wi g tt vs cs te) (mLcN (mFor mi vs mg mt mr)) := fun F σ H ρ δ d δ' G e Q q => by
  obtain ⟨⟨out, δ2⟩, e0, e⟩ := Option.bind_eq_some_iff.mp e
  obtain ⟨⟨ds, δ1⟩, e1, e0⟩ := Option.bind_eq_some_iff.mp e0
  dsimp only at e e0
  split at e
  · rename_i hz
    split at e0
    · rename_i hu
      obtain ⟨rfl, rfl⟩ : PyData.list out = d ∧ δ2 = δ' := by
        have := Option.some.inj e
        exact ⟨congrArg Prod.fst this, congrArg Prod.snd this⟩
      refine hi F σ H ρ δ ds δ1 G e1 _ fun J H1 G1 M1 Wk A hA => ?_
      obtain ⟨GP, MP⟩ := G1.plus (o := .lst []) hA
      have gr : Grows (F.plus A) A := ⟨.inr rfl, G1.fresh0 hA, fun p hp => ⟨(ne_of_none (G1.dck p hp).2.2.2.one hA).symm, (ne_of_none (G1.dck p hp).2.2.2.two hA).symm, (ne_of_none (G1.dck p hp).2.2.2.tri hA).symm⟩⟩
      refine snd_loop (hr A) hg ht hs hu e0 GP gr upd_same (by simpa using hz) (Wk.mv MP) fun H' xs G' M' hA' R' => ?_
      have an : Mv (Mm (F.plus A) σ ρ) H' (Mm F σ ρ) H' := fun a o e n => ⟨e, fun z => n (by rw [Mm_plus]; exact .inl z)⟩
      have M3 := (MP.trans M').trans an
      exact q _ _ (Good.back (vs := []) G1 rfl hA G' M3) (M1.trans M3) (.lst ⟨G1.mfree hA, hA'⟩ (R'.mv an))
    · cases e0
  · cases e
section
variable {X : Cx} {el tg iter : Expr} {ifs : List Expr} {gl : List Comprehension} {sc : Scope} {own : List (Str × Nat)} {ps : Pos} {mi : MA} {mg : MG} {mt : MT} {me : ME} {mr : MR} {sl vs vs1 : List Nat}
structure BlkN (X : Cx) (sc : Scope) (vs : List Nat) (gl : List Comprehension) (el : Expr) (mr : MR) : Prop where
  ex : ∃ cs te, (AllBlk X sc fun Y => ClsOk Y vs gl cs) ∧ (AllBlk X sc fun Y => PE Y el te) ∧ ∀ A, SndR X.K A (tIn A te cs) mr
theorem bn_nil (e : AllBlk X sc fun Y => PD Y el me) : BlkN X sc vs [] el (mOne me) :=
  ⟨[], fun σ H Q => ∀ s h C cl fp, (e s h C cl fp).ex.choose σ H Q, fun _ _ _ _ _ => .nil, fun s h C cl fp => ⟨fun pins s' σ H Q I q => (e s h C cl fp).ex.choose_spec.1.run pins s' σ H Q I (q s h C cl fp)⟩,
    fun A => snd_one fun F σ H ρ δ d δ' G e' Q q s h C cl fp => (e s h C cl fp).ex.choose_spec.2 F σ H ρ δ d δ' G e' Q q⟩
theorem bn_cons (hv : ∀ i ∈ vs1, i ∈ vs) (i : AllBlk X sc fun Y => PDI Y tg iter mi) (g : AllBlk X sc fun Y => PDG Y tg sl mg) (t : AllBlk X sc fun Y => PDTs Y ifs mt) (o : ∀ i ∈ sl, i ∈ vs1) (B : BlkN X sc vs1 gl el mr) (hs : AllBlk X sc fun Y => ∀ x, foldedSetIterable iter Y.env x = pure x := by intro _ _ _ _ _ _; rfl) :
    BlkN X sc vs (⟨tg, iter, ifs, 0⟩ :: gl) el (mFor mi vs1 mg mt mr) := by
  obtain ⟨cs, te, c1, c2, c3⟩ := B.ex
  refine ⟨⟨fun σ H R => ∀ s h C cl fp, (i s h C cl fp).ex.choose σ H R, fun v σ H Q => ∀ s h C cl fp, (g s h C cl fp).ex.choose v σ H Q, fun σ H Q => ∀ s h C cl fp, (t s h C cl fp).ex.choose σ H Q, vs1⟩ :: cs, te, fun s h C cl fp => .cons hv ?_ ?_ ?_ (hs s h C cl fp) (c1 s h C cl fp), c2, fun A => sndR_cons (sl := sl) (c3 A) ?_ ?_ ?_ o⟩
  · exact ⟨fun pins s' σ H R I q => (i s h C cl fp).ex.choose_spec.1.run pins s' σ H R I (q s h C cl fp)⟩
  · exact ⟨fun pins s' σ H v u Q I r q => (g s h C cl fp).ex.choose_spec.1.run pins s' σ H v u Q I r (q s h C cl fp)⟩
  · exact ⟨fun pins s' σ H Q I q => (t s h C cl fp).ex.choose_spec.1.run pins s' σ H Q I (q s h C cl fp)⟩
  · exact fun F σ H ρ δ ds δ' G e R q s h C cl fp => (i s h C cl fp).ex.choose_spec.2 F σ H ρ δ ds δ' G e R q
  · exact fun F σ H ρ δ v d ρ' G r e Q q s h C cl fp => (g s h C cl fp).ex.choose_spec.2 F σ H ρ δ v d ρ' G r e Q q
  · exact fun F σ H ρ δ d δ' G e Q q s h C cl fp => (t s h C cl fp).ex.choose_spec.2 F σ H ρ δ d δ' G e Q q
theorem pd_lcN (hc : X.calm = true) (hN : X.N.Nodup) (hi : PDI X tg iter mi) (ok : BlkOk X.N X.env.scope sc own) (g : AllBlk X sc fun Y => PDG Y tg sl mg) (t : AllBlk X sc fun Y => PDTs Y ifs mt) (o : ∀ i ∈ sl, i ∈ own.map (·.2)) (B : BlkN X sc (own.map (·.2)) gl el mr) (hs : ∀ x, foldedSetIterable iter X.env x = pure x := by intro _; rfl) :
    PD X (.ListComp el (⟨tg, iter, ifs, 0⟩ :: gl) sc ps) (mLcN (mFor mi (own.map (·.2)) mg mt mr)) := by
  obtain ⟨wi, h1, s1⟩ := hi.ex
  obtain ⟨cs, te, c1, c2, c3⟩ := B.ex
  refine ⟨tLcN wi (fun v σ H Q => ∀ s h C cl fp, (g s h C cl fp).ex.choose v σ H Q) (fun σ H Q => ∀ s h C cl fp, (t s h C cl fp).ex.choose σ H Q) _ cs te, pe_lcN hc hN h1 ok ?_ ?_ c2 c1 hs, snd_lcN (sl := sl) c3 s1 ?_ ?_ o⟩
  · exact fun s h C cl fp => ⟨fun pins s' σ H v u Q I r q => (g s h C cl fp).ex.choose_spec.1.run pins s' σ H v u Q I r (q s h C cl fp)⟩
  · exact fun s h C cl fp => ⟨fun pins s' σ H Q I q => (t s h C cl fp).ex.choose_spec.1.run pins s' σ H Q I (q s h C cl fp)⟩
  · exact fun F σ H ρ δ v d ρ' G r e Q q s h C cl fp => (g s h C cl fp).ex.choose_spec.2 F σ H ρ δ v d ρ' G r e Q q
  · exact fun F σ H ρ δ d δ' G e Q q s h C cl fp => (t s h C cl fp).ex.choose_spec.2 F σ H ρ δ d δ' G e Q q
end
end PD

namespace PD
open PySem PySem.Spec PyProof.Rows L2
section
variable {X : Cx} {a b e : Expr} {es : List Expr} {ma mb me : ME} {r : MA} {p p1 pos pos1 : Pos}
/-! ### min, max of a list of ints, of three ints -/
def intsD : List D → Option (List Int)
  | [] => some []
  | .int i :: ds => (intsD ds).map (i :: ·)
  | _ => none
theorem Reps.intsR {K M H} : ∀ {xs ds ns}, Reps K M H xs ds → intsD ds = some ns → xs = ns.map V.int
  | _, _, _, .nil, h => by cases h; rfl
  | _, _, _, .cons r t, h => by
    cases r <;> first | (simp [intsD] at h; done) | skip
    simp only [intsD] at h
    obtain ⟨bs, e1, e2⟩ := Option.map_eq_some_iff.mp h
    subst e2
    rw [Reps.intsR t e1]; rfl
def leastI : List Int → Option Int
  | [] => none
  | i :: is => some (is.foldl min i)
def greatI : List Int → Option Int
  | [] => none
  | i :: is => some (is.foldl max i)
theorem foldl_min_le (is : List Int) : ∀ i, is.foldl min i ≤ i ∧ (∀ y ∈ is, is.foldl min i ≤ y) ∧ (is.foldl min i = i ∨ is.foldl min i ∈ is) := by
  induction is with
  | nil => intro i; exact ⟨Int.le_refl _, fun y h => by simp at h, .inl rfl⟩
  | cons a as ih =>
    intro i
    obtain ⟨h1, h2, h3⟩ := ih (min i a)
    simp only [List.foldl_cons]
    refine ⟨by omega, fun y hy => ?_, ?_⟩
    · rcases List.mem_cons.mp hy with rfl | hy
      · omega
      · exact h2 y hy
    · rcases h3 with h3 | h3
      · by_cases hz : i ≤ a
        · left; rw [h3]; omega
        · right; rw [h3, show min i a = a by omega]; exact List.mem_cons_self
      · right; exact List.mem_cons_of_mem _ h3
theorem foldl_max_ge (is : List Int) : ∀ i, i ≤ is.foldl max i ∧ (∀ y ∈ is, y ≤ is.foldl max i) ∧ (is.foldl max i = i ∨ is.foldl max i ∈ is) := by
  induction is with
  | nil => intro i; exact ⟨Int.le_refl _, fun y h => by simp at h, .inl rfl⟩
  | cons a as ih =>
    intro i
    obtain ⟨h1, h2, h3⟩ := ih (max i a)
    simp only [List.foldl_cons]
    refine ⟨by omega, fun y hy => ?_, ?_⟩
    · rcases List.mem_cons.mp hy with rfl | hy
      · omega
      · exact h2 y hy
    · rcases h3 with h3 | h3
      · by_cases hz : a ≤ i
        · left; rw [h3]; omega
        · right; rw [h3, show max i a = a by omega]; exact List.mem_cons_self
      · right; exact List.mem_cons_of_mem _ h3
theorem least_uniq {ns : List Int} {m n : Int} (h : leastI ns = some n) (h1 : m ∈ ns) (h2 : ∀ y ∈ ns, m ≤ y) : m = n := by
  cases ns with
  | nil => cases h
  | cons i is =>
    cases h
    obtain ⟨a1, a2, a3⟩ := foldl_min_le is i
    have k1 : is.foldl min i ≤ m := by rcases List.mem_cons.mp h1 with rfl | h1; exact a1; exact a2 m h1
    have k2 : m ≤ is.foldl min i := by rcases a3 with a3 | a3; rw [a3]; exact h2 i List.mem_cons_self; exact h2 _ (List.mem_cons_of_mem _ a3)
    omega
theorem great_uniq {ns : List Int} {m n : Int} (h : greatI ns = some n) (h1 : m ∈ ns) (h2 : ∀ y ∈ ns, y ≤ m) : m = n := by
  cases ns with
  | nil => cases h
  | cons i is =>
    cases h
    obtain ⟨a1, a2, a3⟩ := foldl_max_ge is i
    have k1 : m ≤ is.foldl max i := by rcases List.mem_cons.mp h1 with rfl | h1; exact a1; exact a2 m h1
    have k2 : is.foldl max i ≤ m := by rcases a3 with a3 | a3; rw [a3]; exact h2 i List.mem_cons_self; exact h2 _ (List.mem_cons_of_mem _ a3)
    omega
def minLD : List D → Option D
  | [.list ds] => (intsD ds).bind fun ns => (leastI ns).map .int
  | _ => none
def maxLD : List D → Option D
  | [.list ds] => (intsD ds).bind fun ns => (greatI ns).map .int
  | _ => none
theorem cs_minL {K} : CallS K (rMin K) minLD := fun F σ H ρ δ xs ds z G R hz Q q => by
  unfold minLD at hz
  split at hz
  · obtain ⟨ns, e1, e2⟩ := Option.bind_eq_some_iff.mp hz
    obtain ⟨n, e4, e3⟩ := Option.map_eq_some_iff.mp e2
    subst e3
    obtain ⟨v, rfl, r⟩ := reps1 R
    cases r with
    | lst ha r => exact ⟨_, ns, rfl, by rw [← r.intsR e1]; exact ha.sq, by cases ns with | nil => cases e4 | cons _ _ => exact Nat.succ_pos _, fun m h1 h2 => by rw [least_uniq e4 h1 h2]; exact q _ _ nokeep (.int _)⟩
  · cases hz
theorem cs_maxL {K} : CallS K (rMax K) maxLD := fun F σ H ρ δ xs ds z G R hz Q q => by
  unfold maxLD at hz
  split at hz
  · obtain ⟨ns, e1, e2⟩ := Option.bind_eq_some_iff.mp hz
    obtain ⟨n, e4, e3⟩ := Option.map_eq_some_iff.mp e2
    subst e3
    obtain ⟨v, rfl, r⟩ := reps1 R
    cases r with
    | lst ha r => exact ⟨_, ns, rfl, by rw [← r.intsR e1]; exact ha.sq, by cases ns with | nil => cases e4 | cons _ _ => exact Nat.succ_pos _, fun m h1 h2 => by rw [great_uniq e4 h1 h2]; exact q _ _ nokeep (.int _)⟩
  · cases hz
theorem pd_minL (hm : X.mg "min" = none) (hc : X.calm = true) (ha : PDA X (e :: es) r) (hg : Gl X "min" := by rfl) (he : starEach (e :: es) X.env = (false, eval e X.env) :: starEach es X.env := by rfl) (hpl : (backTo pos (starEach es X.env)).any (·.1) = false := by rfl) : PD X (.Call (.Name "min" p) (e :: es) [] pos) (mCall minLD r) := pd_cb (by decide +kernel) (cr_min hc) cs_minL ha hg hm (by decide) (by decide) he hpl
theorem pd_maxL (hm : X.mg "max" = none) (hc : X.calm = true) (ha : PDA X (e :: es) r) (hg : Gl X "max" := by rfl) (he : starEach (e :: es) X.env = (false, eval e X.env) :: starEach es X.env := by rfl) (hpl : (backTo pos (starEach es X.env)).any (·.1) = false := by rfl) : PD X (.Call (.Name "max" p) (e :: es) [] pos) (mCall maxLD r) := pd_cb (by decide +kernel) (cr_max hc) cs_maxL ha hg hm (by decide) (by decide) he hpl
def max3D : List D → Option D
  | [.int i, .int j, .int k] => some (.int (if k > (if j > i then j else i) then k else if j > i then j else i))
  | _ => none
theorem nuMax2_int (i j : Int) : nuMax2 (.int i) (.int j) = some (.int (if j > i then j else i)) := by
  show some (if decide (i < j) = true then V.int j else V.int i) = _
  by_cases h : i < j
  · rw [if_pos (decide_eq_true h), if_pos h]
  · rw [if_neg (by simpa using h), if_neg h]
theorem cs_max3 {K} : CallS K (rNuC3 nuMax3) max3D := fun F σ H ρ δ xs ds z G R hz Q q => by
  unfold max3D at hz
  split at hz
  · cases hz
    cases R with | cons r1 R => cases R with | cons r2 R => cases R with | cons r3 R =>
      cases R; cases r1; cases r2; cases r3
      refine ⟨_, _, _, _, rfl, ?_, q _ _ nokeep (.int _)⟩
      unfold nuMax3
      rw [nuMax2_int]
      exact nuMax2_int _ _
  · cases hz
theorem pd_max3 (hm : X.mg "max" = none) (hc : X.calm = true) (ha : PDA X (e :: es) r) (hg : Gl X "max" := by rfl) (he : starEach (e :: es) X.env = (false, eval e X.env) :: starEach es X.env := by rfl) (hpl : (backTo pos (starEach es X.env)).any (·.1) = false := by rfl) : PD X (.Call (.Name "max" p) (e :: es) [] pos) (mCall max3D r) := pd_cb (by decide +kernel) (call_max3Nu hc) cs_max3 ha hg hm (by decide) (by decide) he hpl
/-! ### max(xs, default=n) -/
def rMaxDf (K : PySem.W.Frag) : List V → List V → Hp → VK → Prop := fun vs zs H Q => ∃ (a : Addr) (ns : List Int) (z : V), vs = [V.ref a] ∧ zs = [z] ∧ SqL K H a (ns.map V.int) ∧ (ns = [] → Q z H) ∧ ∀ i is, ns = i :: is → Q (.int (PySem.W.maxOf i is)) H
theorem holdAll_ints {h : Heap} : ∀ {ns : List Int} {us : List Value}, Vals (ns.map V.int) us → PySem.W.HoldAll h us ns
  | [], _, .nil => ⟨_, .nil⟩
  | n :: ns, _, .cons r t => by
    obtain ⟨t', rfl⟩ := r
    obtain ⟨as, ra⟩ := holdAll_ints t
    exact ⟨_, .cons (.int n t') ra⟩
theorem cr_maxDf (hc : X.calm = true) (hu : X.A.units + 1 < cLine) : CallRK X (.builtin "max") [Str.ofString "default"] (rMaxDf X.K) := by
  intro pins s σ H vs zs us ws Q I r1 r2 h
  obtain ⟨a, ns, z, rfl, rfl, hs, q0, q1⟩ := h
  obtain ⟨its, rv, hl, _⟩ := I.list hs
  obtain ⟨w, rfl, rw⟩ : ∃ w, ws = [w] ∧ RelV z w := by cases r2 with | cons r t => cases t; exact ⟨_, rfl, r⟩
  rw [Vals.ref1 r1]
  show wpAny _ _ (call (.builtin "max") [.ref a] [(Str.ofString "default", w)]) _ _ s
  refine PySem.W.max_list_datum_default (α := Int) (I.ok.hd hc) hl.isList (holdAll_ints rv) hu (fun e h' tk hk => ⟨z, H, I.kept hk, rw, q0 e⟩) fun y ys i v h' tk e hi hv hk => ?_
  obtain ⟨t, rfl⟩ := PySem.W.int_of_holds hv
  exact ⟨.int _, H, I.kept hk, ⟨_, rfl⟩, q1 y ys e⟩
theorem maxOf_int (i : Int) (is : List Int) : PySem.W.maxOf i is = is.foldl max i := by
  unfold PySem.W.maxOf
  induction is generalizing i with
  | nil => rfl
  | cons a as ih =>
    rw [List.foldl_cons, List.foldl_cons, ih]
    congr 1
    show (if decide (i < a) = true then a else i) = max i a
    by_cases h : i < a
    · rw [if_pos (decide_eq_true h)]; omega
    · rw [if_neg (by simpa using h)]; omega
def mMaxDf (m md : ME) : ME := fun ρ δ => (m ρ δ).bind fun p => (md ρ p.2).bind fun q => match p.1 with
  | .list ds => (intsD ds).map fun ns => (match greatI ns with
    | some n => .int n
    | none => q.1, q.2)
  | _ => none
theorem pd_maxDf {d : Expr} {md : ME} {kp : Pos} (hm : X.mg "max" = none) (hc : X.calm = true) (hu : X.A.units + 1 < cLine) (ha : PD X e me) (hd : PD X d md) (hg : Gl X "max" := by rfl) (hse : starEach [e] X.env = (false, eval e X.env) :: starEach [] X.env := by rfl)
    (he : backTo pos (starEach [e] X.env) = (false, eval e X.env) :: backTo pos (starEach [] X.env) := by rfl) (hpl : (backTo pos (starEach [e] X.env)).any (·.1) = false := by rfl)
    (hall : (backToKw pos (keywordEach [⟨some "default", d, kp⟩] X.env)).all (·.1.isSome) = true := by rfl) (hnone : (backToKw pos (keywordEach [⟨some "default", d, kp⟩] X.env)).any (·.1.isNone) = false := by rfl) (hks : (backToKw pos (keywordEach [⟨some "default", d, kp⟩] X.env)).filterMap (·.1) = [Str.ofString "default"] := by rfl) :
    PD X (.Call (.Name "max" p) [e] [⟨some "default", d, kp⟩] pos) (mMaxDf me md) := by
  obtain ⟨te, h1, s1⟩ := ha.ex
  obtain ⟨td, h2, s2⟩ := hd.ex
  refine ⟨_, pe_callBK (cr_maxDf hc hu) hg hm (by decide +kernel) (pa_cons h1 pa_nil hse) (pk_cons h2 pk_nil) (by decide) (by decide) he hpl hall hnone hks, fun F σ H ρ δ z δ' G e Q q => ?_⟩
  obtain ⟨⟨x, δ1⟩, e1, e⟩ := Option.bind_eq_some_iff.mp e
  obtain ⟨⟨y, δ2⟩, e2, e⟩ := Option.bind_eq_some_iff.mp e
  dsimp only at e e2
  split at e
  · rename_i ds
    obtain ⟨ns, e3, e⟩ := Option.map_eq_some_iff.mp e
    refine s1 F σ H ρ δ _ _ G e1 _ fun v H1 G1 M1 R1 => ?_
    refine s2 F σ H1 ρ δ1 _ _ G1 e2 _ fun w H2 G2 M2 R2 => ?_
    have R1' := R1.mv M2
    cases R1' with
    | lst ha r =>
      refine ⟨_, ns, w, rfl, rfl, by rw [← r.intsR e3]; exact ha.sq, fun en => ?_, fun i is en => ?_⟩
      · subst en
        cases e
        exact q _ _ G2 (M1.trans M2) R2
      · subst en
        cases e
        rw [maxOf_int]
        exact q _ _ G2 (M1.trans M2) (.int _)
  · cases e
/-! ### list(range(a, b, -1)) -/
def dnV (i j : Int) : List V := (List.range (i - j).toNat).map fun (k : Nat) => V.int (i - k)
theorem vals_dn {i j : Int} {acc : Array Value} (h : ItemsOf (fun k v => ∃ t, v = .int (i + k * (-1)) t) acc (i - j).toNat) : Vals (dnV i j) acc.toList := by
  have e : acc.toList.length = (i - j).toNat := by rw [Array.length_toList]; exact h.1
  unfold dnV
  rw [← e]
  refine vals_of_get acc.toList _ fun k u hk => ?_
  obtain ⟨t, rfl⟩ := h.2 k u (by rw [← hk, Array.getElem?_toList])
  exact ⟨t, by congr 1; omega⟩
def tDn (t : TA) : TE := fun σ H Q => t σ H fun vs H1 => ∃ i j, vs = [.int i, .int j, .int (-1)] ∧ -(2 ^ 62) ≤ i ∧ i < 2 ^ 62 ∧ -(2 ^ 62) ≤ j ∧ j < 2 ^ 62 ∧ (i - j).toNat ≤ 2 ^ 24 ∧ ∀ q, H1 q = none → Q (.ref q) (upd H1 q (.lst (dnV i j)))
theorem pe_listDn {t : TA} (hc : X.calm = true) (hg : Gl X "list") (hm : X.mg "list" = none) (hgr : Gl X "range") (hmr : X.mg "range" = none) (ha : PA X (e :: es) t) (hs : starEach (e :: es) X.env = (false, eval e X.env) :: starEach es X.env) (hp : (backTo pos1 (starEach es X.env)).any (·.1) = false)
    (nb : starEach [Expr.Call (.Name "range" p1) (e :: es) [] pos1] X.env = (false, eval (.Call (.Name "range" p1) (e :: es) [] pos1) X.env) :: starEach [] X.env) : PE X (.Call (.Name "list" p) [.Call (.Name "range" p1) (e :: es) [] pos1] [] pos) (tDn t) := by
  refine ⟨fun pins s σ H Q I h => ?_⟩
  refine Call_ (ld_blt I hg hm boot_list (PyProof.Rows.callWith_type1 (args_cons (wpAny_mono (Q := fun x s1 => ∃ r i j t u v H1, x = .ref r ∧ IsRange s1.heap r i j (-1) t u v ∧ Inv X pins σ H1 s1 ∧ -(2 ^ 62) ≤ i ∧ i < 2 ^ 62 ∧ -(2 ^ 62) ≤ j ∧ j < 2 ^ 62 ∧ (i - j).toNat ≤ 2 ^ 24 ∧ ∀ q, H1 q = none → Q (.ref q) (upd H1 q (.lst (dnV i j)))) ?_
    (fun x s1 z => ?_) fun _ _ z => z) nb) nb))
  · refine Call_ (ld_blt I hgr hmr boot_range (PyProof.Rows.callWith_type1 (thn (ha.run pos1 pins s σ H _ I h) fun us s1 ⟨vs, H1, I1, r1, q1⟩ => ?_) hs hp))
    obtain ⟨i, j, rfl, q⟩ := q1
    cases r1 with | cons ra r1 => cases r1 with | cons rb r1 => cases r1 with | cons rc r1 =>
      cases r1
      obtain ⟨t1, rfl⟩ := ra
      obtain ⟨t2, rfl⟩ := rb
      obtain ⟨t3, rfl⟩ := rc
      exact call_range_3 (by decide) ⟨_, i, j, _, _, _, H1, rfl, IsRange.new _ _ _ _ _ _ _, I1.kept fun b u e => Heap.get?_push_of_some _ e, q⟩ (.inl (PyProof.noPylong_small (by decide)))
  · obtain ⟨r, i, j, t, u, v, H1, rfl, hr, I1, b1, b2, b3, b4, b5, q⟩ := z
    refine args_nil ?_
    refine call_list_range (n := (i - j).toNat) (I1.ok.hd hc) hr (PySem.W.small_down b1 b2 b3 b4) (PySem.W.rangeSize_downNat i j) b5 fun h' tk acc c' hk e' hi => ?_
    refine ⟨.ref s1.heap.objs.size, upd H1 s1.heap.objs.size (.lst (dnV i j)), I1.laid hk (Nat.le_refl _) (show ObjOk X.prog X.w _ _ _ (.lst (dnV i j)) from ⟨?_, acc.toList, c', vals_dn hi, ?_⟩), rfl, q _ (I1.hok.fresh (Nat.le_refl _))⟩
    · rw [show (dnV i j).length = (i - j).toNat by unfold dnV; rw [List.length_map, List.length_range], sizeLine_eq]; omega
    · rw [Array.toArray_toList]; exact e'
theorem rep_int {K M H v i} (h : Rep K M H v (.int i)) : v = V.int i := by cases h; rfl
def dnD : List D → Option D
  | [.int i, .int j, .int k] => if inB i && inB j && decide (k = -1) && decide ((i - j).toNat ≤ 100000) then some (.list ((List.range (i - j).toNat).map fun (k : Nat) => .int (i - k))) else none
  | _ => none
theorem pd_listDn (hl : X.mg "list" = none) (hm : X.mg "range" = none) (hc : X.calm = true) (ha : PDA X (e :: es) r) (hg : Gl X "list" := by rfl) (hgr : Gl X "range" := by rfl) (hs : starEach (e :: es) X.env = (false, eval e X.env) :: starEach es X.env := by rfl) (hp : (backTo pos1 (starEach es X.env)).any (·.1) = false := by rfl)
    (nb : starEach [Expr.Call (.Name "range" p1) (e :: es) [] pos1] X.env = (false, eval (.Call (.Name "range" p1) (e :: es) [] pos1) X.env) :: starEach [] X.env := by rfl) : PD X (.Call (.Name "list" p) [.Call (.Name "range" p1) (e :: es) [] pos1] [] pos) (mCall dnD r) := by
  obtain ⟨t, h1, s1⟩ := ha.ex
  refine ⟨_, pe_listDn hc hg hl hgr hm h1 hs hp nb, fun F σ H ρ δ d δ' G e Q q => ?_⟩
  obtain ⟨⟨xs, δ1⟩, e1, e⟩ := Option.bind_eq_some_iff.mp e
  obtain ⟨z, e2, e⟩ := Option.map_eq_some_iff.mp e
  cases e
  refine s1 F σ H ρ δ _ _ G e1 _ fun vs H1 G1 M1 R1 => ?_
  dsimp only at e2
  unfold dnD at e2
  split at e2
  · rename_i i j k _
    split at e2
    · rename_i hb
      simp only [Bool.and_eq_true, decide_eq_true_eq] at hb
      obtain ⟨⟨⟨hi, hj⟩, rfl⟩, hz⟩ := hb
      have hi := of_decide_eq_true hi
      have hj := of_decide_eq_true hj
      cases e2
      cases R1 with | cons ra R1 => cases R1 with | cons rb R1 => cases R1 with | cons rc R1 =>
        cases R1
        have ea := rep_int ra
        have eb := rep_int rb
        have ec := rep_int rc
        subst ea; subst eb; subst ec
        refine ⟨i, j, rfl, hi.1, hi.2, hj.1, hj.2, Nat.le_trans hz (by decide), fun q' hq => ?_⟩
        have k := upd_keeps (o := .lst (dnV i j)) hq
        exact q _ _ (G1.keep k) (M1.trans (Mv.same k)) (.lst ⟨G1.mfree hq, upd_same⟩ (reps_ints (fun n => i - (n : Int)) (List.range (i - j).toNat)))
    · cases e2
  · cases e2
end
end PD

namespace PD
open PySem PySem.Spec PyProof.Rows L2
theorem u1 {k : Nat} {A : Around} (hr : Room k A) : A.units + 1 < cLine := by have := u65 hr; omega
theorem pdss_dict {X : Cx} {tg iter e1 e2 : Expr} {R : Str} {py p0 p1 apos cpos pos2 spos fpos : Pos} {rest : List Stmt} {mi : MA} {mg : MG} {m1 m2 : ME} {m : MS} {sl : List Nat} (r : Nat)
    (hc : X.calm = true) (hN : X.N.Nodup) (hi : PDI X tg iter mi) (hg : PDG X tg sl mg) (h1 : PD X e1 m1) (h2 : PD X e2 m2) (hrest : PDSs X rest m) (hr : r ∉ sl) (hp : PassesOwn (model X.prog X.w) X.A X.env X.xe)
    (hy : X.N[r]? = some R := by rfl) (hl : Loc X.env.scope R := by first | exact Or.inl rfl | exact Or.inr rfl) (hs2 : ∀ x, foldedSetIterable iter X.env x = pure x := by intro _; rfl)
    (hv : Vis X.env.scope R := by first | exact Or.inl rfl | exact Or.inr (Or.inl rfl) | exact Or.inr (Or.inr rfl)) (hd : (R == ("__debug__" : Str)) = false := by decide) (hcd : (R == ("__classdict__" : Str)) = false := by decide)
    (hb : attributeBase (.Name R p1) "setdefault" X.env (eval (.Name R p1) X.env) = eval (.Name R p1) X.env := by rfl)
    (hfew : ((backTo cpos (starEach [e1, e2] X.env)).all (fun x => !x.1) && (backToKw cpos (keywordEach [] X.env)).all (fun x => x.1.isSome) && decide (([e1, e2] : List Expr).length + ([] : List Keyword).length + (if ([] : List Keyword).isEmpty then 0 else 1) < 30)) = true := by rfl)
    (hline : (apos.endLine == cpos.line) = true := by rfl) (htr : backTo cpos (starEach [e1, e2] X.env) = [(false, eval e1 X.env), (false, eval e2 X.env)] := by rfl)
    (hse : swapsWith (.Call (.Attribute (.Name R p1) "setdefault" apos) [e1, e2] [] cpos) none pos2.line X.env = pure false := by rfl) (hf : X.fn R = true ∨ X.env.scope.names.lookup R = some .local := by first | exact .inl rfl | exact .inr rfl | assumption) (hsd : swapsWith (.Dict [] [] p0) (some (.Name R py)) spos.line X.env = pure false := by rfl) :
    PDSs X (.Assign [.Name R py] (.Dict [] [] p0) spos :: .For tg iter [.Expr (.Call (.Attribute (.Name R p1) "setdefault" apos) [e1, e2] [] cpos) pos2] [] fpos :: rest) (sSeq (sDict r mi mg m1 m2) m) := by
  obtain ⟨wi, w1, s1⟩ := hi.ex
  obtain ⟨g, w2, s2⟩ := hg.ex
  obtain ⟨t1, w3, s3⟩ := h1.ex
  obtain ⟨t2, w4, s4⟩ := h2.ex
  obtain ⟨tr, w5, s5⟩ := hrest.ex
  refine ⟨_, pss_cons (ps_set hN hy hl pe_dnewK hsd hf) (pss_cons (ps_for hp hc w1 w2 (pss_one (ps_expr (pe_dsetd (pe_var hy hv hd hcd) w3 w4 ⟨hb, hfew, hline, htr⟩) hse)) hs2) w5), ?_⟩
  have z := snd_seq (snd_dict r s1 s2 s3 s4 hr) s5
  exact z
/-! ### x, y = e, f: both names the def's own: the second is stored first -/
def gSwap (K : PySem.W.Frag) (i j : Nat) : TG := fun v σ H Q => ∃ a x y, v = .ref a ∧ SqT K H a [x, y] ∧ gName j y σ H fun σ1 H1 => gName i x σ1 H1 Q
def gSwapM (i j : Nat) : MG := fun d ρ => match d with
  | .tuple [a, b] => some ((ρ.set j (.val b)).set i (.val a))
  | _ => none
theorem ps_swap {X : Cx} {i j : Nat} {x y : Str} {e : Expr} {te : TE} {k : Nat} {p1 p2 tp pos : Pos} (hc : X.calm = true) (hN : X.N.Nodup) (he : PE X e te) (hx : X.N[i]? = some x) (hy : X.N[j]? = some y) (lx : Loc X.env.scope x) (ly : Loc X.env.scope y)
    (fx : X.fn x = true ∨ X.env.scope.names.lookup x = some .local) (fy : X.fn y = true ∨ X.env.scope.names.lookup y = some .local)
    (hs : swapsWithSole [.Tuple [.Name x p1, .Name y p2] k tp] e pos.line X.env = pure false) (hw : swappedStores [.Tuple [.Name x p1, .Name y p2] k tp] e X.env = pure (some [x, y])) : PS X (.Assign [.Tuple [.Name x p1, .Name y p2] k tp] e pos) (tAsg te (gSwap X.K i j)) := by
  refine ⟨fun pins s σ H D I h => ?_⟩
  rw [exec_Assign_arm]
  refine wpAny_bind (wpAny_standAt (wpAny_bind ?_))
  rw [hs]
  refine wpAny_pure ?_
  rw [if_neg (by decide)]
  refine wpAny_bind (thn (he.run pins s σ H _ I h) fun v s1 ⟨z, H1, I1, r1, q1⟩ => ?_)
  rw [hw]
  refine wpAny_bind (wpAny_pure ?_)
  obtain ⟨a, x1, y1, rfl, hq, h2⟩ := q1
  cases r1
  obtain ⟨its, rv, ht, hz⟩ := I1.tuple hq
  cases rv with | @cons _ u1 _ us ra rv => cases rv with | @cons _ u2 _ us rb rv =>
    cases rv
    unfold assignStores
    dsimp only [List.reverse_cons, List.reverse_nil, List.nil_append, List.cons_append, List.map_cons, List.map_nil]
    refine wpAny_bind (wpAny_rule ?_)
    refine wpAny_bind (?_ : wpAny _ X.A (unpackItems (.ref a) [u1, u2].toArray.size none) _ _ s1)
    refine unpackItems_tuple (I1.ok.hd hc) ht fun h' hk => ?_
    have I2 : Inv X pins σ H1 { s1 with heap := h' } := I1.kept (t' := s1.toks) fun b o e => hk b o (Nat.ne_of_lt (Heap.lt_size e)) e
    refine wpAny_bind ?_
    show wpAny _ _ (assignInOrder [bindName X.env y, bindName X.env x] [u2, u1]) _ _ _
    refine assignInOrder_cons (wpAny_bindName (store_ok I2 hN hy ly rb (fun s3 I3 => ?_) fy))
    refine assignInOrder_cons (wpAny_bindName (store_ok I3 hN hx lx ra (fun s4 I4 => ?_) fx))
    exact assignInOrder_nil (wpAny_pure ⟨_, _, I4, h2⟩)
theorem snd_swap {K} (i j : Nat) : SndG K ([j] ++ [i]) (gSwap K i j) (gSwapM i j) := fun F σ H ρ δ v d ρ' G r e Q q => by
  unfold gSwapM at e
  split at e
  · cases e
    cases r with
    | tup ha r => cases r with | cons r1 r => cases r with | cons r2 r =>
      cases r
      refine ⟨_, _, _, rfl, ha.sq, ?_⟩
      exact q _ ((G.set j r2).1.set i (r1.mv (G.set j r2).2)).1 ((G.set j r2).2.trans ((G.set j r2).1.set i (r1.mv (G.set j r2).2)).2) ((Set1.set j).trans (Set1.set i))
  · cases e
theorem pds_swap {X : Cx} (i j : Nat) {x y : Str} {e : Expr} {me : ME} {k : Nat} {p1 p2 tp pos : Pos} (hc : X.calm = true) (hN : X.N.Nodup) (he : PD X e me) (hx : X.N[i]? = some x := by rfl) (hy : X.N[j]? = some y := by rfl) (lx : Loc X.env.scope x := by first | exact Or.inl rfl | exact Or.inr rfl) (ly : Loc X.env.scope y := by first | exact Or.inl rfl | exact Or.inr rfl)
    (fx : X.fn x = true ∨ X.env.scope.names.lookup x = some .local := by first | exact .inl rfl | exact .inr rfl) (fy : X.fn y = true ∨ X.env.scope.names.lookup y = some .local := by first | exact .inl rfl | exact .inr rfl)
    (hs : swapsWithSole [.Tuple [.Name x p1, .Name y p2] k tp] e pos.line X.env = pure false := by rfl) (hw : swappedStores [.Tuple [.Name x p1, .Name y p2] k tp] e X.env = pure (some [x, y]) := by rfl) : PDS X (.Assign [.Tuple [.Name x p1, .Name y p2] k tp] e pos) (sAsg me (gSwapM i j)) := by
  obtain ⟨t, q1, s1⟩ := he.ex
  exact ⟨_, ps_swap hc hN q1 hx hy lx ly fx fy hs hw, snd_asg s1 (snd_swap i j)⟩
end PD

namespace PD
open PySem PySem.Spec PyProof.Rows L2

/-! ### d.get(k, x), k in d -/
theorem RepK.lookN {K M H} : ∀ {kvs es} {k : Key}, RepK K M H kvs es → lookD es (keyD k) = none → valV kvs k = none
  | _, _, _, .nil, _ => rfl
  | _, _, k, .cons (k := k') r t, h => by
    rw [valV_cons]
    cases k' with
    | inl i =>
      cases k with
      | inl j =>
        simp only [keyD, lookD] at h
        by_cases hj : i = j
        · subst hj; rw [if_pos rfl] at h; cases h
        · rw [if_neg hj] at h
          rw [if_neg (fun q => hj (Sum.inl.inj q))]; exact RepK.lookN (k := .inl j) t h
      | inr j =>
        simp only [keyD, lookD] at h
        rw [if_neg (fun q => nomatch q)]; exact RepK.lookN (k := .inr j) t h
    | inr i =>
      cases k with
      | inr j =>
        simp only [keyD, lookD] at h
        by_cases hj : i = j
        · subst hj; rw [if_pos rfl] at h; cases h
        · rw [if_neg hj] at h
          rw [if_neg (fun q => hj (Sum.inr.inj q))]; exact RepK.lookN (k := .inr j) t h
      | inl j =>
        simp only [keyD, lookD] at h
        rw [if_neg (fun q => nomatch q)]; exact RepK.lookN (k := .inl j) t h
theorem keyOf_keyD {d : D} {k : Key} (h : keyOf d = some k) : d = keyD k := by
  cases d <;> simp only [keyOf, Option.some.injEq, reduceCtorEq] at h <;> (subst h; rfl)
def getD2 : D → D → D → Option D
  | .dict es, k, z => (keyOf k).map fun _ => (lookD es k).getD z
  | _, _, _ => none
def mGet2 (a b c : ME) : ME := fun ρ δ => (a ρ δ).bind fun p => (b ρ p.2).bind fun q => (c ρ q.2).bind fun r => (getD2 p.1 q.1 r.1).map fun z => (z, r.2)
section
variable {X : Cx} {a b c : Expr} {ma mb mc : ME} {pos : Pos}
theorem pd_get2 {apos cpos : Pos} (hu : X.A.units + 1 < cLine) (ha : PD X a ma) (hb : PD X b mb) (hc : PD X c mc) (m : M2 X a "get" apos b c cpos := by exact ⟨rfl, rfl, rfl, rfl⟩) :
    PD X (.Call (.Attribute a "get" apos) [b, c] [] cpos) (mGet2 ma mb mc) := by
  obtain ⟨ta, h1, s1⟩ := ha.ex
  obtain ⟨tb, h2, s2⟩ := hb.ex
  obtain ⟨tc, h3, s3⟩ := hc.ex
  refine ⟨_, pe_dget2 hu h1 h2 h3 m, fun F σ H ρ δ d δ' G e Q q => ?_⟩
  obtain ⟨⟨x, δ1⟩, e1, e⟩ := Option.bind_eq_some_iff.mp e
  obtain ⟨⟨y, δ2⟩, e2, e⟩ := Option.bind_eq_some_iff.mp e
  obtain ⟨⟨w, δ3⟩, e4, e⟩ := Option.bind_eq_some_iff.mp e
  obtain ⟨z, e3, e⟩ := Option.map_eq_some_iff.mp e
  cases e
  refine s1 F σ H ρ δ x δ1 G e1 _ fun v H1 G1 M1 R1 => ?_
  dsimp only at e3
  cases x with
  | dict es =>
    simp only [getD2] at e3
    obtain ⟨kk, e5, e6⟩ := Option.map_eq_some_iff.mp e3
    subst e6
    cases R1 with
    | dic n rd rk =>
      refine ⟨_, rfl, .inl ⟨_, rd⟩, ?_⟩
      refine s2 F σ H1 ρ δ1 _ δ2 G1 e2 _ fun u H2 G2 M2 R2 => s3 F σ H2 ρ δ2 _ _ G2 e4 _ fun t H3 G3 M3 R3 => ?_
      have M13 := M2.trans M3
      have rk3 := rk.mv M13
      have rd3 := (M13.rd n rd).2
      have ek := keyOf_rep R2 e5
      have ed := keyOf_keyD e5
      refine ⟨_, .inl ⟨_, kk, rd3, ek, rfl⟩, q _ _ G3 (M1.trans M13) ?_⟩
      subst ed
      cases hl : lookD es (keyD kk) with
      | none => rw [rk3.lookN hl]; exact R3
      | some d1 =>
        obtain ⟨v1, ev, rv⟩ := rk3.look hl
        rw [ev]; exact rv
  | _ => cases e3
def inDict (neg : Bool) : D → D → Option D
  | k, .dict es => (keyOf k).map fun _ => .bool (neg ^^ (lookD es k).isSome)
  | _, _ => none
def rInDict (neg : Bool) : R2 := fun x y H Q => ∃ a o, y = .ref a ∧ DGet H a x o ∧ Q (.bl (neg ^^ o.isSome)) H
theorem op_inDict (hu : X.A.units + 1 < cLine) : OpR X (compareOp .In) (rInDict false) := fun pins s σ H x y v u Q I rx ry q => by
  obtain ⟨a, o, rfl, g, q⟩ := q
  obtain rfl : u = Value.ref a := ry
  rw [Bool.false_xor] at q
  exact d_in hu I g rx fun s3 I3 => ⟨.bl o.isSome, H, I3, rfl, q⟩
theorem op_notInDict (hu : X.A.units + 1 < cLine) : OpR X (compareOp .NotIn) (rInDict true) := fun pins s σ H x y v u Q I rx ry q => by
  obtain ⟨a, o, rfl, g, q⟩ := q
  obtain rfl : u = Value.ref a := ry
  rw [Bool.true_xor] at q
  exact d_notIn hu I g rx fun s3 I3 => ⟨.bl (!o.isSome), H, I3, rfl, q⟩
theorem ops_inDict {K neg} : OpS K (rInDict neg) (inDict neg) := fun F σ H ρ δ x y d e z G rx ry hz Q q => by
  unfold inDict at hz
  split at hz
  · rename_i k es
    obtain ⟨kk, e5, e6⟩ := Option.map_eq_some_iff.mp hz
    subst e6
    cases ry with
    | dic n rd rk =>
      have ek := keyOf_rep rx e5
      have ed := keyOf_keyD e5
      refine ⟨_, _, rfl, .inl ⟨_, kk, rd, ek, rfl⟩, ?_⟩
      subst ed
      cases hl : lookD es (keyD kk) with
      | none => rw [rk.lookN hl]; rw [hl] at q; exact q _ H (fun _ _ h => h) (.bl _)
      | some d1 =>
        obtain ⟨v1, ev, rv⟩ := rk.look hl
        rw [ev]; rw [hl] at q; exact q _ H (fun _ _ h => h) (.bl _)
  · cases hz
theorem cs_inDict (hu : X.A.units + 1 < cLine) : CmpS X .In (inDict false) := ⟨_, op_inDict hu, ops_inDict⟩
theorem cs_notInDict (hu : X.A.units + 1 < cLine) : CmpS X .NotIn (inDict true) := ⟨_, op_notInDict hu, ops_inDict⟩
end

/-! ### str(n), sum(xs), int(text) -/
section
variable {X : Cx} {a b c e : Expr} {es : List Expr} {ma mb mc : ME} {r : MA} {p pos : Pos}
def strD : List D → Option D
  | [.int i] => if i.natAbs.log2 < 1920 then some (.str (toString i)) else none
  | _ => none
theorem cs_str {K} : CallS K (fun xs H Q => ∃ i, xs = [.int i] ∧ i.natAbs.log2 < 1920 ∧ Q (.str (toString i)) H) strD := fun F σ H ρ δ xs ds z G R hz Q q => by
  unfold strD at hz
  split at hz
  · split at hz
    · rename_i hc
      cases hz
      obtain ⟨v, rfl, r⟩ := reps1 R
      cases r
      exact ⟨_, rfl, hc, q _ _ nokeep (.str _)⟩
    · cases hz
  · cases hz
theorem pd_cstr (hm : X.mg "str" = none) (ha : PDA X (e :: es) r) (hg : Gl X "str" := by rfl) (he : starEach (e :: es) X.env = (false, eval e X.env) :: starEach es X.env := by rfl) (hpl : (backTo pos (starEach es X.env)).any (·.1) = false := by rfl) : PD X (.Call (.Name "str" p) (e :: es) [] pos) (mCall strD r) := pd_ct (by decide +kernel) call_str_int cs_str ha hg hm (by decide) (by decide) he hpl
def sumD : List D → Option D
  | [.list ds] => (intsD ds).map fun ns => .int ns.sum
  | _ => none
theorem cs_sum {K} : CallS K (rSum K) sumD := fun F σ H ρ δ xs ds z G R hz Q q => by
  unfold sumD at hz
  split at hz
  · obtain ⟨ns, e1, e2⟩ := Option.map_eq_some_iff.mp hz
    subst e2
    obtain ⟨v, rfl, r⟩ := reps1 R
    cases r with
    | lst ha r => exact ⟨_, ns, rfl, by rw [← r.intsR e1]; exact ha.sq, q _ _ nokeep (.int _)⟩
  · cases hz
theorem pd_sum (hm : X.mg "sum" = none) (hc : X.calm = true) (ha : PDA X (e :: es) r) (hg : Gl X "sum" := by rfl) (he : starEach (e :: es) X.env = (false, eval e X.env) :: starEach es X.env := by rfl) (hpl : (backTo pos (starEach es X.env)).any (·.1) = false := by rfl) : PD X (.Call (.Name "sum" p) (e :: es) [] pos) (mCall sumD r) := pd_cb (by decide +kernel) (cr_sum hc) cs_sum ha hg hm (by decide) (by decide) he hpl

/-! ### methods of texts: zfill, split -/
def zfillD : D → D → Option D
  | .str x, .int i => if PadOk i = true then some (.str (Txt.zfill x i)) else none
  | _, _ => none
theorem pd_zfill {apos : Pos} (ha : PD X a ma) (hb : PD X b mb) (hbase : attributeBase a "zfill" X.env (eval a X.env) = eval a X.env := by rfl)
    (hfew : ((backTo pos (starEach [b] X.env)).all (fun x => !x.1) && (backToKw pos (keywordEach [] X.env)).all (fun x => x.1.isSome)
      && decide (([b] : List Expr).length + ([] : List Keyword).length + (if ([] : List Keyword).isEmpty then 0 else 1) < 30)) = true := by rfl)
    (hline : (apos.endLine == pos.line) = true := by rfl) (hs : starEach [b] X.env = (false, eval b X.env) :: starEach [] X.env := by rfl) (hpl : (backTo pos (starEach [] X.env)).any (·.1) = false := by rfl) :
    PD X (.Call (.Attribute a "zfill" apos) [b] [] pos) (mBin zfillD ma mb) := by
  obtain ⟨ta, h1, s1⟩ := ha.ex
  obtain ⟨tb, h2, s2⟩ := hb.ex
  refine ⟨_, pe_bm PySem.F.plainAttrs_str PySem.F.slot_str_zfill PySem.F.type_str_zfill mt_zfill h1 (pa_cons h2 pa_nil hs) hbase hfew hline hs hpl, fun F σ H ρ δ d δ' G e Q q => ?_⟩
  obtain ⟨⟨x, δ1⟩, e1, e⟩ := Option.bind_eq_some_iff.mp e
  obtain ⟨⟨y, δ2⟩, e2, e⟩ := Option.bind_eq_some_iff.mp e
  obtain ⟨z, e3, e⟩ := Option.map_eq_some_iff.mp e
  cases e
  refine s1 F σ H ρ δ x δ1 G e1 _ fun v H1 G1 M1 R1 => ?_
  dsimp only at e3
  unfold zfillD at e3
  split at e3
  · split at e3
    · rename_i hz
      cases e3
      cases R1
      refine ⟨rfl, s2 F σ H1 ρ δ1 _ _ G1 e2 _ fun u H2 G2 M2 R2 => ?_⟩
      cases R2
      exact ⟨_, _, rfl, rfl, hz, q _ _ G2 (M1.trans M2) (.str _)⟩
    · cases e3
  · cases e3
def splitD : D → D → Option D
  | .str x, .str y => if y.length ≠ 0 ∧ x.length + 2 ≤ sizeLine then some (.list ((Txt.split x y).map .str)) else none
  | _, _ => none
theorem Reps.strsOf {K M H} : ∀ ns : List Str, Reps K M H (ns.map V.str) (ns.map PyData.str)
  | [] => .nil
  | n :: r => .cons (.str n) (Reps.strsOf r)
theorem pd_split {apos : Pos} (ha : PD X a ma) (hb : PD X b mb) (hbase : attributeBase a "split" X.env (eval a X.env) = eval a X.env := by rfl)
    (hfew : ((backTo pos (starEach [b] X.env)).all (fun x => !x.1) && (backToKw pos (keywordEach [] X.env)).all (fun x => x.1.isSome)
      && decide (([b] : List Expr).length + ([] : List Keyword).length + (if ([] : List Keyword).isEmpty then 0 else 1) < 30)) = true := by rfl)
    (hline : (apos.endLine == pos.line) = true := by rfl) (hs : starEach [b] X.env = (false, eval b X.env) :: starEach [] X.env := by rfl) (hpl : (backTo pos (starEach [] X.env)).any (·.1) = false := by rfl) :
    PD X (.Call (.Attribute a "split" apos) [b] [] pos) (mBin splitD ma mb) := by
  obtain ⟨ta, h1, s1⟩ := ha.ex
  obtain ⟨tb, h2, s2⟩ := hb.ex
  refine ⟨_, pe_bm PySem.F.plainAttrs_str PySem.F.slot_str_split PySem.F.type_str_split mt_split h1 (pa_cons h2 pa_nil hs) hbase hfew hline hs hpl, fun F σ H ρ δ d δ' G e Q q => ?_⟩
  obtain ⟨⟨x, δ1⟩, e1, e⟩ := Option.bind_eq_some_iff.mp e
  obtain ⟨⟨y, δ2⟩, e2, e⟩ := Option.bind_eq_some_iff.mp e
  obtain ⟨z, e3, e⟩ := Option.map_eq_some_iff.mp e
  cases e
  refine s1 F σ H ρ δ x δ1 G e1 _ fun v H1 G1 M1 R1 => ?_
  dsimp only at e3
  unfold splitD at e3
  split at e3
  · rename_i x0 y0 _
    split at e3
    · rename_i hz
      cases e3
      cases R1
      refine ⟨rfl, s2 F σ H1 ρ δ1 _ _ G1 e2 _ fun u H2 G2 M2 R2 => ?_⟩
      cases R2
      refine ⟨_, _, rfl, rfl, by simpa using hz.1, hz.2, fun p hp => ?_⟩
      exact q _ _ (G2.keep (upd_keeps hp)) ((M1.trans M2).trans (Mv.same (upd_keeps hp))) (.lst ⟨G2.mfree hp, upd_same⟩ (Reps.strsOf _))
    · cases e3
  · cases e3
end
end PD

namespace PD
open PySem PySem.Spec PyProof.Rows L2

/-! ### what a mirror comes to, by what is wanted of it -/
def W1 (o : Option D) (P : D → Prop) : Prop := ∃ z, o = some z ∧ P z
def WE (m : ME) (ρ : List Sl) (δ : Dk) (P : D → Dk → Prop) : Prop := ∃ d δ', m ρ δ = some (d, δ') ∧ P d δ'
def WT (m : MT) (ρ : List Sl) (δ : Dk) (P : Bool → Dk → Prop) : Prop := ∃ d δ', m ρ δ = some (d, δ') ∧ P d δ'
def WA (m : MA) (ρ : List Sl) (δ : Dk) (P : List D → Dk → Prop) : Prop := ∃ d δ', m ρ δ = some (d, δ') ∧ P d δ'
def WO (m : MO) (ρ : List Sl) (δ : Dk) (P : Option Int → Dk → Prop) : Prop := ∃ d δ', m ρ δ = some (d, δ') ∧ P d δ'
def WP (m : MP) (ρ : List Sl) (δ : Dk) (P : List (Key × D) → Dk → Prop) : Prop := ∃ d δ', m ρ δ = some (d, δ') ∧ P d δ'
def WG (g : MG) (d : D) (ρ : List Sl) (P : List Sl → Prop) : Prop := ∃ ρ', g d ρ = some ρ' ∧ P ρ'
def WGs (g : MGs) (d : List D) (ρ : List Sl) (P : List Sl → Prop) : Prop := ∃ ρ', g d ρ = some ρ' ∧ P ρ'
def WS (s : MS) (ρ : List Sl) (δ : Dk) (P : Fl → List Sl → Dk → Prop) : Prop := ∃ f ρ' δ', s ρ δ = some (f, ρ', δ') ∧ P f ρ' δ'
def WK (f : List D → Dk → Option (D × Dk)) (ds : List D) (δ : Dk) (P : D → Dk → Prop) : Prop := ∃ d δ', f ds δ = some (d, δ') ∧ P d δ'
def WC (g : MG) (tt : MT) (te : ME) (ρ : List Sl) (ds : List D) (δ : Dk) (P : List D → Dk → Prop) : Prop := ∃ d δ', compL g tt te ρ ds δ = some (d, δ') ∧ P d δ'
theorem W1.of {o : Option D} {z : D} {P : D → Prop} (h : o = some z) (p : P z) : W1 o P := ⟨z, h, p⟩
theorem W1.mono {o : Option D} {P Q : D → Prop} (h : W1 o P) (k : ∀ z, P z → Q z) : W1 o Q := let ⟨z, e, p⟩ := h; ⟨z, e, k z p⟩
theorem WK.mono {f ds δ} {P Q : D → Dk → Prop} (h : WK f ds δ P) (k : ∀ z δ', P z δ' → Q z δ') : WK f ds δ Q := let ⟨z, δ', e, p⟩ := h; ⟨z, δ', e, k z δ' p⟩
theorem WS.mono {s ρ δ} {P Q : Fl → List Sl → Dk → Prop} (h : WS s ρ δ P) (k : ∀ f ρ' δ', P f ρ' δ' → Q f ρ' δ') : WS s ρ δ Q := let ⟨f, ρ', δ', e, p⟩ := h; ⟨f, ρ', δ', e, k f ρ' δ' p⟩
theorem WE.mono {m ρ δ} {P Q : D → Dk → Prop} (h : WE m ρ δ P) (k : ∀ z δ', P z δ' → Q z δ') : WE m ρ δ Q := let ⟨z, δ', e, p⟩ := h; ⟨z, δ', e, k z δ' p⟩
theorem WT.mono {m ρ δ} {P Q : Bool → Dk → Prop} (h : WT m ρ δ P) (k : ∀ z δ', P z δ' → Q z δ') : WT m ρ δ Q := let ⟨z, δ', e, p⟩ := h; ⟨z, δ', e, k z δ' p⟩
section
variable {ρ : List Sl} {δ : Dk}
theorem we_var {i : Nat} {P} : WE (mVar i) ρ δ P ↔ ∃ d, ρ[i]? = some (.val d) ∧ P d δ := by
  unfold WE mVar
  constructor
  · rintro ⟨d, δ', h, p⟩
    split at h
    · rename_i e
      cases h; exact ⟨_, e, p⟩
    · cases h
  · rintro ⟨d, e, p⟩
    exact ⟨d, δ, by rw [e], p⟩
theorem we_c {d : D} {P} : WE (mC d) ρ δ P ↔ P d δ := ⟨fun ⟨_, _, h, p⟩ => by cases h; exact p, fun p => ⟨_, _, rfl, p⟩⟩
theorem we_bin {f a b P} : WE (mBin f a b) ρ δ P ↔ WE a ρ δ fun x δ1 => WE b ρ δ1 fun y δ2 => W1 (f x y) fun z => P z δ2 := by
  constructor
  · rintro ⟨d, δ', e, p⟩
    obtain ⟨⟨x, δ1⟩, e1, e⟩ := Option.bind_eq_some_iff.mp e
    obtain ⟨⟨y, δ2⟩, e2, e⟩ := Option.bind_eq_some_iff.mp e
    obtain ⟨z, e3, e⟩ := Option.map_eq_some_iff.mp e
    cases e
    exact ⟨x, δ1, e1, y, _, e2, _, e3, p⟩
  · rintro ⟨x, δ1, e1, y, δ2, e2, z, e3, p⟩
    exact ⟨z, δ2, bin_eq e1 e2 e3, p⟩
theorem we_un {f a P} : WE (mUn f a) ρ δ P ↔ WE a ρ δ fun x δ1 => W1 (f x) fun z => P z δ1 := by
  constructor
  · rintro ⟨d, δ', e, p⟩
    obtain ⟨⟨x, δ1⟩, e1, e⟩ := Option.bind_eq_some_iff.mp e
    obtain ⟨z, e3, e⟩ := Option.map_eq_some_iff.mp e
    cases e
    exact ⟨x, _, e1, _, e3, p⟩
  · rintro ⟨x, δ1, e1, z, e3, p⟩
    exact ⟨z, δ1, un_eq e1 e3, p⟩
theorem we_call {f r P} : WE (mCall f r) ρ δ P ↔ WA r ρ δ fun x δ1 => W1 (f x) fun z => P z δ1 := by
  constructor
  · rintro ⟨d, δ', e, p⟩
    obtain ⟨⟨x, δ1⟩, e1, e⟩ := Option.bind_eq_some_iff.mp e
    obtain ⟨z, e3, e⟩ := Option.map_eq_some_iff.mp e
    cases e
    exact ⟨x, _, e1, _, e3, p⟩
  · rintro ⟨x, δ1, e1, z, e3, p⟩
    exact ⟨z, δ1, call_eq e1 e3, p⟩
theorem we_callK {i f r P} : WE (mCallK i f r) ρ δ P ↔ ρ[i]? = some .deck ∧ WA r ρ δ fun x δ1 => WK f x δ1 P := by
  constructor
  · rintro ⟨d, δ', e, p⟩
    unfold mCallK at e
    split at e
    · rename_i hi
      obtain ⟨⟨x, δ1⟩, e1, e⟩ := Option.bind_eq_some_iff.mp e
      exact ⟨hi, x, δ1, e1, d, δ', e, p⟩
    · cases e
  · rintro ⟨hi, x, δ1, e1, d, δ', e, p⟩
    exact ⟨d, δ', callK_eq hi e1 e, p⟩
theorem wa_nil {P} : WA mNil ρ δ P ↔ P [] δ := ⟨fun ⟨_, _, h, p⟩ => by cases h; exact p, fun p => ⟨_, _, rfl, p⟩⟩
theorem wa_cons {a r P} : WA (mCons a r) ρ δ P ↔ WE a ρ δ fun x δ1 => WA r ρ δ1 fun xs δ2 => P (x :: xs) δ2 := by
  constructor
  · rintro ⟨d, δ', e, p⟩
    obtain ⟨⟨x, δ1⟩, e1, e⟩ := Option.bind_eq_some_iff.mp e
    obtain ⟨⟨z, δ2⟩, e3, e⟩ := Option.map_eq_some_iff.mp e
    cases e
    exact ⟨x, δ1, e1, z, _, e3, p⟩
  · rintro ⟨x, δ1, e1, z, δ2, e3, p⟩
    exact ⟨_, _, cons_eq e1 e3, p⟩
theorem we_tup {r P} : WE (mTup r) ρ δ P ↔ WA r ρ δ fun ds δ1 => ds.length ≤ sizeLine ∧ P (.tuple ds) δ1 := by
  constructor
  · rintro ⟨d, δ', e, p⟩
    obtain ⟨⟨x, δ1⟩, e1, e⟩ := Option.bind_eq_some_iff.mp e
    dsimp only at e
    split at e
    · rename_i hl; cases e; exact ⟨x, _, e1, hl, p⟩
    · cases e
  · rintro ⟨x, δ1, e1, hl, p⟩
    exact ⟨_, _, tup_eq e1 hl, p⟩
theorem we_lst {r P} : WE (mLst r) ρ δ P ↔ WA r ρ δ fun ds δ1 => ds.length ≤ sizeLine ∧ P (.list ds) δ1 := by
  constructor
  · rintro ⟨d, δ', e, p⟩
    obtain ⟨⟨x, δ1⟩, e1, e⟩ := Option.bind_eq_some_iff.mp e
    dsimp only at e
    split at e
    · rename_i hl; cases e; exact ⟨x, _, e1, hl, p⟩
    · cases e
  · rintro ⟨x, δ1, e1, hl, p⟩
    exact ⟨_, _, lst_eq e1 hl, p⟩
theorem wo_no {P} : WO oNo ρ δ P ↔ P none δ := ⟨fun ⟨_, _, h, p⟩ => by cases h; exact p, fun p => ⟨_, _, rfl, p⟩⟩
theorem wo_some {m P} : WO (oSome m) ρ δ P ↔ WE m ρ δ fun x δ1 => ∃ i, x = .int i ∧ P (some i) δ1 := by
  constructor
  · rintro ⟨d, δ', e, p⟩
    obtain ⟨⟨x, δ1⟩, e1, e⟩ := Option.bind_eq_some_iff.mp e
    dsimp only at e
    split at e
    · cases e; exact ⟨_, _, e1, _, rfl, p⟩
    · cases e
  · rintro ⟨x, δ1, e1, i, rfl, p⟩
    exact ⟨_, _, os_eq e1, p⟩
theorem we_sl {a lo hi P} : WE (mSl a lo hi) ρ δ P ↔ WE a ρ δ fun x δ1 => WO lo ρ δ1 fun l δ2 => WO hi ρ δ2 fun h δ3 => W1 (slD l h x) fun z => P z δ3 := by
  constructor
  · rintro ⟨d, δ', e, p⟩
    obtain ⟨⟨x, δ1⟩, e1, e⟩ := Option.bind_eq_some_iff.mp e
    obtain ⟨⟨y, δ2⟩, e2, e⟩ := Option.bind_eq_some_iff.mp e
    obtain ⟨⟨h, δ3⟩, e4, e⟩ := Option.bind_eq_some_iff.mp e
    obtain ⟨z, e3, e⟩ := Option.map_eq_some_iff.mp e
    cases e
    exact ⟨x, δ1, e1, y, δ2, e2, h, _, e4, _, e3, p⟩
  · rintro ⟨x, δ1, e1, y, δ2, e2, h, δ3, e4, z, e3, p⟩
    exact ⟨z, _, sl_eq e1 e2 e4 e3, p⟩
theorem wt_b {m P} : WT (mB m) ρ δ P ↔ WE m ρ δ fun x δ1 => ∃ b, x = .bool b ∧ P b δ1 := by
  constructor
  · rintro ⟨d, δ', e, p⟩
    obtain ⟨⟨x, δ1⟩, e1, e⟩ := Option.bind_eq_some_iff.mp e
    dsimp only at e
    split at e
    · cases e; exact ⟨_, _, e1, _, rfl, p⟩
    · cases e
  · rintro ⟨x, δ1, e1, i, rfl, p⟩
    exact ⟨_, _, mB_eq e1, p⟩
theorem wt_tru {m P} : WT (mTru m) ρ δ P ↔ WE m ρ δ fun x δ1 => ∃ b, truD x = some b ∧ P b δ1 := by
  constructor
  · rintro ⟨d, δ', e, p⟩
    obtain ⟨⟨x, δ1⟩, e1, e⟩ := Option.bind_eq_some_iff.mp e
    obtain ⟨z, e3, e⟩ := Option.map_eq_some_iff.mp e
    cases e
    exact ⟨_, _, e1, _, e3, p⟩
  · rintro ⟨x, δ1, e1, i, e2, p⟩
    exact ⟨_, _, tru_eq e1 e2, p⟩
theorem wt_and {a b P} : WT (tAndM a b) ρ δ P ↔ WT a ρ δ fun x δ1 => if x = true then WT b ρ δ1 P else P false δ1 := by
  constructor
  · rintro ⟨d, δ', e, p⟩
    obtain ⟨⟨x, δ1⟩, e1, e⟩ := Option.bind_eq_some_iff.mp e
    dsimp only at e
    refine ⟨x, δ1, e1, ?_⟩
    split at e
    · rw [if_pos (by assumption)]; exact ⟨_, _, e, p⟩
    · rw [if_neg (by assumption)]; cases e; exact p
  · rintro ⟨x, δ1, e1, p⟩
    unfold WT tAndM
    rw [e1]
    simp only [Option.bind_some]
    split at p
    · rw [if_pos (by assumption)]; exact p
    · rw [if_neg (by assumption)]; exact ⟨_, _, rfl, p⟩
theorem wt_or {a b P} : WT (tOrM a b) ρ δ P ↔ WT a ρ δ fun x δ1 => if x = true then P true δ1 else WT b ρ δ1 P := by
  constructor
  · rintro ⟨d, δ', e, p⟩
    obtain ⟨⟨x, δ1⟩, e1, e⟩ := Option.bind_eq_some_iff.mp e
    dsimp only at e
    refine ⟨x, δ1, e1, ?_⟩
    split at e
    · rw [if_pos (by assumption)]; cases e; exact p
    · rw [if_neg (by assumption)]; exact ⟨_, _, e, p⟩
  · rintro ⟨x, δ1, e1, p⟩
    unfold WT tOrM
    rw [e1]
    simp only [Option.bind_some]
    split at p
    · rw [if_pos (by assumption)]; exact ⟨_, _, rfl, p⟩
    · rw [if_neg (by assumption)]; exact p
theorem wt_not {a P} : WT (tNotM a) ρ δ P ↔ WT a ρ δ fun x δ1 => P (!x) δ1 := by
  constructor
  · rintro ⟨d, δ', e, p⟩
    obtain ⟨⟨x, δ1⟩, e1, e⟩ := Option.map_eq_some_iff.mp e
    cases e
    exact ⟨x, _, e1, p⟩
  · rintro ⟨x, δ1, e1, p⟩
    exact ⟨_, _, by unfold tNotM; rw [e1]; rfl, p⟩
theorem we_if {c a b P} : WE (mIf c a b) ρ δ P ↔ WT c ρ δ fun x δ1 => if x = true then WE a ρ δ1 P else WE b ρ δ1 P := by
  constructor
  · rintro ⟨d, δ', e, p⟩
    obtain ⟨⟨x, δ1⟩, e1, e⟩ := Option.bind_eq_some_iff.mp e
    dsimp only at e
    refine ⟨x, δ1, e1, ?_⟩
    split at e
    · rw [if_pos (by assumption)]; exact ⟨_, _, e, p⟩
    · rw [if_neg (by assumption)]; exact ⟨_, _, e, p⟩
  · rintro ⟨x, δ1, e1, p⟩
    unfold WE mIf
    rw [e1]
    simp only [Option.bind_some]
    split at p
    · rw [if_pos (by assumption)]; exact p
    · rw [if_neg (by assumption)]; exact p
theorem we_and {a b P} : WE (mAnd a b) ρ δ P ↔ WE a ρ δ fun x δ1 => ∃ c, x = .bool c ∧ if c = true then WE b ρ δ1 P else P (.bool false) δ1 := by
  constructor
  · rintro ⟨d, δ', e, p⟩
    obtain ⟨⟨x, δ1⟩, e1, e⟩ := Option.bind_eq_some_iff.mp e
    dsimp only at e
    split at e
    · exact ⟨_, _, e1, true, rfl, d, δ', e, p⟩
    · cases e; exact ⟨_, _, e1, false, rfl, p⟩
    · cases e
  · rintro ⟨x, δ1, e1, c, rfl, p⟩
    unfold WE mAnd
    rw [e1]
    simp only [Option.bind_some]
    cases c with
    | true => exact p
    | false => exact ⟨_, _, rfl, p⟩
theorem we_or {a b P} : WE (mOr a b) ρ δ P ↔ WE a ρ δ fun x δ1 => ∃ c, x = .bool c ∧ if c = true then P (.bool true) δ1 else WE b ρ δ1 P := by
  constructor
  · rintro ⟨d, δ', e, p⟩
    obtain ⟨⟨x, δ1⟩, e1, e⟩ := Option.bind_eq_some_iff.mp e
    dsimp only at e
    split at e
    · cases e; exact ⟨_, _, e1, true, rfl, p⟩
    · exact ⟨_, _, e1, false, rfl, d, δ', e, p⟩
    · cases e
  · rintro ⟨x, δ1, e1, c, rfl, p⟩
    unfold WE mOr
    rw [e1]
    simp only [Option.bind_some]
    cases c with
    | false => exact p
    | true => exact ⟨_, _, rfl, p⟩
theorem we_chain {f g a b c P} : WE (mChain f g a b c) ρ δ P ↔ WE a ρ δ fun x δ1 => WE b ρ δ1 fun y δ2 => W1 (f x y) fun z => ∃ t, z = .bool t ∧ if t = true then WE c ρ δ2 fun w δ3 => W1 (g y w) fun v => P v δ3 else P (.bool false) δ2 := by
  constructor
  · rintro ⟨d, δ', e, p⟩
    obtain ⟨⟨x, δ1⟩, e1, e⟩ := Option.bind_eq_some_iff.mp e
    obtain ⟨⟨y, δ2⟩, e2, e⟩ := Option.bind_eq_some_iff.mp e
    obtain ⟨z, e3, e⟩ := Option.bind_eq_some_iff.mp e
    refine ⟨x, δ1, e1, y, δ2, e2, z, e3, ?_⟩
    dsimp only at e
    split at e
    · obtain ⟨⟨w, δ3⟩, e4, e⟩ := Option.bind_eq_some_iff.mp e
      obtain ⟨v, e5, e⟩ := Option.map_eq_some_iff.mp e
      cases e
      exact ⟨true, rfl, w, _, e4, _, e5, p⟩
    · cases e; exact ⟨false, rfl, p⟩
    · cases e
  · rintro ⟨x, δ1, e1, y, δ2, e2, z, e3, t, rfl, p⟩
    unfold WE mChain
    rw [e1]; simp only [Option.bind_some]; rw [e2]; simp only [Option.bind_some]; rw [e3]; simp only [Option.bind_some]
    cases t with
    | true =>
      obtain ⟨w, δ3, e4, v, e5, p⟩ := p
      rw [e4]; simp only [Option.bind_some]; rw [e5]
      exact ⟨_, _, rfl, p⟩
    | false => exact ⟨_, _, rfl, p⟩
theorem we_get2 {a b c P} : WE (mGet2 a b c) ρ δ P ↔ WE a ρ δ fun x δ1 => WE b ρ δ1 fun y δ2 => WE c ρ δ2 fun w δ3 => W1 (getD2 x y w) fun z => P z δ3 := by
  constructor
  · rintro ⟨d, δ', e, p⟩
    obtain ⟨⟨x, δ1⟩, e1, e⟩ := Option.bind_eq_some_iff.mp e
    obtain ⟨⟨y, δ2⟩, e2, e⟩ := Option.bind_eq_some_iff.mp e
    obtain ⟨⟨h, δ3⟩, e4, e⟩ := Option.bind_eq_some_iff.mp e
    obtain ⟨z, e3, e⟩ := Option.map_eq_some_iff.mp e
    cases e
    exact ⟨x, δ1, e1, y, δ2, e2, h, _, e4, _, e3, p⟩
  · rintro ⟨x, δ1, e1, y, δ2, e2, h, δ3, e4, z, e3, p⟩
    refine ⟨z, δ3, ?_, p⟩
    unfold mGet2
    rw [e1]; simp only [Option.bind_some]; rw [e2]; simp only [Option.bind_some]; rw [e4]; simp only [Option.bind_some]; rw [e3]; rfl
theorem wp_nil {P} : WP pNil ρ δ P ↔ P [] δ := ⟨fun ⟨_, _, h, p⟩ => by cases h; exact p, fun p => ⟨_, _, rfl, p⟩⟩
theorem wp_cons {k v r P} : WP (pCons k v r) ρ δ P ↔ WE k ρ δ fun x δ1 => ∃ kk, keyOf x = some kk ∧ WE v ρ δ1 fun y δ2 => WP r ρ δ2 fun z δ3 => P ((kk, y) :: z) δ3 := by
  constructor
  · rintro ⟨d, δ', e, p⟩
    obtain ⟨⟨x, δ1⟩, e1, e⟩ := Option.bind_eq_some_iff.mp e
    obtain ⟨kk, e2, e⟩ := Option.bind_eq_some_iff.mp e
    obtain ⟨⟨y, δ2⟩, e3, e⟩ := Option.bind_eq_some_iff.mp e
    obtain ⟨⟨z, δ3⟩, e4, e⟩ := Option.map_eq_some_iff.mp e
    cases e
    exact ⟨x, δ1, e1, kk, e2, y, δ2, e3, z, _, e4, p⟩
  · rintro ⟨x, δ1, e1, kk, e2, y, δ2, e3, z, δ3, e4, p⟩
    refine ⟨_, δ3, ?_, p⟩
    unfold pCons
    rw [e1]; simp only [Option.bind_some]; rw [e2]; simp only [Option.bind_some]; rw [e3]; simp only [Option.bind_some]; rw [e4]; rfl
theorem we_disp {m P} : WE (mDisp m) ρ δ P ↔ WP m ρ δ fun es δ1 => (nodupK es ∧ es.length ≤ 15) ∧ P (.dict (es.map fun e => (keyD e.1, e.2))) δ1 := by
  constructor
  · rintro ⟨d, δ', e, p⟩
    obtain ⟨⟨x, δ1⟩, e1, e⟩ := Option.bind_eq_some_iff.mp e
    dsimp only at e
    split at e
    · rename_i hl; cases e; exact ⟨x, _, e1, hl, p⟩
    · cases e
  · rintro ⟨x, δ1, e1, hl, p⟩
    refine ⟨_, δ1, ?_, p⟩
    unfold mDisp
    rw [e1]; simp only [Option.bind_some]; rw [if_pos hl]
theorem wa_items {m P} : WA (mItems m) ρ δ P ↔ WE m ρ δ fun x δ1 => ∃ ds, itemsD x = some ds ∧ P ds δ1 := by
  constructor
  · rintro ⟨d, δ', e, p⟩
    obtain ⟨⟨x, δ1⟩, e1, e⟩ := Option.bind_eq_some_iff.mp e
    obtain ⟨z, e3, e⟩ := Option.map_eq_some_iff.mp e
    cases e
    exact ⟨_, _, e1, _, e3, p⟩
  · rintro ⟨x, δ1, e1, i, e2, p⟩
    exact ⟨_, _, it_eq e1 e2, p⟩
/-- range(j), j at most a million -/
theorem wa_rng {m P} (h : WE m ρ δ fun x δ1 => ∃ j : Nat, x = .int j ∧ j ≤ 1000000 ∧ P (rngL j) δ1) : WA (mRng1 m) ρ δ P := by
  obtain ⟨x, δ1, e, j, rfl, hj, p⟩ := h
  exact ⟨_, _, rng_eq e hj, p⟩
theorem we_lc {mi vs g tt te P} : WE (mLc mi vs g tt te) ρ δ P ↔ WA mi ρ δ fun ds δ1 => noU ρ vs = true ∧ WC g tt te (wipeR ρ vs) ds δ1 fun out δ2 => out.length ≤ sizeLine ∧ P (.list out) δ2 := by
  constructor
  · rintro ⟨d, δ', e, p⟩
    obtain ⟨⟨x, δ1⟩, e1, e⟩ := Option.bind_eq_some_iff.mp e
    dsimp only at e
    split at e
    · rename_i hu
      obtain ⟨⟨out, δ2⟩, e2, e⟩ := Option.bind_eq_some_iff.mp e
      dsimp only at e
      split at e
      · rename_i hz; cases e; exact ⟨x, δ1, e1, hu, out, _, e2, hz, p⟩
      · cases e
    · cases e
  · rintro ⟨x, δ1, e1, hu, out, δ2, e2, hz, p⟩
    exact ⟨_, _, lc_eq e1 hu e2 hz, p⟩
theorem wc_nil {g tt te P} : WC g tt te ρ [] δ P ↔ P [] δ := ⟨fun ⟨_, _, h, p⟩ => by cases h; exact p, fun p => ⟨_, _, rfl, p⟩⟩
theorem wc_cons {g tt te d ds P} : WC g tt te ρ (d :: ds) δ P ↔ WG g d ρ fun ρ2 => WT tt ρ2 δ fun b δ1 => if b = true then WE te ρ2 δ1 fun y δ2 => WC g tt te ρ ds δ2 fun r δ3 => P (y :: r) δ3 else WC g tt te ρ ds δ1 P := by
  constructor
  · rintro ⟨out, δ', e, p⟩
    unfold compL at e
    obtain ⟨ρ2, e1, e⟩ := Option.bind_eq_some_iff.mp e
    obtain ⟨⟨b, δ1⟩, e2, e⟩ := Option.bind_eq_some_iff.mp e
    refine ⟨ρ2, e1, b, δ1, e2, ?_⟩
    dsimp only at e
    split at e
    · obtain ⟨⟨y, δ2⟩, e3, e⟩ := Option.bind_eq_some_iff.mp e
      obtain ⟨⟨r, δ3⟩, e4, e⟩ := Option.map_eq_some_iff.mp e
      cases e
      rw [if_pos (by assumption)]
      exact ⟨y, δ2, e3, r, _, e4, p⟩
    · rw [if_neg (by assumption)]
      exact ⟨_, _, e, p⟩
  · rintro ⟨ρ2, e1, b, δ1, e2, p⟩
    unfold WC compL
    rw [e1]; simp only [Option.bind_some]; rw [e2]; simp only [Option.bind_some]
    split at p
    · rename_i hb
      obtain ⟨y, δ2, e3, r, δ3, e4, p⟩ := p
      rw [if_pos hb, e3]; simp only [Option.bind_some]; rw [e4]
      exact ⟨_, _, rfl, p⟩
    · rename_i hb
      rw [if_neg hb]; exact p
/-- targets -/
theorem wg_set {i : Nat} {d : D} {P} : WG (gSet i) d ρ P ↔ P (ρ.set i (.val d)) := ⟨fun ⟨_, h, p⟩ => by cases h; exact p, fun p => ⟨_, rfl, p⟩⟩
theorem wg_tup {n : Nat} {m d P} : WG (gTupM n m) d ρ P ↔ ∃ ds, d = .tuple ds ∧ ds.length = n ∧ WGs m ds ρ P := by
  constructor
  · rintro ⟨ρ', e, p⟩
    unfold gTupM at e
    split at e
    · split at e
      · rename_i hl; exact ⟨_, rfl, hl, _, e, p⟩
      · cases e
    · cases e
  · rintro ⟨ds, rfl, hl, ρ', e, p⟩
    exact ⟨ρ', by unfold gTupM; simp only; rw [if_pos hl]; exact e, p⟩
theorem wgs_nil {P} : WGs gsNil [] ρ P ↔ P ρ := ⟨fun ⟨_, h, p⟩ => by cases h; exact p, fun p => ⟨_, rfl, p⟩⟩
theorem wgs_cons {m r d ds P} : WGs (gsCons m r) (d :: ds) ρ P ↔ WG m d ρ fun ρ1 => WGs r ds ρ1 P := by
  constructor
  · rintro ⟨ρ', e, p⟩
    obtain ⟨ρ1, e1, e⟩ := Option.bind_eq_some_iff.mp e
    exact ⟨ρ1, e1, ρ', e, p⟩
  · rintro ⟨ρ1, e1, ρ', e, p⟩
    exact ⟨ρ', by unfold gsCons; simp only; rw [e1]; exact e, p⟩
/-- statements -/
theorem ws_next {P} : WS sNext ρ δ P ↔ P .nx ρ δ := ⟨fun ⟨_, _, _, h, p⟩ => by cases h; exact p, fun p => ⟨_, _, _, rfl, p⟩⟩
theorem ws_asg {m g P} : WS (sAsg m g) ρ δ P ↔ WE m ρ δ fun d δ1 => WG g d ρ fun ρ1 => P .nx ρ1 δ1 := by
  constructor
  · rintro ⟨f, ρ', δ', e, p⟩
    obtain ⟨⟨x, δ1⟩, e1, e⟩ := Option.bind_eq_some_iff.mp e
    obtain ⟨ρ1, e2, e⟩ := Option.map_eq_some_iff.mp e
    cases e
    exact ⟨x, _, e1, _, e2, p⟩
  · rintro ⟨x, δ1, e1, ρ1, e2, p⟩
    exact ⟨_, _, _, asg_eq e1 e2, p⟩
theorem ws_ret {m P} : WS (sRet m) ρ δ P ↔ WE m ρ δ fun d δ1 => P (.rt d) ρ δ1 := by
  constructor
  · rintro ⟨f, ρ', δ', e, p⟩
    obtain ⟨⟨x, δ1⟩, e1, e⟩ := Option.map_eq_some_iff.mp e
    cases e
    exact ⟨x, _, e1, p⟩
  · rintro ⟨x, δ1, e1, p⟩
    exact ⟨_, _, _, ret_eq e1, p⟩
theorem ws_if {c a b P} : WS (sIf c a b) ρ δ P ↔ WT c ρ δ fun x δ1 => if x = true then WS a ρ δ1 P else WS b ρ δ1 P := by
  constructor
  · rintro ⟨f, ρ', δ', e, p⟩
    obtain ⟨⟨x, δ1⟩, e1, e⟩ := Option.bind_eq_some_iff.mp e
    dsimp only at e
    refine ⟨x, δ1, e1, ?_⟩
    split at e
    · rw [if_pos (by assumption)]; exact ⟨_, _, _, e, p⟩
    · rw [if_neg (by assumption)]; exact ⟨_, _, _, e, p⟩
  · rintro ⟨x, δ1, e1, p⟩
    unfold WS sIf
    rw [e1]
    simp only [Option.bind_some]
    split at p
    · rw [if_pos (by assumption)]; exact p
    · rw [if_neg (by assumption)]; exact p
def onNx (P : Fl → List Sl → Dk → Prop) (Q : List Sl → Dk → Prop) : Fl → List Sl → Dk → Prop
  | .nx, ρ, δ => Q ρ δ
  | f, ρ, δ => P f ρ δ
theorem onNx_nx {P Q} : onNx P Q .nx ρ δ = Q ρ δ := rfl
theorem onNx_rt {P Q d} : onNx P Q (.rt d) ρ δ = P (.rt d) ρ δ := rfl
theorem onNx_bk {P Q} : onNx P Q .bk ρ δ = P .bk ρ δ := rfl
theorem onNx_ct {P Q} : onNx P Q .ct ρ δ = P .ct ρ δ := rfl
theorem ws_seq {a b P} : WS (sSeq a b) ρ δ P ↔ WS a ρ δ (onNx P fun ρ1 δ1 => WS b ρ1 δ1 P) := by
  constructor
  · rintro ⟨f, ρ', δ', e, p⟩
    obtain ⟨⟨f1, ρ1, δ1⟩, e1, e⟩ := Option.bind_eq_some_iff.mp e
    refine ⟨f1, ρ1, δ1, e1, ?_⟩
    cases f1 with
    | nx => exact ⟨_, _, _, e, p⟩
    | rt d => cases e; exact p
    | bk => cases e; exact p
    | ct => cases e; exact p
  · rintro ⟨f, ρ1, δ1, e1, p⟩
    unfold WS sSeq
    rw [e1]
    simp only [Option.bind_some]
    cases f with
    | nx => exact p
    | rt d => exact ⟨_, _, _, rfl, p⟩
    | bk => exact ⟨_, _, _, rfl, p⟩
    | ct => exact ⟨_, _, _, rfl, p⟩
theorem ws_uni {i r P} : WS (sUni i r) ρ δ P ↔ WA r ρ δ fun ds δ1 => (ds.length ≤ sizeLine ∧ i < ρ.length) ∧ P .nx (ρ.set i (.uni ds)) δ1 := by
  constructor
  · rintro ⟨f, ρ', δ', e, p⟩
    obtain ⟨⟨x, δ1⟩, e1, e⟩ := Option.bind_eq_some_iff.mp e
    dsimp only at e
    split at e
    · rename_i hl; cases e; exact ⟨x, _, e1, hl, p⟩
    · cases e
  · rintro ⟨x, δ1, e1, hl, p⟩
    refine ⟨_, _, _, ?_, p⟩
    unfold sUni
    rw [e1]; simp only [Option.bind_some]; rw [if_pos hl]
theorem ws_app {i m P} : WS (sApp i m) ρ δ P ↔ ∃ ds, ρ[i]? = some (.uni ds) ∧ WE m ρ δ fun d δ1 => ds.length < sizeLine ∧ P .nx (ρ.set i (.uni (ds ++ [d]))) δ1 := by
  constructor
  · rintro ⟨f, ρ', δ', e, p⟩
    unfold sApp at e
    split at e
    · rename_i hi
      obtain ⟨⟨x, δ1⟩, e1, e⟩ := Option.bind_eq_some_iff.mp e
      dsimp only at e
      split at e
      · rename_i hl; cases e; exact ⟨_, hi, x, _, e1, hl, p⟩
      · cases e
    · cases e
  · rintro ⟨ds, hi, x, δ1, e1, hl, p⟩
    refine ⟨_, _, _, ?_, p⟩
    unfold sApp
    rw [hi]; simp only; rw [e1]; simp only [Option.bind_some]; rw [if_pos hl]
theorem ws_frz {i s P} : WS (sFrz i s) ρ δ P ↔ ∃ ds, ρ[i]? = some (.uni ds) ∧ WS s (ρ.set i (.val (.list ds))) δ P := by
  constructor
  · rintro ⟨f, ρ', δ', e, p⟩
    unfold sFrz at e
    split at e
    · rename_i hi; exact ⟨_, hi, _, _, _, e, p⟩
    · cases e
  · rintro ⟨ds, hi, p⟩
    unfold WS sFrz
    rw [hi]; exact p
theorem ws_aug {i f m P} : WS (sAug i f m) ρ δ P ↔ ∃ x, ρ[i]? = some (.val x) ∧ WE m ρ δ fun d δ1 => W1 (f x d) fun z => P .nx (ρ.set i (.val z)) δ1 := by
  constructor
  · rintro ⟨fl, ρ', δ', e, p⟩
    unfold sAug at e
    split at e
    · rename_i hi
      obtain ⟨⟨x, δ1⟩, e1, e⟩ := Option.bind_eq_some_iff.mp e
      obtain ⟨z, e3, e⟩ := Option.map_eq_some_iff.mp e
      cases e
      exact ⟨_, hi, x, _, e1, _, e3, p⟩
    · cases e
  · rintro ⟨x, hi, d, δ1, e1, z, e3, p⟩
    refine ⟨_, _, _, ?_, p⟩
    unfold sAug
    rw [hi]; simp only; rw [e1]; simp only [Option.bind_some]; rw [e3]; rfl
theorem ws_for {mi g s P} : WS (sFor mi g s) ρ δ P ↔ WA mi ρ δ fun ds δ1 => WS (forL g s ds) ρ δ1 P := by
  constructor
  · rintro ⟨f, ρ', δ', e, p⟩
    obtain ⟨⟨x, δ1⟩, e1, e⟩ := Option.bind_eq_some_iff.mp e
    exact ⟨x, δ1, e1, _, _, _, e, p⟩
  · rintro ⟨x, δ1, e1, f, ρ', δ', e, p⟩
    exact ⟨f, ρ', δ', by unfold sFor; rw [e1]; exact e, p⟩
theorem ws_forNil {g s P} : WS (forL g s []) ρ δ P ↔ P .nx ρ δ := ⟨fun ⟨_, _, _, h, p⟩ => by cases h; exact p, fun p => ⟨_, _, _, rfl, p⟩⟩
/-- a for by an invariant of the items that are left -/
theorem ws_forI {g s P} (I : List D → List Sl → Dk → Prop) (hs : ∀ d ds ρ δ, I (d :: ds) ρ δ → WG g d ρ fun ρ1 => WS s ρ1 δ fun f ρ2 δ2 => match f with
    | .nx => I ds ρ2 δ2
    | .ct => I ds ρ2 δ2
    | .bk => P .nx ρ2 δ2
    | .rt d => P (.rt d) ρ2 δ2) (h0 : ∀ ρ δ, I [] ρ δ → P .nx ρ δ) : ∀ (ds : List D) (ρ : List Sl) (δ : Dk), I ds ρ δ → WS (forL g s ds) ρ δ P
  | [], ρ, δ, h => ⟨_, _, _, rfl, h0 _ _ h⟩
  | d :: ds, ρ, δ, h => by
    obtain ⟨ρ1, e1, f, ρ2, δ2, e2, p⟩ := hs d ds ρ δ h
    unfold WS forL
    rw [e1]; simp only [Option.bind_some]; rw [e2]; simp only [Option.bind_some]
    cases f with
    | nx => exact ws_forI I hs h0 ds ρ2 δ2 p
    | ct => exact ws_forI I hs h0 ds ρ2 δ2 p
    | bk => exact ⟨_, _, _, rfl, p⟩
    | rt d => exact ⟨_, _, _, rfl, p⟩
/-- a comprehension by an invariant: what is left, what is out, the deck -/
theorem wc_inv {g tt te} {ρ : List Sl} {P : List D → Dk → Prop} (I : List D → List D → Dk → Prop) (hs : ∀ d ds out δ, I (d :: ds) out δ → WG g d ρ fun ρ2 => WT tt ρ2 δ fun b δ1 => if b = true then WE te ρ2 δ1 fun y δ2 => I ds (out ++ [y]) δ2 else I ds out δ1)
    (h0 : ∀ out δ, I [] out δ → P out δ) : ∀ (ds out : List D) (δ : Dk), I ds out δ → WC g tt te ρ ds δ fun r δ' => P (out ++ r) δ'
  | [], out, δ, h => ⟨_, _, rfl, by dsimp only; rw [List.append_nil]; exact h0 _ _ h⟩
  | d :: ds, out, δ, h => by
    refine wc_cons.mpr ?_
    obtain ⟨ρ2, e1, b, δ1, e2, p⟩ := hs d ds out δ h
    refine ⟨ρ2, e1, b, δ1, e2, ?_⟩
    split at p
    · rw [if_pos (by assumption)]
      obtain ⟨y, δ2, e3, p⟩ := p
      obtain ⟨r, δ3, e4, p4⟩ := wc_inv I hs h0 ds (out ++ [y]) δ2 p
      exact ⟨y, δ2, e3, r, δ3, e4, by rw [List.append_assoc] at p4; exact p4⟩
    · rw [if_neg (by assumption)]
      exact wc_inv I hs h0 ds out δ1 p
/-- a comprehension without ifs that draws -/
theorem wc_draw {g te} {ρ : List Sl} {P : List D → Dk → Prop} (I : Nat → Dk → Prop) (R : D → Prop) (ds : List D) {δ : Dk} (h0 : I 0 δ) (hs : ∀ d ∈ ds, ∀ k δ, k < ds.length → I k δ → WG g d ρ fun ρ2 => WE te ρ2 δ fun y δ2 => R y ∧ I (k + 1) δ2)
    (hp : ∀ out δ, out.length = ds.length → (∀ y ∈ out, R y) → I ds.length δ → P out δ) : WC g mYes te ρ ds δ P := by
  have := wc_inv (g := g) (tt := mYes) (te := te) (ρ := ρ) (P := P) (fun left out δ => (∃ done, done ++ left = ds ∧ done.length = out.length) ∧ (∀ y ∈ out, R y) ∧ I out.length δ) (fun d left out δ h => ?_) (fun out δ h => ?_) ds [] δ ⟨⟨[], rfl, rfl⟩, fun y hy => by simp at hy, h0⟩
  · simpa using this
  · obtain ⟨⟨done, e, hl⟩, hr, hi⟩ := h
    obtain ⟨ρ2, e1, y, δ2, e2, r, i2⟩ := hs d (by rw [← e]; simp) out.length δ (by rw [← e]; simp; omega) hi
    refine ⟨ρ2, e1, true, δ, rfl, ?_⟩
    dsimp only
    rw [if_pos rfl]
    refine ⟨y, δ2, e2, ⟨done ++ [d], by simp [← e], by simp [hl]⟩, fun z hz => ?_, by simpa using i2⟩
    rcases List.mem_append.mp hz with hz | hz
    · exact hr z hz
    · simp at hz; rw [hz]; exact r
  · obtain ⟨⟨done, e, hl⟩, hr, hi⟩ := h
    have : out.length = ds.length := by rw [← hl, ← e]; simp
    exact hp out δ this hr (by rw [← this]; exact hi)
/-- a comprehension that neither draws nor stops -/
theorem wc_map {α : Type} {g te} {ρ : List Sl} {P : List D → Dk → Prop} (enc f : α → D) (xs : List α) (hs : ∀ x ∈ xs, WG g (enc x) ρ fun ρ2 => WE te ρ2 δ fun y δ2 => y = f x ∧ δ2 = δ) (hp : P (xs.map f) δ) : WC g mYes te ρ (xs.map enc) δ P :=
  ⟨_, _, compL_map enc f xs fun x hx => by obtain ⟨ρ2, e1, y, δ2, e2, rfl, rfl⟩ := hs x hx; exact ⟨ρ2, e1, e2⟩, hp⟩
theorem wc_filter {α : Type} {g tt te} {ρ : List Sl} {P : List D → Dk → Prop} (enc : α → D) (p : α → Bool) (f : α → D) (xs : List α) (hs : ∀ x ∈ xs, WG g (enc x) ρ fun ρ2 => WT tt ρ2 δ fun b δ1 => (b = p x ∧ δ1 = δ) ∧ (p x = true → WE te ρ2 δ fun y δ2 => y = f x ∧ δ2 = δ)) (hp : P ((xs.filter p).map f) δ) : WC g tt te ρ (xs.map enc) δ P :=
  ⟨_, _, compL_filter enc p f xs fun x hx => by
    obtain ⟨ρ2, e1, b, δ1, e2, ⟨rfl, rfl⟩, h⟩ := hs x hx
    refine ⟨ρ2, e1, e2, fun hq => ?_⟩
    obtain ⟨y, δ2, e3, rfl, rfl⟩ := h hq
    exact e3, hp⟩
theorem ws_whileF {c s n P} (h : WT c ρ δ fun b δ1 => b = false ∧ P .nx ρ δ1) : WS (whileL c s (n + 1)) ρ δ P := by
  obtain ⟨b, δ1, e, rfl, p⟩ := h
  refine ⟨_, _, _, ?_, p⟩
  rw [whileL]; simp [e]
theorem ws_while {c s n P} : WS (whileL c s (n + 1)) ρ δ P ↔ WT c ρ δ fun b δ1 => if b = true then WS s ρ δ1 fun f ρ2 δ2 => match f with
    | .nx => WS (whileL c s n) ρ2 δ2 P
    | .ct => WS (whileL c s n) ρ2 δ2 P
    | .bk => P .nx ρ2 δ2
    | .rt d => P (.rt d) ρ2 δ2 else P .nx ρ δ1 := by
  constructor
  · rintro ⟨f, ρ', δ', e, p⟩
    rw [whileL] at e
    obtain ⟨⟨b, δ1⟩, e1, e⟩ := Option.bind_eq_some_iff.mp e
    refine ⟨b, δ1, e1, ?_⟩
    dsimp only at e
    split at e
    · rw [if_pos (by assumption)]
      obtain ⟨⟨f1, ρ2, δ2⟩, e2, e⟩ := Option.bind_eq_some_iff.mp e
      refine ⟨f1, ρ2, δ2, e2, ?_⟩
      cases f1 with
      | nx => exact ⟨_, _, _, e, p⟩
      | ct => exact ⟨_, _, _, e, p⟩
      | bk => cases e; exact p
      | rt d => cases e; exact p
    · rw [if_neg (by assumption)]; cases e; exact p
  · rintro ⟨b, δ1, e1, p⟩
    unfold WS
    rw [whileL]
    simp only [e1, Option.bind_some]
    split at p
    · rename_i hb
      obtain ⟨f1, ρ2, δ2, e2, p⟩ := p
      rw [if_pos hb, e2]
      cases f1 with
      | nx => exact p
      | ct => exact p
      | bk => exact ⟨_, _, _, rfl, p⟩
      | rt d => exact ⟨_, _, _, rfl, p⟩
    · rename_i hb
      rw [if_neg hb]; exact ⟨_, _, _, rfl, p⟩
end
/-- defs -/
def onRt (P : D → Dk → Prop) : Fl → List Sl → Dk → Prop
  | .rt d, _, δ => P d δ
  | .nx, _, δ => P .none δ
  | _, _, _ => False
theorem onRt_rt {P d ρ δ} : onRt P (.rt d) ρ δ = P d δ := rfl
theorem onRt_nx {P ρ δ} : onRt P .nx ρ δ = P .none δ := rfl
theorem w1_fnP {n np : Nat} {s : MS} {ds : List D} {P : D → Prop} (h : WS s (slots n (ds.map .val)) ⟨[], 0, [], none⟩ (onRt fun d _ => P d)) (hl : ds.length = np ∧ np ≤ n := by exact ⟨rfl, by decide⟩) : W1 (fnP n np s ds) P := by
  obtain ⟨f, ρ', δ', e, p⟩ := h
  unfold W1 fnP
  rw [if_pos hl, e]
  cases f with
  | rt d => exact ⟨_, rfl, p⟩
  | nx => exact ⟨_, rfl, p⟩
  | bk => exact p.elim
  | ct => exact p.elim
theorem wk_fnK {n np : Nat} {s : MS} {ds : List D} {δ : Dk} {P : D → Dk → Prop} (h : WS s (slots n (.deck :: ds.map .val)) δ (onRt P)) (hl : ds.length + 1 = np ∧ np ≤ n := by exact ⟨rfl, by decide⟩) : WK (fnK n np s) ds δ P := by
  obtain ⟨f, ρ', δ', e, p⟩ := h
  unfold WK fnK
  rw [if_pos hl, e]
  cases f with
  | rt d => exact ⟨_, _, rfl, p⟩
  | nx => exact ⟨_, _, rfl, p⟩
  | bk => exact p.elim
  | ct => exact p.elim
theorem WS.rt {s ρ δ} {z : D} (h : WS s ρ δ fun f _ _ => f = .rt z) : ∃ ρ' δ', s ρ δ = some (.rt z, ρ', δ') := by
  obtain ⟨f, ρ', δ', e, rfl⟩ := h
  exact ⟨_, _, e⟩
/-! operators -/
section
variable {P : D → Prop} {i j : Int}
theorem w_add : W1 (addD (.int i) (.int j)) P ↔ P (.int (i + j)) := ⟨fun ⟨_, h, p⟩ => by cases h; exact p, fun p => ⟨_, rfl, p⟩⟩
theorem w_sub : W1 (subD (.int i) (.int j)) P ↔ P (.int (i - j)) := ⟨fun ⟨_, h, p⟩ => by cases h; exact p, fun p => ⟨_, rfl, p⟩⟩
theorem w_lt : W1 (ltD (.int i) (.int j)) P ↔ P (.bool (decide (i < j))) := ⟨fun ⟨_, h, p⟩ => by cases h; exact p, fun p => ⟨_, rfl, p⟩⟩
theorem w_le : W1 (leD (.int i) (.int j)) P ↔ P (.bool (decide (i ≤ j))) := ⟨fun ⟨_, h, p⟩ => by cases h; exact p, fun p => ⟨_, rfl, p⟩⟩
theorem w_gt : W1 (gtD (.int i) (.int j)) P ↔ P (.bool (decide (j < i))) := ⟨fun ⟨_, h, p⟩ => by cases h; exact p, fun p => ⟨_, rfl, p⟩⟩
theorem w_ge : W1 (geD (.int i) (.int j)) P ↔ P (.bool (decide (j ≤ i))) := ⟨fun ⟨_, h, p⟩ => by cases h; exact p, fun p => ⟨_, rfl, p⟩⟩
theorem w_eqI : W1 (eqD (.int i) (.int j)) P ↔ P (.bool (decide (i = j))) := by unfold W1; rw [eqD_int]; simp
theorem neD_int (i j : Int) : neD (.int i) (.int j) = some (.bool (!decide (i = j))) := by
  show some (PyData.bool (!(i == j))) = _
  rw [Bool.eq_iff_iff.mpr (by simp : (i == j) = true ↔ decide (i = j) = true)]
theorem w_neI : W1 (neD (.int i) (.int j)) P ↔ P (.bool (!decide (i = j))) := by unfold W1; rw [neD_int]; simp
theorem w_mod (h : 0 < j) : W1 (modD (.int i) (.int j)) P ↔ P (.int (i % j)) := by unfold W1; rw [modD_int h]; simp
theorem w_fdiv (h : 0 < j) (h' : j.natAbs.log2 < 9000) : W1 (fdivD (.int i) (.int j)) P ↔ P (.int (i / j)) := by unfold W1; rw [fdivD_int h h']; simp
theorem w_addS {x y : Str} (h : x.length + y.length ≤ sizeLine) : W1 (addD (.str x) (.str y)) P ↔ P (.str (x ++ y)) := by unfold W1; rw [addD_str h]; simp
theorem w_intB {b : Bool} : W1 (intD [.bool b]) P ↔ P (.int (if b then 1 else 0)) := by
  unfold W1 intD; simp
end
end PD

namespace PD
open PySem PySem.Spec PyProof.Rows L2 TL
local macro_rules | `(tactic| walk_at "wp") => `(tactic| simp only [ws_seq, ws_asg, ws_ret, ws_if, ws_next, ws_uni, ws_app, ws_frz, ws_aug, ws_for, onNx_nx, onNx_rt, onNx_bk, onNx_ct, onRt_rt, onRt_nx, we_var, we_c, we_bin, we_un, we_call, we_callK, wa_nil, wa_cons, we_tup, we_lst, wo_no, wo_some, we_sl, wt_b, wt_tru, wt_and, wt_or, wt_not, we_if, we_and, we_or, we_chain, we_get2, wp_nil, wp_cons, we_disp, wa_items, we_lc, wg_set, wg_tup, wgs_nil, wgs_cons, List.getElem?_cons_zero, List.getElem?_cons_succ, Option.some.injEq, Sl.val.injEq, Sl.uni.injEq, exists_eq_left', exists_eq_left, List.set_cons_zero, List.set_cons_succ, true_and, and_true, List.length_cons, List.length_nil, List.map_cons, List.map_nil, PyData.int.injEq, PyData.bool.injEq, PyData.tuple.injEq, PyData.list.injEq, PyData.str.injEq, w_add, w_sub, w_lt, w_le, w_gt, w_ge, w_eqI, w_neI, w_intB, itemsD, truD, slots, List.cons_append, List.nil_append, Nat.reduceAdd, Nat.reduceSub, List.replicate_succ, List.replicate_zero, ↓reduceIte, Bool.false_eq_true, Bool.not_true, Bool.not_false, decide_true, decide_false, if_true, if_false])
theorem ixN_in {n : Nat} {i : Int} (h0 : 0 ≤ i) (h1 : i < n) : ixN n i = some i.toNat := by
  unfold ixN
  rw [if_pos h0, if_pos h1]
theorem atI_in {α : Type} {xs : List α} {i : Int} (h0 : 0 ≤ i) (h1 : i < xs.length) : ∃ x, atI xs i = some x ∧ xs[i.toNat]? = some x ∧ x ∈ xs := by
  have hl : i.toNat < xs.length := by omega
  refine ⟨xs[i.toNat], ?_, List.getElem?_eq_getElem hl, List.getElem_mem hl⟩
  unfold atI
  rw [ixN_in h0 h1]
  exact List.getElem?_eq_getElem hl
theorem log_ok {many : Int} (h0 : 0 < many) (h1 : many ≤ 10000000000000) : many.natAbs.log2 < 9000 := by
  have h2 : many.natAbs < 2 ^ 64 := Nat.lt_of_le_of_lt (show many.natAbs ≤ 10000000000000 by omega) (by decide)
  exact Nat.lt_of_lt_of_le (PySem.Flt.log2_lt_of (by decide) h2) (by decide)
/-! ### picks -/
theorem w_ixL {ds : List D} {i : Int} {P : D → Prop} (h0 : 0 ≤ i) (h1 : i < ds.length) (p : ∀ d ∈ ds, P d) : W1 (subD' (.list ds) (.int i)) P := by
  obtain ⟨x, e, _, hx⟩ := atI_in h0 h1
  exact ⟨x, ix_lst ds i e, p x hx⟩
theorem w_ixLn {ds : List D} {i : Int} {P : D → Prop} (h0 : 0 ≤ i) (h1 : i < ds.length) (p : ∀ d, ds[i.toNat]? = some d → P d) : W1 (subD' (.list ds) (.int i)) P := by
  obtain ⟨x, e, e2, hx⟩ := atI_in h0 h1
  exact ⟨x, ix_lst ds i e, p x e2⟩
theorem w_ixTn {ds : List D} {i : Int} {P : D → Prop} (h0 : 0 ≤ i) (h1 : i < ds.length) (p : ∀ d, ds[i.toNat]? = some d → P d) : W1 (subD' (.tuple ds) (.int i)) P := by
  obtain ⟨x, e, e2, hx⟩ := atI_in h0 h1
  exact ⟨x, ix_tupl ds i e, p x e2⟩
def ch (c : Nat) : Str := ⟨#[c]⟩
theorem w_ixS {x : Str} {i : Int} {P : D → Prop} (hz : x.length ≤ sizeLine) (h0 : 0 ≤ i) (h1 : i < x.length) (p : ∀ c, (tl x)[i.toNat]? = some c → P (.str (ch c))) : W1 (subD' (.str x) (.int i)) P := by
  rw [len_tl] at h1
  obtain ⟨c, e, e2, _⟩ := atI_in (xs := tl x) h0 h1
  refine ⟨_, ?_, p c e2⟩
  show (Option.orElse (if x.length ≤ sizeLine then (atI x.cps.toList i).map fun c => PyData.str ⟨#[c]⟩ else none) _) = _
  rw [if_pos hz, e]; rfl
theorem tl_empty : tl Str.empty = [] := rfl
theorem tl_nil : tl (Str.ofString "") = [] := by decide +kernel
theorem tl_ch (c : Nat) : tl (ch c) = [c] := rfl
theorem ch_inj {a b : Nat} (h : ch a = ch b) : a = b := by
  have := congrArg tl h
  simpa [tl_ch] using this
theorem sizeBig : (1000000 : Nat) ≤ sizeLine := by decide
end PD

namespace PD
open PySem PySem.Spec PyProof.Rows L2 TL
local macro_rules | `(tactic| walk_at "wp") => `(tactic| simp only [ws_seq, ws_asg, ws_ret, ws_if, ws_next, ws_uni, ws_app, ws_frz, ws_aug, ws_for, onNx_nx, onNx_rt, onNx_bk, onNx_ct, onRt_rt, onRt_nx, we_var, we_c, we_bin, we_un, we_call, we_callK, wa_nil, wa_cons, we_tup, we_lst, wo_no, wo_some, we_sl, wt_b, wt_tru, wt_and, wt_or, wt_not, we_if, we_and, we_or, we_chain, we_get2, wp_nil, wp_cons, we_disp, wa_items, we_lc, wg_set, wg_tup, wgs_nil, wgs_cons, List.getElem?_cons_zero, List.getElem?_cons_succ, Option.some.injEq, Sl.val.injEq, Sl.uni.injEq, exists_eq_left', exists_eq_left, List.set_cons_zero, List.set_cons_succ, true_and, and_true, List.length_cons, List.length_nil, List.map_cons, List.map_nil, PyData.int.injEq, PyData.bool.injEq, PyData.tuple.injEq, PyData.list.injEq, PyData.str.injEq, w_add, w_sub, w_lt, w_le, w_gt, w_ge, w_eqI, w_neI, w_intB, itemsD, truD, slots, List.cons_append, List.nil_append, Nat.reduceAdd, Nat.reduceSub, List.replicate_succ, List.replicate_zero, ↓reduceIte, Bool.false_eq_true, Bool.not_true, Bool.not_false, decide_true, decide_false, if_true, if_false])
/-! ### figures of a number -/
def figL (l : Nat) (x : List Nat) (least : Nat) : List Nat := let base := (if l = 0 then [] else numL l) ++ x; List.replicate (least - base.length) 48 ++ base
theorem figL_end {x : List Nat} {least : Nat} (h : least ≤ x.length) : figL 0 x least = x := by
  unfold figL
  simp only [if_true, List.nil_append]
  rw [Nat.sub_eq_zero_of_le h]; rfl
theorem figL_step {l : Nat} {x : List Nat} {least : Nat} (h : 0 < l ∨ x.length < least) : figL l x least = figL (l / 10) ((48 + l % 10) :: x) least := by
  have key : (if l = 0 then [] else numL l) ++ x = (if l / 10 = 0 then [] else numL (l / 10)) ++ ((48 + l % 10) :: x) ∨ (l = 0 ∧ x.length < least) := by
    rcases Nat.eq_zero_or_pos l with h0 | h0
    · exact .inr ⟨h0, by omega⟩
    · left
      rw [if_neg (by omega)]
      by_cases h10 : l < 10
      · rw [numL_lt h10, Nat.div_eq_of_lt h10, if_pos rfl, Nat.mod_eq_of_lt h10]; rfl
      · rw [numL_step (by omega), if_neg (by omega)]; simp
  rcases key with key | ⟨rfl, hx⟩
  · unfold figL; rw [key]
  · unfold figL
    simp only [if_true, List.nil_append, Nat.zero_div, Nat.zero_mod, Nat.add_zero, List.length_cons]
    obtain ⟨k, hk⟩ : ∃ k, least - x.length = k + 1 := ⟨least - x.length - 1, by omega⟩
    rw [hk, show least - (x.length + 1) = k by omega, List.replicate_succ']
    simp
def F (n least : Nat) : Str := ⟨(List.replicate (least - (numL n).length) 48 ++ numL n).toArray⟩
theorem tl_F (n least : Nat) : tl (F n least) = List.replicate (least - (numL n).length) 48 ++ numL n := rfl
theorem numL_zero : numL 0 = [48] := numL_lt (by decide)
theorem figL_F {n least : Nat} (h : 1 ≤ least) : figL n [] least = tl (F n least) := by
  rw [tl_F]
  unfold figL
  by_cases h0 : n = 0
  · subst h0
    rw [numL_zero]
    simp only [if_true, List.append_nil, List.length_nil, Nat.sub_zero, List.length_cons, Nat.zero_add]
    obtain ⟨k, rfl⟩ : ∃ k, least = k + 1 := ⟨least - 1, by omega⟩
    rw [Nat.add_sub_cancel, List.replicate_succ']
  · simp only [if_neg h0, List.append_nil]
theorem F_len {n k least : Nat} (hk : 0 < k) (h : n < 10 ^ k) (hl : least ≤ k) : (tl (F n least)).length ≤ k := by
  rw [tl_F, List.length_append, List.length_replicate]
  have := numL_len hk h
  omega
theorem F_lt {n least c : Nat} (h : c ∈ tl (F n least)) : 48 ≤ c ∧ c ≤ 57 := by
  rw [tl_F] at h
  rcases List.mem_append.mp h with h | h
  · rw [List.mem_replicate] at h; omega
  · by_cases hc : c < 48 ∨ 57 < c
    · exact absurd h (numL_free hc)
    · omega
def figs : Str := "0123456789"
theorem figs_at {k : Nat} {c : Nat} (hk : k < 10) (h : (tl figs)[k]? = some c) : c = 48 + k := by
  have : ∀ k < 10, (tl figs)[k]? = some (48 + k) := by decide +kernel
  rw [this k hk] at h
  exact (Option.some.inj h).symm
theorem figs_len : figs.length = 10 := by decide +kernel
/-- the law's own figures -/
def mFig (k : Nat) : MS := (sSeq (sAsg (mC (.str "")) (gSet 2))
  (sSeq (sAsg (mVar 0) (gSet 3))
  (sSeq (whileL (tOrM (mB (mBin gtD (mVar 3) (mC (.int 0)))) (mB (mBin ltD (mCall lenD (mCons (mVar 2) mNil)) (mVar 1)))) (sSeq (sAsg (mBin addD (mBin subD' (mC (.str "0123456789")) (mBin modD (mVar 3) (mC (.int 10)))) (mVar 2)) (gSet 2))
  (sAsg (mBin fdivD (mVar 3) (mC (.int 10))) (gSet 3))) k)
  (sRet (mVar 2)))))
theorem w_lenS {x : Str} {P : D → Prop} (h : x.length ≤ sizeLine) : W1 (lenD [.str x]) P ↔ P (.int x.length) := by
  unfold W1 lenD
  simp only [if_pos h, Option.some.injEq, exists_eq_left']
theorem w_lenL {x : List D} {P : D → Prop} : W1 (lenD [.list x]) P ↔ P (.int x.length) := by
  unfold W1 lenD
  simp only [Option.some.injEq, exists_eq_left']
theorem w_lenT {x : List D} {P : D → Prop} : W1 (lenD [.tuple x]) P ↔ P (.int x.length) := by
  unfold W1 lenD
  simp only [Option.some.injEq, exists_eq_left']
theorem ws_whileT {c : MT} {s : MS} {n : Nat} {ρ : List Sl} {δ : Dk} {P : Fl → List Sl → Dk → Prop} (h : WT c ρ δ fun b δ1 => b = true ∧ δ1 = δ) (hs : WS s ρ δ fun f ρ2 δ2 => f = .nx ∧ WS (whileL c s n) ρ2 δ2 P) : WS (whileL c s (n + 1)) ρ δ P := by
  obtain ⟨b, δ1, e, rfl, rfl⟩ := h
  obtain ⟨f, ρ2, δ2, e2, rfl, p⟩ := hs
  refine ws_while.mpr ⟨true, _, e, ?_⟩
  dsimp only
  rw [if_pos rfl]
  exact ⟨.nx, ρ2, δ2, e2, p⟩
def cFig : MT := tOrM (mB (mBin gtD (mVar 3) (mC (.int 0)))) (mB (mBin ltD (mCall lenD (mCons (mVar 2) mNil)) (mVar 1)))
def bFig : MS := sSeq (sAsg (mBin addD (mBin subD' (mC (.str "0123456789")) (mBin modD (mVar 3) (mC (.int 10)))) (mVar 2)) (gSet 2)) (sAsg (mBin fdivD (mVar 3) (mC (.int 10))) (gSet 3))
theorem fig_loop (n least : Nat) (hleast : least ≤ 1000) : ∀ (k a l : Nat) (x : Str) (δ : Dk), l < 10 ^ a → a ≤ 1000 → (tl x).length + a ≤ 2000 → a + (least - (tl x).length) < k →
    WS (whileL cFig bFig k) [.val (.int n), .val (.int least), .val (.str x), .val (.int l)] δ fun f ρ' δ' => f = .nx ∧ ∃ z l', ρ' = [.val (.int n), .val (.int least), .val (.str z), .val (.int l')] ∧ tl z = figL l (tl x) least
  | 0, a, l, x, δ, _, _, _, h => by omega
  | k + 1, a, l, x, δ, hl, ha, hx, h => by
    have sb := sizeBig
    have hxs : x.length ≤ sizeLine := by rw [len_tl]; omega
    have cond : WT cFig [.val (.int n), .val (.int least), .val (.str x), .val (.int l)] δ fun b δ1 => b = decide (0 < l ∨ (tl x).length < least) ∧ δ1 = δ := by
      unfold cFig
      walk_at "wp"
      by_cases h0 : 0 < l
      · have h0' : (0 : Int) < (l : Int) := by omega
        simp only [h0, h0', decide_true, if_true, true_or, and_self]
      · have h0' : ¬ (0 : Int) < (l : Int) := by omega
        simp only [h0, h0', decide_false, Bool.false_eq_true, if_false, w_lenS hxs, w_lt, PyData.bool.injEq, exists_eq_left', false_or, and_true]
        rw [len_tl]
        exact decide_eq_decide.mpr (by omega)
    by_cases hc : 0 < l ∨ (tl x).length < least
    · rw [decide_eq_true hc] at cond
      refine ws_whileT cond ?_
      unfold bFig
      walk_at "wp"
      rw [w_mod (by decide)]
      refine w_ixS (x := figs) (by rw [figs_len]; omega) (by omega) (by rw [figs_len]; omega) fun c ec => ?_
      have ec2 := figs_at (by omega) ec
      rw [w_addS (by rw [len_tl, tl_ch, len_tl]; simp only [List.length_cons, List.length_nil]; omega)]
      rw [w_fdiv (by decide) (by decide)]
      have et : tl (ch c ++ x) = (48 + l % 10) :: tl x := by
        rw [tl_append, tl_ch, ec2, show ((l : Int) % 10).toNat = l % 10 by omega]; rfl
      have z0 : a = 0 → l = 0 := fun h0 => by subst h0; simp at hl; exact hl
      have := fig_loop n least hleast k (a - 1) (l / 10) (ch c ++ x) δ (by
        rcases Nat.eq_zero_or_pos a with h0 | h0
        · rw [z0 h0]; exact Nat.pow_pos (by decide)
        · obtain ⟨b, rfl⟩ : ∃ b, a = b + 1 := ⟨a - 1, by omega⟩
          rw [Nat.add_sub_cancel]
          rw [Nat.pow_succ] at hl
          omega) (by omega) (by rw [et, List.length_cons]; rcases Nat.eq_zero_or_pos a with h0 | h0
                                · have := z0 h0; omega
                                · omega) (by
        rw [et, List.length_cons]
        rcases Nat.eq_zero_or_pos a with h0 | h0
        · have := z0 h0; omega
        · omega)
      rw [et, ← figL_step hc] at this
      rw [show ((l : Int) / 10) = ((l / 10 : Nat) : Int) by omega]
      exact this
    · rw [decide_eq_false hc] at cond
      refine ws_whileF (cond.mono fun b δ1 hb => ⟨hb.1, rfl, x, l, rfl, ?_⟩)
      have hl0 : l = 0 := by omega
      subst hl0
      rw [figL_end (by omega)]
theorem fig_eq {n least : Nat} (hn : n < 10 ^ 20) (h1 : 1 ≤ least) (h2 : least ≤ 20) : fnP 4 2 (mFig 100000) [.int n, .int least] = some (.str (F n least)) := by
  have : W1 (fnP 4 2 (mFig 100000) [.int n, .int least]) fun z => z = .str (F n least) := by
    refine w1_fnP ?_
    unfold mFig
    walk_at "wp"
    refine (fig_loop n least (by omega) 100000 20 n (Str.ofString "") _ hn (by omega) (by rw [tl_nil]; decide) (by rw [tl_nil, List.length_nil]; omega)).mono fun f ρ' δ' h => ?_
    obtain ⟨rfl, z, l', rfl, hz⟩ := h
    walk_at "wp"
    rw [tl_nil, figL_F h1] at hz
    exact ext_tl hz
  obtain ⟨z, e, rfl⟩ := this
  exact e
/-! str(n) and zfill -/
theorem w_str {n : Nat} {P : D → Prop} (hn : n < 10 ^ 20) : W1 (strD [.int n]) P ↔ P (.str (F n 1)) := by
  have hlog : ((n : Int)).natAbs.log2 < 1920 := by
    have : (n : Int).natAbs < 2 ^ 70 := by
      rw [Int.natAbs_natCast]
      exact Nat.lt_trans hn (by decide)
    exact Nat.lt_of_lt_of_le (PySem.Flt.log2_lt_of (by decide) this) (by decide)
  have e : (Str.ofString (toString (n : Int))) = F n 1 := ext_tl (by
    rw [tl_num, tl_F]
    have : 1 ≤ (numL n).length := by
      have := numL_ne n
      cases h : numL n with
      | nil => exact absurd h this
      | cons a b => simp
    rw [Nat.sub_eq_zero_of_le this]; rfl)
  unfold W1 strD
  simp only [if_pos hlog, Option.some.injEq, exists_eq_left']
  rw [e]
theorem tl_padded (x : Str) (k : Nat) : tl (Builtin.Str.padded x k 0 48) = List.replicate k 48 ++ tl x := by
  unfold Builtin.Str.padded tl
  simp
theorem zfill_F {n : Nat} {least : Int} (h0 : 0 ≤ least) : Txt.zfill (F n 1) least = F n (max 1 least.toNat) := by
  have h1 : 1 ≤ (numL n).length := by
    have := numL_ne n
    cases h : numL n with
    | nil => exact absurd h this
    | cons a b => simp
  have e1 : tl (F n 1) = numL n := by rw [tl_F, Nat.sub_eq_zero_of_le h1]; rfl
  unfold Txt.zfill
  split
  · rename_i hl
    rw [len_tl, e1] at hl
    refine ext_tl ?_
    rw [e1, tl_F, Nat.sub_eq_zero_of_le (by omega)]; rfl
  · rename_i hl
    rw [len_tl, e1] at hl
    have hz : zfilled (F n 1) (least.toNat - (F n 1).length) = Builtin.Str.padded (F n 1) (least.toNat - (F n 1).length) 0 48 := by
      unfold zfilled
      split
      · rename_i h43
        have : (43 : Nat) ∈ tl (F n 1) := by
          rw [← Array.getElem?_toList] at h43
          exact List.mem_of_getElem? h43
        have := F_lt this
        omega
      · rename_i h43
        have : (45 : Nat) ∈ tl (F n 1) := by
          rw [← Array.getElem?_toList] at h43
          exact List.mem_of_getElem? h43
        have := F_lt this
        omega
      · rfl
    rw [hz]
    refine ext_tl ?_
    rw [tl_padded, len_tl, e1, tl_F, show max 1 least.toNat = least.toNat by omega]
theorem w_zfill {n : Nat} {least : Int} {P : D → Prop} (h0 : 1 ≤ least) (h1 : least ≤ 20) : W1 (zfillD (.str (F n 1)) (.int least)) P ↔ P (.str (F n least.toNat)) := by
  have hp : PadOk least = true := by
    obtain ⟨k, rfl⟩ := Int.eq_ofNat_of_zero_le (show 0 ≤ least by omega)
    have : ∀ k : Nat, k < 21 → PadOk (Int.ofNat k) = true := by decide +kernel
    exact this k (by omega)
  unfold W1 zfillD
  simp only [if_pos hp, Option.some.injEq, exists_eq_left']
  rw [zfill_F (by omega), show max 1 least.toNat = least.toNat by omega]
end PD

namespace PD
open PySem PySem.Spec PyProof.Rows L2
/-! ### defs with defaults -/
section
variable {P : Program} {w : World} {K : PySem.W.Frag} {mg : Str → Option Value} {base : Heap}
theorem okPD {x qual : Str} {st : Stmt} {f : Addr} {fd : FuncData} {N ps : List Str} {k : Nat} {s : MS} {dvs : List V} (F : FunD K x qual (defArgs st) (defBody st) (defScope st) dvs [] f fd) (S : FnScope N ps (defScope st)) (hn : ps.length ≤ N.length)
    (hb : ∀ (cdv : Value) (A : Around) (outer : List Env) (s0 : Shared) (H : Hp) (E : XK), Room k (A.deeper (envOfC qual (defScope st) s0.heap.objs.size f cdv)) → PDSs (cxOf CX0 P w K mg base N qual (defScope st) f cdv A outer s0 H E).nox (defBody st) s) :
    FnOk P w K mg base CX0 (k + 1) f fd ps (spP K (fnP N.length ps.length s)) := by
  refine F.ok S (fun vs H Q E h => ?_) (fun cdv A outer s0 H vs Q E hr h => ?_)
  · obtain ⟨M, ds, r, hM, R, hm, q⟩ := h
    unfold fnP at hm
    split at hm
    · rename_i hz; rw [R.length]; exact hz.1
    · cases hm
  · obtain ⟨M, ds, r, hM, R, hm, q⟩ := h
    unfold fnP at hm
    split at hm
    · rename_i hz
      obtain ⟨t, p1, s1⟩ := (hb cdv A outer s0 H E hr).ex
      refine ⟨t, p1.nox, ?_⟩
      obtain ⟨⟨r', δ'⟩, e1, e2⟩ := Option.map_eq_some_iff.mp hm
      cases e2
      generalize hres : s (slots N.length (ds.map Sl.val)) ⟨[], 0, [], none⟩ = res at e1
      have nun : ∀ (i : Nat) es, (slots N.length (ds.map Sl.val))[i]? ≠ some (.own es) := fun i es h => by
        rcases slots_get h with h | h
        · rw [List.getElem?_map] at h
          obtain ⟨d, _, h⟩ := Option.map_eq_some_iff.mp h
          cases h
        · cases h
      let Fr0 : Fr := ⟨M, none, H⟩
      have eM : Mm Fr0 (start N vs) (slots N.length (ds.map Sl.val)) = M := by
        funext a
        refine propext ⟨fun z => ?_, .inl⟩
        rcases z with z | ⟨i, es, f1, _⟩
        · exact z
        · exact (nun i es f1).elim
      have G : Good K Fr0 (start N vs) H (slots N.length (ds.map Sl.val)) ⟨[], 0, [], none⟩ := by
        refine ⟨?_, fun i d h => ?_, fun i es h => (nun i es h).elim, fun i j es _ _ h => (nun i es h).elim, hM, fun i h => ?_, fun p h => (nomatch h), fun _ _ e _ => e⟩
        · unfold L2.start slots
          simp only [List.length_append, List.length_map, List.length_replicate, R.length]
        · rw [eM]
          rcases slots_get h with h | h
          · rw [List.getElem?_map] at h
            obtain ⟨d', h1, h2⟩ := Option.map_eq_some_iff.mp h
            cases h2
            obtain ⟨v, g1, g2⟩ := R.get' h1
            exact ⟨v, start_get g1, g2⟩
          · cases h
        · rcases slots_get h with h | h
          · rw [List.getElem?_map] at h
            obtain ⟨d', h1, h2⟩ := Option.map_eq_some_iff.mp h
            cases h2
          · cases h
      cases res with
      | none => cases e1
      | some p =>
        obtain ⟨fl, ρ1, δ1⟩ := p
        refine s1 Fr0 (start N vs) H _ ⟨[], 0, [], none⟩ fl ρ1 δ1 G hres _ fun σ' H' G' M' => ?_
        have an : Mv (Mm Fr0 σ' ρ1) H' M H' := fun a o e n => ⟨e, fun z => n (.inl z)⟩
        have kp : ∀ a o, H a = some o → H' a = some o := fun a o e => G'.fr a o e fun p h => nomatch h
        cases fl with
        | nx => cases e1; exact q _ _ kp .non
        | rt d => cases e1; exact fun v R1 => q _ _ kp (R1.mv an)
        | bk => cases e1
        | ct => cases e1
    · cases hm
end
def mCallD (f : List D → Option D) (dds : List D) (r : MA) : ME := mCall (fun xs => f (xs ++ dds)) r
section
variable {X : Cx} {a b e : Expr} {es : List Expr} {ma mb : ME} {r : MA} {p pos : Pos}
theorem pd_callPD {CX : CXT} {k : Nat} {f : Addr} {fd : FuncData} {ps : List Str} {m : List D → Option D} {x : Str} {E : XK} {dvs : List V} {dds : List D} (Fn : FnOk X.prog X.w X.K X.mg X.base CX k f fd ps (spP X.K m)) (hr : Room k X.A) (hm : X.mg x = some (.ref f)) (hk : PySem.W.keepIn X.K (.ref f) = true)
    (hb : ∃ ds, Vals dvs ds ∧ Binds X.K fd ps ds) (hd : ∀ M H, Reps X.K M H dvs dds) (hx : Passes CX X E)
    (ha : PDA X (e :: es) r) (hg : Gl X x := by rfl) (hdb : (x == ("__debug__" : Str)) = false := by decide) (he : starEach (e :: es) X.env = (false, eval e X.env) :: starEach es X.env := by rfl) (hpl : (backTo pos (starEach es X.env)).any (·.1) = false := by rfl) :
    PD X (.Call (.Name x p) (e :: es) [] pos) (mCallD m dds r) := by
  obtain ⟨t, h1, s1⟩ := ha.ex
  obtain ⟨ds, hv, hb⟩ := hb
  refine ⟨_, pe_call Fn hr hg hm hk hb hv hx h1 hdb he hpl, fun F σ H ρ δ d δ' G e Q q => ?_⟩
  obtain ⟨⟨xs, δ1⟩, e1, e⟩ := Option.bind_eq_some_iff.mp e
  obtain ⟨z, e3, e⟩ := Option.map_eq_some_iff.mp e
  cases e
  refine s1 F σ H ρ δ xs _ G e1 _ fun vs H1 G1 M1 R1 => ?_
  exact ⟨_, xs ++ dds, _, G1.mm, R1.append (hd _ _), e3, fun v H2 k R2 => q v H2 (G1.keep k) (M1.trans (Mv.same k)) R2⟩
/-! ### t < u of tuples of numbers -/
def ltTD : D → D → Option D
  | .tuple ds, .tuple es => (intsD ds).bind fun ns => (intsD es).map fun ms => .bool (HT.lexLt ns ms)
  | _, _ => none
theorem ops_ltT {K} : OpS K (rLtT K) ltTD := fun F σ H ρ δ x y d e z G rx ry hz Q q => by
  cases d with
  | tuple ds =>
    cases e with
    | tuple es =>
      simp only [ltTD] at hz
      obtain ⟨ns, e1, hz⟩ := Option.bind_eq_some_iff.mp hz
      obtain ⟨ms, e2, hz⟩ := Option.map_eq_some_iff.mp hz
      subst hz
      cases rx with
      | tup ha r1 =>
        cases ry with
        | tup hb r2 => exact ⟨_, _, ns, ms, rfl, rfl, by rw [← r1.intsR e1]; exact ha.sq, by rw [← r2.intsR e2]; exact hb.sq, q _ H (fun _ _ h => h) (.bl _)⟩
    | _ => cases hz
  | _ => cases hz
theorem cs_ltT (hu : X.A.units + 1 < cLine) : CmpS X .Lt ltTD := ⟨_, op_ltT (by omega), ops_ltT⟩
end
end PD

namespace PD
open PySem PySem.Spec PyProof.Rows L2
/-! ### a dict beside: one slot r holds a dict that loops fill by setdefault -/
abbrev Es := List (Key × D)
structure SideD (K : PySem.W.Frag) (F : Fr) (A : Addr) (r : Nat) (σ : L2.St) (H : Hp) (ρ : List Sl) (es : Es) : Prop where
  sl : σ[r]? = some (some (.ref A))
  ro : ρ[r]? = some .no
  ob : ∃ kvs, H A = some (.dK kvs) ∧ RepD K (Mm (F.plus A) σ ρ) H kvs es
structure EnvD (F : Fr) (A : Addr) : Prop where
  n0 : F.H0 A = none
  nd : ∀ p, F.dk = some p → A ≠ p.1 ∧ A ≠ p.2 ∧ A ≠ p.3
  nm : ¬ F.M0 A
abbrev MS2 := List Sl → Dk → Es → Option (Fl × List Sl × Dk × Es)
abbrev MT2 := List Sl → Dk → Es → Option (Bool × Dk)
def SndS2 (K : PySem.W.Frag) (r : Nat) (t : TS) (m : MS2) : Prop := ∀ F A σ H ρ δ es fl ρ' δ' es', EnvD F A → Good K (F.plus A) σ H ρ δ → SideD K F A r σ H ρ es → m ρ δ es = some (fl, ρ', δ', es') → ∀ D : Ends,
  (∀ σ' H', Good K (F.plus A) σ' H' ρ' δ' → SideD K F A r σ' H' ρ' es' → Mv (Mm (F.plus A) σ ρ) H (Mm (F.plus A) σ' ρ') H' → Post K F D fl σ' H' ρ') → t D σ H
def SndT2 (K : PySem.W.Frag) (r : Nat) (t : TT) (m : MT2) : Prop := ∀ F A σ H ρ δ es b δ', EnvD F A → Good K (F.plus A) σ H ρ δ → SideD K F A r σ H ρ es → m ρ δ es = some (b, δ') → ∀ Q : Bool → Hp → Prop,
  (∀ H', Good K (F.plus A) σ H' ρ δ' → SideD K F A r σ H' ρ es → Mv (Mm (F.plus A) σ ρ) H (Mm (F.plus A) σ ρ) H' → Q b H') → t σ H Q
theorem SideD.heap {K F A r σ H H' ρ es} (s : SideD K F A r σ H ρ es) (hA : ∀ o, H A = some o → H' A = some o) (mv : Mv (Mm (F.plus A) σ ρ) H (Mm (F.plus A) σ ρ) H') : SideD K F A r σ H' ρ es := by
  obtain ⟨kvs, h1, h2⟩ := s.ob
  exact ⟨s.sl, s.ro, kvs, hA _ h1, h2.mv mv⟩
/-- an expression leaves the dict as it is -/
theorem side_expr {K t m} (h : Snd K t m) (r : Nat) {F A σ H ρ δ es d δ'} (E : EnvD F A) (G : Good K (F.plus A) σ H ρ δ) (s : SideD K F A r σ H ρ es) (e : m ρ δ = some (d, δ')) {Q : VK}
    (q : ∀ v H', Good K (F.plus A) σ H' ρ δ' → SideD K F A r σ H' ρ es → Mv (Mm (F.plus A) σ ρ) H (Mm (F.plus A) σ ρ) H' → Rep K (Mm (F.plus A) σ ρ) H' v d → Q v H') : t σ H Q := by
  obtain ⟨kvs, hA, RD⟩ := s.ob
  have hMA : (F.plus A).M0 A := .inr rfl
  refine h ((F.plus A).pin A (.dK kvs)) σ H ρ δ d δ' (G.pin hMA hA) e _ fun v H' G' M' R' => ?_
  rw [Mm_pin] at M' R'
  have hA' : H' A = some (.dK kvs) := G'.fr A _ upd_same E.nd
  exact q v H' (Good.unpin E.n0 hMA G') ⟨s.sl, s.ro, kvs, hA', RD.mv M'⟩ M' R'
section
variable {X : Cx} {e : Expr} {ma : ME} {pos : Pos}
structure PDS2 (X : Cx) (r : Nat) (st : Stmt) (m : MS2) : Prop where
  ex : ∃ t, PS X st t ∧ SndS2 X.K r t m
structure PDSs2 (X : Cx) (r : Nat) (sts : List Stmt) (m : MS2) : Prop where
  ex : ∃ t, PSs X sts t ∧ SndS2 X.K r t m
structure PDT2 (X : Cx) (r : Nat) (e : Expr) (m : MT2) : Prop where
  ex : ∃ t, PT X e t ∧ SndT2 X.K r t m
def seq2 (a b : MS2) : MS2 := fun ρ δ es => (a ρ δ es).bind fun p => match p.1 with
  | .nx => b p.2.1 p.2.2.1 p.2.2.2
  | f => some (f, p.2)
theorem snd_seq2 {K r t u a b} (h : SndS2 K r t a) (g : SndS2 K r u b) : SndS2 K r (tSeq t u) (seq2 a b) := fun F A σ H ρ δ es fl ρ' δ' es' E G s e D q => by
  obtain ⟨⟨f, ρ1, δ1, es1⟩, e1, e⟩ := Option.bind_eq_some_iff.mp e
  refine h F A σ H ρ δ es f ρ1 δ1 es1 E G s e1 _ fun σ1 H1 G1 s1 M1 => ?_
  cases f with
  | nx => exact g F A σ1 H1 ρ1 δ1 es1 fl ρ' δ' es' E G1 s1 e D fun σ2 H2 G2 s2 M2 => q σ2 H2 G2 s2 (M1.trans M2)
  | rt d => cases e; exact q σ1 H1 G1 s1 M1
  | bk => cases e; exact q σ1 H1 G1 s1 M1
  | ct => cases e; exact q σ1 H1 G1 s1 M1
theorem pdss2_cons {r : Nat} {st : Stmt} {rest : List Stmt} {m m' : MS2} (h1 : PDS2 X r st m) (h2 : PDSs2 X r rest m') : PDSs2 X r (st :: rest) (seq2 m m') := by
  obtain ⟨t, p1, s1⟩ := h1.ex
  obtain ⟨u, p2, s2⟩ := h2.ex
  exact ⟨_, pss_cons p1 p2, snd_seq2 s1 s2⟩
theorem pdss2_one {r : Nat} {st : Stmt} {m : MS2} (h1 : PDS2 X r st m) : PDSs2 X r [st] m := by
  obtain ⟨t, p1, s1⟩ := h1.ex
  exact ⟨_, pss_one p1, s1⟩
def next2 : MS2 := fun ρ δ es => some (.nx, ρ, δ, es)
theorem pdss2_nil {r : Nat} : PDSs2 X r [] next2 := ⟨_, pss_nil, fun F A σ H ρ δ es fl ρ' δ' es' E G s e D q => by
  cases e
  exact q σ H G s (Mv.refl _ _)⟩
/-- a store -/
def asg2 (m : ME) (g : MG) : MS2 := fun ρ δ es => (m ρ δ).bind fun p => (g p.1 ρ).map fun ρ1 => (.nx, ρ1, p.2, es)
theorem SideD.slots {K F A r σ σ' H ρ ρ' es} {sl : List Nat} (s : SideD K F A r σ H ρ es) (T : Set1 sl σ σ' ρ ρ') (hr : r ∉ sl) (mv : Mv (Mm (F.plus A) σ ρ) H (Mm (F.plus A) σ' ρ') H) : SideD K F A r σ' H ρ' es := by
  obtain ⟨kvs, h1, h2⟩ := s.ob
  exact ⟨(T.s r hr).trans s.sl, (T.r r hr).trans s.ro, kvs, h1, h2.mv mv⟩
theorem pds2_set {r : Nat} (i : Nat) {x : Str} {pos' : Pos} (hN : X.N.Nodup) (he : PD X e ma) (hri : r ≠ i) (hi : X.N[i]? = some x := by rfl) (hx : Loc X.env.scope x := by first | exact Or.inl rfl | exact Or.inr rfl) (hs : swapsWith e (some (.Name x pos')) pos.line X.env = pure false := by rfl) (hf : X.fn x = true ∨ X.env.scope.names.lookup x = some .local := by first | exact .inl rfl | exact .inr rfl | assumption) :
    PDS2 X r (.Assign [.Name x pos'] e pos) (asg2 ma (gSet i)) := by
  obtain ⟨te, p1, s1⟩ := he.ex
  refine ⟨_, ps_set hN hi hx p1 hs hf, fun F A σ H ρ δ es fl ρ' δ' es' E G s e D q => ?_⟩
  obtain ⟨⟨x, δ1⟩, e1, e⟩ := Option.bind_eq_some_iff.mp e
  obtain ⟨ρ1, e2, e⟩ := Option.map_eq_some_iff.mp e
  cases e
  cases e2
  refine side_expr s1 r E G s e1 fun v H1 G1 s1 M1 R1 => ?_
  obtain ⟨G2, M2⟩ := G1.set i R1
  exact q _ H1 G2 (s1.slots (Set1.set i) (by simpa using hri) M2) (M1.trans M2)
/-- for -/
def forL2 (g : MG) (s : MS2) : List D → MS2
  | [] => fun ρ δ es => some (.nx, ρ, δ, es)
  | d :: ds => fun ρ δ es => (g d ρ).bind fun ρ1 => (s ρ1 δ es).bind fun p => match p.1 with
    | .nx => forL2 g s ds p.2.1 p.2.2.1 p.2.2.2
    | .ct => forL2 g s ds p.2.1 p.2.2.1 p.2.2.2
    | .bk => some (.nx, p.2)
    | .rt d => some (.rt d, p.2)
def for2 (mi : MA) (g : MG) (s : MS2) : MS2 := fun ρ δ es => (mi ρ δ).bind fun p => forL2 g s p.1 ρ p.2 es
theorem pds2_for {r : Nat} {tg iter : Expr} {mi : MA} {mg : MG} {m : MS2} {sl : List Nat} {body : List Stmt} (hp : PassesOwn (model X.prog X.w) X.A X.env X.xe) (hc : X.calm = true) (hi : PDI X tg iter mi) (hg : PDG X tg sl mg) (hr : r ∉ sl) (hb : PDSs2 X r body m) (hs : ∀ x, foldedSetIterable iter X.env x = pure x := by intro _; rfl) :
    PDS2 X r (.For tg iter body [] pos) (for2 mi mg m) := by
  obtain ⟨wi, p1, s1⟩ := hi.ex
  obtain ⟨g, p2, s2⟩ := hg.ex
  obtain ⟨tb, p3, s3⟩ := hb.ex
  refine ⟨_, ps_for hp hc p1 p2 p3 hs, fun F A σ0 H0 ρ0 δ0 es0 fl ρ' δ' es' E G sd e D q => ?_⟩
  obtain ⟨⟨ds, δ1⟩, e1, e⟩ := Option.bind_eq_some_iff.mp e
  obtain ⟨kvs, hA, RD⟩ := sd.ob
  have hMA : (F.plus A).M0 A := .inr rfl
  refine s1 ((F.plus A).pin A (.dK kvs)) σ0 H0 ρ0 δ0 ds δ1 (G.pin hMA hA) e1 _ fun J H1 G1 M1 Wk => ?_
  rw [Mm_pin] at M1 Wk
  have sd1 : SideD X.K F A r σ0 H1 ρ0 es0 := ⟨sd.sl, sd.ro, kvs, G1.fr A _ upd_same E.nd, RD.mv M1⟩
  replace G1 := Good.unpin (F := F.plus A) E.n0 hMA G1
  refine ⟨fun i k σ H => k = ds.length - i ∧ i ≤ ds.length ∧ ∃ ρ δ es, Good X.K (F.plus A) σ H ρ δ ∧ SideD X.K F A r σ H ρ es ∧ Mv (Mm (F.plus A) σ0 ρ0) H1 (Mm (F.plus A) σ ρ) H ∧ forL2 mg m (ds.drop i) ρ δ es = some (fl, ρ', δ', es'), ⟨_, rfl, Nat.zero_le _, ρ0, δ1, es0, G1, sd1, Mv.refl _ _, e⟩, ?_⟩
  rintro i k σ H ⟨rfl, hile, ρ, δ, es, G2, sd2, M2, ef⟩
  by_cases hlt : i < ds.length
  · obtain ⟨go, yl⟩ := (Wk _ H M2 G2.mm i).1 hlt
    have hld : i < ds.length := hlt
    rw [List.drop_eq_getElem_cons hld] at ef
    refine .inr ⟨go, fun σ H => ∃ ρ δ es, Good X.K (F.plus A) σ H ρ δ ∧ SideD X.K F A r σ H ρ es ∧ Mv (Mm (F.plus A) σ0 ρ0) H1 (Mm (F.plus A) σ ρ) H ∧ forL2 mg m (ds.drop (i + 1)) ρ δ es = some (fl, ρ', δ', es'), fun σ' H' h => ⟨ds.length - (i + 1), by omega, rfl, hlt, h⟩, fun x H3 hy => ?_⟩
    obtain ⟨kp, dx, edx, rdx⟩ := yl x H3 hy
    rw [List.getElem?_eq_getElem hld] at edx
    cases edx
    replace G2 := G2.keep kp
    replace M2 := M2.trans (Mv.same kp)
    replace sd2 := sd2.heap (fun o h => kp _ _ h) (Mv.same kp)
    unfold forL2 at ef
    obtain ⟨ρ2, f1, ef⟩ := Option.bind_eq_some_iff.mp ef
    obtain ⟨⟨f, ρ3, δ3, es3⟩, f2, ef⟩ := Option.bind_eq_some_iff.mp ef
    refine s2 (F.plus A) σ H3 ρ δ x _ ρ2 G2 rdx f1 _ fun σ2 G3 M3 T3 => ?_
    have sd3 := sd2.slots T3 hr M3
    refine s3 F A σ2 H3 ρ2 δ es f ρ3 δ3 es3 E G3 sd3 f2 _ fun σ4 H4 G4 sd4 M4 => ?_
    cases f with
    | nx => exact ⟨ρ3, δ3, es3, G4, sd4, (M2.trans M3).trans M4, ef⟩
    | ct => exact ⟨ρ3, δ3, es3, G4, sd4, (M2.trans M3).trans M4, ef⟩
    | bk => cases ef; exact q σ4 H4 G4 sd4 (M1.trans ((M2.trans M3).trans M4))
    | rt d => cases ef; exact q σ4 H4 G4 sd4 (M1.trans ((M2.trans M3).trans M4))
  · have hi' : i = ds.length := by omega
    subst hi'
    rw [List.drop_of_length_le (Nat.le_refl _)] at ef
    cases ef
    exact .inl ⟨(Wk _ H M2 G2.mm ds.length).2 (Nat.le_refl _), q σ H G2 sd2 (M1.trans M2)⟩
/-- r.setdefault(e1, e2) -/
def setd2 (m1 m2 : ME) : MS2 := fun ρ δ es => (m1 ρ δ).bind fun p => (keyOf p.1).bind fun k => (m2 ρ p.2).bind fun q => if es.length < sizeLine then some (.nx, ρ, q.2, if hasK es k then es else es ++ [(k, q.1)]) else none
theorem pds2_setd {e1 e2 : Expr} {R : Str} {p1 apos cpos pos2 : Pos} {m1 m2 : ME} (r : Nat) (h1 : PD X e1 m1) (h2 : PD X e2 m2)
    (hy : X.N[r]? = some R := by rfl) (hv : Vis X.env.scope R := by first | exact Or.inl rfl | exact Or.inr (Or.inl rfl) | exact Or.inr (Or.inr rfl)) (hd : (R == ("__debug__" : Str)) = false := by decide) (hcd : (R == ("__classdict__" : Str)) = false := by decide)
    (hb : attributeBase (.Name R p1) "setdefault" X.env (eval (.Name R p1) X.env) = eval (.Name R p1) X.env := by rfl)
    (hfew : ((backTo cpos (starEach [e1, e2] X.env)).all (fun x => !x.1) && (backToKw cpos (keywordEach [] X.env)).all (fun x => x.1.isSome) && decide (([e1, e2] : List Expr).length + ([] : List Keyword).length + (if ([] : List Keyword).isEmpty then 0 else 1) < 30)) = true := by rfl)
    (hline : (apos.endLine == cpos.line) = true := by rfl) (htr : backTo cpos (starEach [e1, e2] X.env) = [(false, eval e1 X.env), (false, eval e2 X.env)] := by rfl)
    (hse : swapsWith (.Call (.Attribute (.Name R p1) "setdefault" apos) [e1, e2] [] cpos) none pos2.line X.env = pure false := by rfl) :
    PDS2 X r (.Expr (.Call (.Attribute (.Name R p1) "setdefault" apos) [e1, e2] [] cpos) pos2) (setd2 m1 m2) := by
  obtain ⟨t1, w3, s3⟩ := h1.ex
  obtain ⟨t2, w4, s4⟩ := h2.ex
  refine ⟨_, ps_expr (pe_dsetd (pe_var hy hv hd hcd) w3 w4 ⟨hb, hfew, hline, htr⟩) hse, fun F A σ H ρ δ es fl ρ' δ' es' E G s e D q => ?_⟩
  obtain ⟨⟨d1, δ6⟩, f2, e⟩ := Option.bind_eq_some_iff.mp e
  obtain ⟨kk, f3, e⟩ := Option.bind_eq_some_iff.mp e
  obtain ⟨⟨d2, δ7⟩, f4, e⟩ := Option.bind_eq_some_iff.mp e
  dsimp only at e
  split at e
  · rename_i hsz
    have hMA : (F.plus A).M0 A := .inr rfl
    obtain ⟨kvs0, hA0, _⟩ := s.ob
    refine ⟨_, s.sl, A, rfl, .inl ⟨kvs0, .inl hA0⟩, ?_⟩
    refine side_expr s3 r E G s f2 fun v1 H7 G7 s7 M7 R7 => ?_
    refine side_expr s4 r E G7 s7 f4 fun v2 H8 G8 s8 M8 R8 => ?_
    obtain ⟨kvs5, hA8, RD8⟩ := s8.ob
    have ky := keyOf_rep R7 f3
    obtain ⟨c1, c2⟩ := RD8.val kk
    refine ⟨kvs5, kk, hA8, ky, by rw [RD8.len]; exact hsz, fun v hv => ?_, fun hv => ?_⟩
    · cases hh : hasK es kk with
      | false => rw [(c2 hh).1] at hv; cases hv
      | true =>
        rw [hh] at e
        cases e
        exact q σ H8 G8 s8 (M7.trans M8)
    · cases hh : hasK es kk with
      | true => obtain ⟨v, hv'⟩ := c1 hh; rw [hv'] at hv; cases hv
      | false =>
        rw [hh] at e
        cases e
        obtain ⟨G9, M9⟩ := G8.writeM (D := A) (o := .dK (kvs5 ++ [(kk, v2)])) hMA E.nd E.n0
        have hput : putK kvs5 kk v2 = kvs5 ++ [(kk, v2)] := by
          unfold putK
          rw [(c2 hh).2, if_neg Bool.false_ne_true]
        rw [hput]
        exact q σ _ G9 ⟨s8.sl, s8.ro, _, upd_same, (RD8.app R8).mv M9⟩ ((M7.trans M8).trans M9)
  · cases e
/-- return r -/
def ret2 : MS2 := fun ρ δ es => some (.rt (.dict (es.map fun e => (keyD e.1, e.2))), ρ, δ, es)
theorem pds2_ret {R : Str} {p1 : Pos} (r : Nat) (hy : X.N[r]? = some R := by rfl) (hv : Vis X.env.scope R := by first | exact Or.inl rfl | exact Or.inr (Or.inl rfl) | exact Or.inr (Or.inr rfl)) (hd : (R == ("__debug__" : Str)) = false := by decide) (hcd : (R == ("__classdict__" : Str)) = false := by decide) :
    PDS2 X r (.Return (some (.Name R p1)) pos) ret2 := by
  refine ⟨_, ps_ret (pe_var hy hv hd hcd), fun F A σ H ρ δ es fl ρ' δ' es' E G s e D q => ?_⟩
  cases e
  obtain ⟨kvs, hA, RD⟩ := s.ob
  refine ⟨_, s.sl, q σ H G s (Mv.refl _ _) _ ?_⟩
  have an : Mv (Mm (F.plus A) σ ρ) H (Mm F σ ρ) H := fun a o e n => ⟨e, fun z => n (by rw [Mm_plus]; exact .inl z)⟩
  have hnot : ¬ Mm F σ ρ A := fun z => by
    rcases z with z | ⟨jj, fs, f1, f2⟩
    · exact E.nm z
    · obtain ⟨c, zs, g1, g2, g3, g4⟩ := G.own jj fs f1
      rw [f2] at g1; cases g1
      exact g4.1 (.inr rfl)
  exact .dic hnot (.inl hA) (RD.mv an).repK
/-- if -/
def if2 (c : MT2) (a b : MS2) : MS2 := fun ρ δ es => (c ρ δ es).bind fun p => if p.1 = true then a ρ p.2 es else b ρ p.2 es
theorem pds2_if {r : Nat} {c : Expr} {nc : MT2} {x y : List Stmt} {m m' : MS2} (hc : PDT2 X r c nc) (ha : PDSs2 X r x m) (hb : PDSs2 X r y m') : PDS2 X r (.If c x y pos) (if2 nc m m') := by
  obtain ⟨t, p0, s0⟩ := hc.ex
  obtain ⟨u, p1, s1⟩ := ha.ex
  obtain ⟨w, p2, s2⟩ := hb.ex
  refine ⟨_, ps_if p0 p1 p2, fun F A σ H ρ δ es fl ρ' δ' es' E G s e D q => ?_⟩
  obtain ⟨⟨b, δ1⟩, e1, e⟩ := Option.bind_eq_some_iff.mp e
  refine s0 F A σ H ρ δ es b δ1 E G s e1 _ fun H1 G1 sd1 M1 => ?_
  cases b with
  | true => exact iteT (s1 F A σ H1 ρ δ1 es fl ρ' δ' es' E G1 sd1 e D fun σ2 H2 G2 sd2 M2 => q σ2 H2 G2 sd2 (M1.trans M2))
  | false => exact iteF (s2 F A σ H1 ρ δ1 es fl ρ' δ' es' E G1 sd1 e D fun σ2 H2 G2 sd2 M2 => q σ2 H2 G2 sd2 (M1.trans M2))
/-- len(r) == e -/
def lenEq2 (m : ME) : MT2 := fun ρ δ es => (m ρ δ).bind fun p => match p.1 with
  | .int j => some (decide ((es.length : Int) = j), p.2)
  | _ => none
theorem call_lenD : CallR X (.builtin "len") (fun xs H Q => ∃ a kvs, xs = [.ref a] ∧ Rd H a (.dK kvs) ∧ Q (.int (kvs.length : Nat)) H) := by
  intro pins s σ H xs us Q I r h
  obtain ⟨a, kvs, rfl, e, q⟩ := h
  obtain ⟨u, rfl, rx⟩ := vals1 r
  cases rx
  exact d_len I e fun t s' I' => ⟨.int kvs.length, H, I', ⟨t, rfl⟩, q⟩
theorem pdt2_len {R : Str} {p p1 : Pos} {b : Expr} {mb : ME} {cpos : Pos} (r : Nat) (hu : X.A.units + 64 < cLine) (hm : X.mg "len" = none) (hb : PD X b mb) (hy : X.N[r]? = some R := by rfl) (hv : Vis X.env.scope R := by first | exact Or.inl rfl | exact Or.inr (Or.inl rfl) | exact Or.inr (Or.inr rfl)) (hd : (R == ("__debug__" : Str)) = false := by decide) (hcd : (R == ("__classdict__" : Str)) = false := by decide)
    (hg : Gl X "len" := by rfl) (he : starEach [Expr.Name R p1] X.env = (false, eval (.Name R p1) X.env) :: starEach [] X.env := by rfl) (hpl : (backTo cpos (starEach [] X.env)).any (·.1) = false := by rfl) (hmk : behindInMarks .Eq b = false := by with_unfolding_all rfl) :
    PDT2 X r (.Compare (.Call (.Name "len" p) [.Name R p1] [] cpos) [.Eq] [b] pos) (lenEq2 mb) := by
  obtain ⟨tb, h2, s2⟩ := hb.ex
  refine ⟨_, pt_cmpR (op_eqD hu) (pe_callB call_lenD hg hm PySem.boot_len (pa_cons (pe_var hy hv hd hcd) pa_nil he) (by decide) (by decide) he hpl) h2 hmk, fun F A σ H ρ δ es b δ' E G s e Q q => ?_⟩
  obtain ⟨⟨x, δ1⟩, e1, e⟩ := Option.bind_eq_some_iff.mp e
  obtain ⟨kvs, hA, RD⟩ := s.ob
  dsimp only at e
  split at e
  · cases e
    refine ⟨_, s.sl, A, kvs, rfl, .inl hA, side_expr s2 r E G s e1 fun v H1 G1 s1 M1 R1 => ?_⟩
    cases R1
    rename_i j
    refine ⟨.int (kvs.length : Nat), .int j, .int _, .int _, rfl, rfl, _, rfl, ?_⟩
    have hq := q H1 G1 s1 M1
    rw [← RD.len] at hq
    have : PyData.eqv (.int (kvs.length : Nat)) (.int j) = decide (((kvs.length : Nat) : Int) = j) := by
      simp only [PyData.eqv]
      rw [Bool.eq_iff_iff]
      simp
    rw [this]
    exact hq
  · cases e
/-- r = {}, and what fills it, to its return -/
def sSide (r : Nat) (m : MS2) : MS := fun ρ δ => if r < ρ.length then (m (ρ.set r .no) δ []).bind fun z => match z.1 with
  | .rt d => some (.rt d, z.2.1, z.2.2.1)
  | _ => none
  else none
theorem Good.drop {K F σ H ρ δ A} (E : EnvD F A) (G : Good K (F.plus A) σ H ρ δ) : Good K F σ H ρ δ ∧ Mv (Mm (F.plus A) σ ρ) H (Mm F σ ρ) H := by
  have an : Mv (Mm (F.plus A) σ ρ) H (Mm F σ ρ) H := fun a o e n => ⟨e, fun z => n (by rw [Mm_plus]; exact .inl z)⟩
  refine ⟨⟨G.len, fun i d e => ?_, fun i ds e => ?_, G.inj, fun a ha => G.m0 a (.inl ha), G.dsl, fun p e => ?_, G.fr⟩, an⟩
  · obtain ⟨v, e1, r⟩ := G.val i d e
    exact ⟨v, e1, r.mv an⟩
  · obtain ⟨a, xs, e1, e2, r, n⟩ := G.own i ds e
    exact ⟨a, xs, e1, e2, r.mv an, fun z => n.1 (.inl z), n.2⟩
  · obtain ⟨d1, d2, d4, d3⟩ := G.dck p e
    obtain ⟨n1, n2, n3⟩ := E.nd p e
    exact ⟨d1.resolve_right fun z => n1 z.symm, d2.resolve_right fun z => n2 z.symm, d4.resolve_right fun z => n3 z.symm, d3⟩
theorem pdss_side {R : Str} {py p0 spos : Pos} {rest : List Stmt} {m : MS2} (r : Nat) (hN : X.N.Nodup) (hrest : PDSs2 X r rest m)
    (hy : X.N[r]? = some R := by rfl) (hl : Loc X.env.scope R := by first | exact Or.inl rfl | exact Or.inr rfl) (hf : X.fn R = true ∨ X.env.scope.names.lookup R = some .local := by first | exact .inl rfl | exact .inr rfl | assumption) (hsd : swapsWith (.Dict [] [] p0) (some (.Name R py)) spos.line X.env = pure false := by rfl) :
    PDSs X (.Assign [.Name R py] (.Dict [] [] p0) spos :: rest) (sSide r m) := by
  obtain ⟨t, p1, s1⟩ := hrest.ex
  refine ⟨_, pss_cons (ps_set hN hy hl pe_dnewK hsd hf) p1, fun F σ H ρ δ fl ρ' δ' G e D q => ?_⟩
  unfold sSide at e
  split at e
  · rename_i hz
    obtain ⟨⟨f, ρ3, δ3, es3⟩, e3, e⟩ := Option.bind_eq_some_iff.mp e
    cases f with
    | rt d =>
      cases e
      intro A hA
      have nDk : ∀ p, F.dk = some p → A ≠ p.1 ∧ A ≠ p.2 ∧ A ≠ p.3 := fun p hp => ⟨(ne_of_none (G.dck p hp).2.2.2.one hA).symm, (ne_of_none (G.dck p hp).2.2.2.two hA).symm, (ne_of_none (G.dck p hp).2.2.2.tri hA).symm⟩
      have E : EnvD F A := ⟨G.fresh0 hA, nDk, fun z => G.m0 A z hA⟩
      obtain ⟨G1, M1⟩ := G.plus (o := .dK []) hA
      obtain ⟨G2, M2⟩ := G1.setNo r (some (.ref A))
      have hrl : r < σ.length := by rw [G.len]; exact hz
      refine s1 F A _ _ (ρ.set r .no) δ [] _ ρ3 δ3 es3 E G2 ⟨List.getElem?_set_self hrl, List.getElem?_set_self hz, [], upd_same, .nil⟩ e3 D fun σ' H' G' sd' M' => ?_
      obtain ⟨G9, M9⟩ := G'.drop E
      exact q σ' H' G9 (((M1.trans M2).trans M').trans M9)
    | nx => cases e
    | bk => cases e
    | ct => cases e
  · cases e
end
end PD

namespace PD
open PySem PySem.Spec PyProof.Rows L2
/-! ### d.get(k) -/
def getD1 (d k : D) : Option D := getD2 d k .none
section
variable {X : Cx} {a b : Expr} {ma mb : ME}
theorem pd_get1 {apos cpos : Pos} (hu : X.A.units + 1 < cLine) (ha : PD X a ma) (hb : PD X b mb) (m : M1 X a "get" apos b cpos := by exact ⟨rfl, rfl, rfl, rfl⟩) :
    PD X (.Call (.Attribute a "get" apos) [b] [] cpos) (mBin getD1 ma mb) := by
  obtain ⟨ta, h1, s1⟩ := ha.ex
  obtain ⟨tb, h2, s2⟩ := hb.ex
  refine ⟨_, pe_dget1 hu h1 h2 m, fun F σ H ρ δ d δ' G e Q q => ?_⟩
  obtain ⟨⟨x, δ1⟩, e1, e⟩ := Option.bind_eq_some_iff.mp e
  obtain ⟨⟨y, δ2⟩, e2, e⟩ := Option.bind_eq_some_iff.mp e
  obtain ⟨z, e3, e⟩ := Option.map_eq_some_iff.mp e
  cases e
  refine s1 F σ H ρ δ x δ1 G e1 _ fun v H1 G1 M1 R1 => ?_
  dsimp only at e3
  unfold getD1 at e3
  cases x with
  | dict es =>
    simp only [getD2] at e3
    obtain ⟨kk, e5, e6⟩ := Option.map_eq_some_iff.mp e3
    subst e6
    cases R1 with
    | dic n rd rk =>
      refine ⟨_, rfl, .inl ⟨_, rd⟩, ?_⟩
      refine s2 F σ H1 ρ δ1 _ _ G1 e2 _ fun u H2 G2 M2 R2 => ?_
      have rk3 := rk.mv M2
      have rd3 := (M2.rd n rd).2
      have ek := keyOf_rep R2 e5
      have ed := keyOf_keyD e5
      refine ⟨_, .inl ⟨_, kk, rd3, ek, rfl⟩, q _ _ G2 (M1.trans M2) ?_⟩
      subst ed
      cases hl : lookD es (keyD kk) with
      | none => rw [rk3.lookN hl]; exact .non
      | some d1 =>
        obtain ⟨v1, ev, rv⟩ := rk3.look hl
        rw [ev]; exact rv
  | _ => cases e3
end
/-! ### what the dict beside comes to -/
def WS2 (s : MS2) (ρ : List Sl) (δ : Dk) (es : Es) (P : Fl → List Sl → Dk → Es → Prop) : Prop := ∃ f ρ' δ' es', s ρ δ es = some (f, ρ', δ', es') ∧ P f ρ' δ' es'
section
variable {ρ : List Sl} {δ : Dk} {es : Es}
def onNx2 (P : Fl → List Sl → Dk → Es → Prop) (Q : List Sl → Dk → Es → Prop) : Fl → List Sl → Dk → Es → Prop
  | .nx, ρ, δ, es => Q ρ δ es
  | f, ρ, δ, es => P f ρ δ es
theorem onNx2_nx {P Q} : onNx2 P Q .nx ρ δ es = Q ρ δ es := rfl
theorem onNx2_rt {P Q d} : onNx2 P Q (.rt d) ρ δ es = P (.rt d) ρ δ es := rfl
theorem ws2_seq {a b P} : WS2 (seq2 a b) ρ δ es P ↔ WS2 a ρ δ es (onNx2 P fun ρ1 δ1 es1 => WS2 b ρ1 δ1 es1 P) := by
  constructor
  · rintro ⟨f, ρ', δ', es', e, p⟩
    obtain ⟨⟨f1, ρ1, δ1, es1⟩, e1, e⟩ := Option.bind_eq_some_iff.mp e
    refine ⟨f1, ρ1, δ1, es1, e1, ?_⟩
    cases f1 with
    | nx => exact ⟨_, _, _, _, e, p⟩
    | rt d => cases e; exact p
    | bk => cases e; exact p
    | ct => cases e; exact p
  · rintro ⟨f, ρ1, δ1, es1, e1, p⟩
    unfold WS2 seq2
    rw [e1]
    simp only [Option.bind_some]
    cases f with
    | nx => exact p
    | rt d => exact ⟨_, _, _, _, rfl, p⟩
    | bk => exact ⟨_, _, _, _, rfl, p⟩
    | ct => exact ⟨_, _, _, _, rfl, p⟩
theorem ws2_next {P} : WS2 next2 ρ δ es P ↔ P .nx ρ δ es := ⟨fun ⟨_, _, _, _, h, p⟩ => by cases h; exact p, fun p => ⟨_, _, _, _, rfl, p⟩⟩
theorem ws2_ret {P} : WS2 ret2 ρ δ es P ↔ P (.rt (.dict (es.map fun e => (keyD e.1, e.2)))) ρ δ es := ⟨fun ⟨_, _, _, _, h, p⟩ => by cases h; exact p, fun p => ⟨_, _, _, _, rfl, p⟩⟩
theorem ws2_asg {m g P} : WS2 (asg2 m g) ρ δ es P ↔ WE m ρ δ fun d δ1 => WG g d ρ fun ρ1 => P .nx ρ1 δ1 es := by
  constructor
  · rintro ⟨f, ρ', δ', es', e, p⟩
    obtain ⟨⟨x, δ1⟩, e1, e⟩ := Option.bind_eq_some_iff.mp e
    obtain ⟨ρ1, e2, e⟩ := Option.map_eq_some_iff.mp e
    cases e
    exact ⟨x, _, e1, _, e2, p⟩
  · rintro ⟨x, δ1, e1, ρ1, e2, p⟩
    exact ⟨.nx, ρ1, δ1, es, by unfold asg2; rw [e1]; simp [e2], p⟩
theorem ws2_setd {m1 m2 P} : WS2 (setd2 m1 m2) ρ δ es P ↔ WE m1 ρ δ fun x δ1 => ∃ k, keyOf x = some k ∧ WE m2 ρ δ1 fun y δ2 => es.length < sizeLine ∧ P .nx ρ δ2 (if hasK es k then es else es ++ [(k, y)]) := by
  constructor
  · rintro ⟨f, ρ', δ', es', e, p⟩
    obtain ⟨⟨x, δ1⟩, e1, e⟩ := Option.bind_eq_some_iff.mp e
    obtain ⟨k, e2, e⟩ := Option.bind_eq_some_iff.mp e
    obtain ⟨⟨y, δ2⟩, e3, e⟩ := Option.bind_eq_some_iff.mp e
    dsimp only at e
    split at e
    · rename_i hl; cases e; exact ⟨x, δ1, e1, k, e2, y, _, e3, hl, p⟩
    · cases e
  · rintro ⟨x, δ1, e1, k, e2, y, δ2, e3, hl, p⟩
    refine ⟨_, _, _, _, ?_, p⟩
    unfold setd2
    rw [e1]; simp only [Option.bind_some]; rw [e2]; simp only [Option.bind_some]; rw [e3]; simp only [Option.bind_some]; rw [if_pos hl]
theorem ws2_ifLen {m a b P} : WS2 (if2 (lenEq2 m) a b) ρ δ es P ↔ WE m ρ δ fun x δ1 => ∃ j, x = .int j ∧ if (es.length : Int) = j then WS2 a ρ δ1 es P else WS2 b ρ δ1 es P := by
  constructor
  · rintro ⟨f, ρ', δ', es', e, p⟩
    obtain ⟨⟨t, δ1⟩, e1, e⟩ := Option.bind_eq_some_iff.mp e
    obtain ⟨⟨x, δ2⟩, e2, e1⟩ := Option.bind_eq_some_iff.mp e1
    dsimp only at e1
    split at e1
    · cases e1
      refine ⟨_, _, e2, _, rfl, ?_⟩
      dsimp only at e
      split at e
      · rename_i h; rw [if_pos (of_decide_eq_true h)]; exact ⟨_, _, _, _, e, p⟩
      · rename_i h; rw [if_neg (fun z => h (decide_eq_true z))]; exact ⟨_, _, _, _, e, p⟩
    · cases e1
  · rintro ⟨x, δ1, e1, j, rfl, p⟩
    unfold WS2 if2 lenEq2
    rw [e1]
    simp only [Option.bind_some]
    split at p
    · rename_i h; rw [if_pos (decide_eq_true h)]; exact p
    · rename_i h; rw [if_neg (fun z => h (of_decide_eq_true z))]; exact p
theorem ws2_for {mi g s P} : WS2 (for2 mi g s) ρ δ es P ↔ WA mi ρ δ fun ds δ1 => WS2 (forL2 g s ds) ρ δ1 es P := by
  constructor
  · rintro ⟨f, ρ', δ', es', e, p⟩
    obtain ⟨⟨x, δ1⟩, e1, e⟩ := Option.bind_eq_some_iff.mp e
    exact ⟨x, δ1, e1, _, _, _, _, e, p⟩
  · rintro ⟨x, δ1, e1, f, ρ', δ', es', e, p⟩
    exact ⟨f, ρ', δ', es', by unfold for2; rw [e1]; exact e, p⟩
theorem ws2_forI {g s P} (I : List D → List Sl → Dk → Es → Prop) (hs : ∀ d ds ρ δ es, I (d :: ds) ρ δ es → WG g d ρ fun ρ1 => WS2 s ρ1 δ es fun f ρ2 δ2 es2 => match f with
    | .nx => I ds ρ2 δ2 es2
    | .ct => I ds ρ2 δ2 es2
    | .bk => P .nx ρ2 δ2 es2
    | .rt d => P (.rt d) ρ2 δ2 es2) (h0 : ∀ ρ δ es, I [] ρ δ es → P .nx ρ δ es) : ∀ (ds : List D) (ρ : List Sl) (δ : Dk) (es : Es), I ds ρ δ es → WS2 (forL2 g s ds) ρ δ es P
  | [], ρ, δ, es, h => ⟨_, _, _, _, rfl, h0 _ _ _ h⟩
  | d :: ds, ρ, δ, es, h => by
    obtain ⟨ρ1, e1, f, ρ2, δ2, es2, e2, p⟩ := hs d ds ρ δ es h
    unfold WS2 forL2
    rw [e1]; simp only [Option.bind_some]; rw [e2]; simp only [Option.bind_some]
    cases f with
    | nx => exact ws2_forI I hs h0 ds ρ2 δ2 es2 p
    | ct => exact ws2_forI I hs h0 ds ρ2 δ2 es2 p
    | bk => exact ⟨_, _, _, _, rfl, p⟩
    | rt d => exact ⟨_, _, _, _, rfl, p⟩
/-- the whole: it must return -/
theorem ws_side {r : Nat} {m : MS2} {P : Fl → List Sl → Dk → Prop} (hr : r < ρ.length) (h : WS2 m (ρ.set r .no) δ [] fun f ρ1 δ1 _ => match f with | .rt d => P (.rt d) ρ1 δ1 | _ => False) : WS (sSide r m) ρ δ P := by
  obtain ⟨f, ρ1, δ1, es1, e, p⟩ := h
  cases f with
  | rt d =>
    refine ⟨.rt d, ρ1, δ1, ?_, p⟩
    unfold sSide
    rw [if_pos hr, e]; rfl
  | nx => exact p.elim
  | bk => exact p.elim
  | ct => exact p.elim
end
end PD

namespace PD
open PySem PySem.Spec PyProof.Rows L2
/-! ### dict comprehensions of any number of fors -/
section
variable {P : Program} {ω : World} {A : Around} {R : Result → Shared → Prop} {s : Shared} {kx vx : Expr} {gs : List Comprehension} {sc : Scope} {ps : Pos} {k : Nat} {t0 i0 t1 i1 : Expr} {ff0 ff1 : List Expr} {it : Value} {D : Addr} {ε : Env}
theorem loopND_out (h0 : gs[k]? = some ⟨t0, i0, ff0, 0⟩) (h1 : gs[k + 1]? = some ⟨t1, i1, ff1, 0⟩) (hs : ∀ x, foldedSetIterable i1 ε x = pure x) (I : Nat → Shared → Prop)
    (turn : ∀ n s, I n s → wpAny (model P ω) A (pyNext it) (fun r s₁ => match r with
      | none => R (.ok .next) s₁
      | some v => wpAny (model P ω) A (letOwnedTupleGo t0 it v) (fun _ s₁' => wpAny (model P ω) A (assign t0 ε v) (fun _ s₂ =>
          wpAny (model P ω) A (tests ff0 ε) (fun ok s₃ =>
            if ok = true then wpAny (model P ω) A (eval i1 ε) (fun x s₄ => wpAny (model P ω) A (pyIter x) (fun it1 s₅ =>
              codeAny (model P ω) A (.compStart (.DictComp kx vx gs sc ps) (k + 1) it1 (.ref D) ε) (fun r s' => match r with
                | .ok _ => ∃ m, m < n ∧ I m s'
                | .error _ => False) s₅) (fun _ _ => False) s₄) (fun _ _ => False) s₃
            else ∃ m, m < n ∧ I m s₃) (fun _ _ => False) s₂) (fun _ _ => False) s₁') (fun _ _ => False) s₁) (fun _ _ => False) s)
    (n : Nat) (h : I n s) : codeAny (model P ω) A (.compLoop (.DictComp kx vx gs sc ps) k it (.ref D) ε) R s := by
  refine codeAny_loop rfl I (fun nn sh hIn => ?_) n h
  show wpAny _ A ((compTurn (.DictComp kx vx gs sc ps) k it (.ref D) ε).onRaise (fun x => do noteFrame x ε; theTreesLotGoes x)) _ _ sh
  refine wpAny_noted ?_
  unfold compTurn
  simp only [h0, h1]
  refine wpAny_bind (wpAny_standAt (wpAny_bind (thnF (turn nn sh hIn) fun r s₁ z₁ => ?_)))
  cases r with
  | none => exact wpAny_pure z₁
  | some v =>
    refine wpAny_bind (thnF z₁ fun _ s₁' z₁' => ?_)
    refine wpAny_bind (thnF z₁' fun _ s₂ z₂ => wpAny_bind (thnF z₂ fun ok s₃ z₃ => ?_))
    cases ok with
    | false => exact wpAny_pure ⟨rfl, z₃⟩
    | true =>
      refine wpAny_bind (thnF z₃ fun x s₄ z₄ => ?_)
      refine wpAny_bind (wpAny_standAt (wpAny_bind (wpAny_of_eq (hs x) (wpAny_bind (wpAny_holding (thnF z₄ fun it1 s₅ z₅ => ?_))))))
      refine wpAny_bind (wpAny_runOwn ?_)
      rw [Around.mark_none]
      refine codeAny_mono z₅ fun r s' hrr => ?_
      cases r with
      | ok f =>
        first
          | exact wpAny_pure ⟨rfl, hrr⟩
          | exact wpAny_bind (wpAny_pure (wpAny_pure ⟨rfl, hrr⟩))
      | error e => exact hrr.elim
theorem loopND_in (h0 : gs[k]? = some ⟨t0, i0, ff0, 0⟩) (h1 : gs[k + 1]? = none) (I : Nat → Shared → Prop)
    (turn : ∀ n s, I n s → wpAny (model P ω) A (pyNext it) (fun r s₁ => match r with
      | none => R (.ok .next) s₁
      | some v => wpAny (model P ω) A (letOwnedTupleGo t0 it v) (fun _ s₁' => wpAny (model P ω) A (assign t0 ε v) (fun _ s₂ =>
          wpAny (model P ω) A (tests ff0 ε) (fun ok s₃ =>
            if ok = true then wpAny (model P ω) A (eval kx ε) (fun kv s₄ => wpAny (model P ω) A (eval vx ε) (fun vv s₅ =>
              wpAny (model P ω) A (dictSet D kv vv) (fun _ s₆ => ∃ m, m < n ∧ I m s₆) (fun _ _ => False) s₅) (fun _ _ => False) s₄) (fun _ _ => False) s₃
            else ∃ m, m < n ∧ I m s₃) (fun _ _ => False) s₂) (fun _ _ => False) s₁') (fun _ _ => False) s₁) (fun _ _ => False) s)
    (n : Nat) (h : I n s) : codeAny (model P ω) A (.compLoop (.DictComp kx vx gs sc ps) k it (.ref D) ε) R s := by
  refine codeAny_loop rfl I (fun nn sh hIn => ?_) n h
  show wpAny _ A ((compTurn (.DictComp kx vx gs sc ps) k it (.ref D) ε).onRaise (fun x => do noteFrame x ε; theTreesLotGoes x)) _ _ sh
  refine wpAny_noted ?_
  unfold compTurn
  simp only [h0, h1]
  refine wpAny_bind (wpAny_standAt (wpAny_bind (thnF (turn nn sh hIn) fun r s₁ z₁ => ?_)))
  cases r with
  | none => exact wpAny_pure z₁
  | some v =>
    refine wpAny_bind (thnF z₁ fun _ s₁' z₁' => ?_)
    refine wpAny_bind (thnF z₁' fun _ s₂ z₂ => wpAny_bind (thnF z₂ fun ok s₃ z₃ => ?_))
    cases ok with
    | false => exact wpAny_pure ⟨rfl, z₃⟩
    | true =>
      first
        | exact wpAny_bind (wpAny_bind (thnF z₃ fun kv s₄ z₄ => wpAny_bind (wpAny_holding (thnF z₄ fun vv s₅ z₅ => wpAny_bind (wpAny_standAt (wpAny_holding (thnF z₅ fun _ s₆ z₆ => wpAny_pure ⟨rfl, z₆⟩)))))))
        | exact wpAny_bind (wpAny_bind (thnF z₃ fun kv s₄ z₄ => wpAny_bind (wpAny_holding (thnF z₄ fun vv s₅ z₅ => wpAny_bind (wpAny_standAt (wpAny_holding (thnF z₅ fun _ s₆ z₆ => wpAny_pure (wpAny_pure ⟨rfl, z₆⟩))))))))
theorem startND (h0 : gs[k]? = some ⟨t0, i0, ff0, 0⟩) (hl : codeAny (model P ω) A (.compLoop (.DictComp kx vx gs sc ps) k it (.ref D) ε) R s)
    (hi : wpAny (model P ω) A (pyIter it) (fun j s' => codeAny (model P ω) A (.compLoop (.DictComp kx vx gs sc ps) k j (.ref D) ε) R s') (fun _ _ => False) s) :
    codeAny (model P ω) A (.compStart (.DictComp kx vx gs sc ps) k it (.ref D) ε) R s := by
  refine codeAny_of_tree ?_
  show wpAny _ _ ((compStart (.DictComp kx vx gs sc ps) k it (.ref D) ε).onRaise (fun x => do noteFrame x ε; standAt theWindowsPlace)) _ _ s
  refine wpAny_notedAt ?_
  unfold compStart
  have hc : (clausesOf (.DictComp kx vx gs sc ps))[k]? = some ⟨t0, i0, ff0, 0⟩ := h0
  simp only [hc]
  show wpAny _ _ (ask >>= _) _ _ s
  refine wpAny_bind (wpAny_askSetting (wpAny_ite ?_))
  split
  · first
      | exact wpAny_bind (wpAny_pure (wpAny_pure ⟨rfl, hl⟩))
      | exact wpAny_pure ⟨rfl, hl⟩
  · refine wpAny_bind (wpAny_rule ?_)
    exact wpAny_bind (wpAny_standAt (wpAny_bind (thnF hi fun j s' z => wpAny_pure ⟨rfl, z⟩)))
end

def tInD (D : Addr) (tk tv : TE) : List Cl → L2.St → Hp → (Hp → Prop) → Prop
  | [], σ, H, Nx => tk σ H fun y Hh4 => tv σ Hh4 fun z Hh5 => ∃ kvs k, y = kV k ∧ Hh5 D = some (.dK kvs) ∧ kvs.length < sizeLine ∧ Nx (upd Hh5 D (.dK (putK kvs k z)))
  | c :: cs, σ, H, Nx => c.wi σ H fun J Hh4 => tLoop (tInD D tk tv cs) J c.g c.tt c.vs σ Hh4 Nx
def tDcN (wi : TI) (g : TG) (tt : TT) (vs : List Nat) (cs : List Cl) (tk tv : TE) : TE := fun σ H Q => wi σ H fun J Hh1 => ∀ D, Hh1 D = none → tLoop (tInD D tk tv cs) J g tt vs σ (upd Hh1 D (.dK [])) (Q (.ref D))
section
variable {X : Cx} {kx vx : Expr} {gs : List Comprehension} {sc : Scope} {ps : Pos} {D : Addr} {tk tv : TE}
theorem loop_okD (hc : X.calm = true) (hx : X.xe = fun _ _ => False) (pk : PE X kx tk) (pe : PE X vx tv) : ∀ (cs : List Cl) (k : Nat) (gl : List Comprehension) (tg iter : Expr) (ifs : List Expr) (g : TG) (tt : TT) (vs : List Nat), gs.drop k = ⟨tg, iter, ifs, 0⟩ :: gl → ClsOk X vs gl cs → PG X tg g → PTs X ifs tt →
    ∀ (pins : List (Addr × Obj)) (J : It) (fp : List Addr) (it : Addr) (tn : Nat → Heap → Prop), Turn X.prog X.w X.K tg J fp it tn → ∀ (s : Shared) (σ : L2.St) (H : Hp) (Nx : Hp → Prop) (R : Result → Shared → Prop), Inv X pins σ H s → tn 0 s.heap → (∀ b ∈ fp, FpOk X pins H b) →
    tLoop (tInD D tk tv cs) J g tt vs σ H Nx → (∀ s' H', Inv X pins (L2.wipe σ vs) H' s' → Nx H' → R (.ok .next) s') → codeAny (model X.prog X.w) X.A (.compLoop (.DictComp kx vx gs sc ps) k (.ref it) (.ref D) X.env) R s := by
  intro cs
  induction cs with
  | nil => ?_
  | cons c cs ih => ?_
  all_goals
    intro k gl tg iter ifs g tt vs hd hcl pg pt pins J fp it tn T s σ H Nx R Iv0 stt0 hf h hR
    obtain ⟨hk, hd1⟩ := drop_at hd
    obtain ⟨W, ⟨m0, ww0⟩, turn⟩ := h
    have stat : ∀ {H' : Hp}, (∀ b ∈ fp, H' b = none) → ∀ b ∈ fp, FpOk X pins H' b := fun hNs b hb => ⟨hNs b hb, (hf b hb).2⟩
    have fin : ∀ (n i : Nat) (sh7 : Shared) (Ny : Hp → Prop), (∀ H', Ny H' → ∃ m', m' < n ∧ W (i + 1) m' H') → tn (i + 1) sh7.heap → ∀ {τ : L2.St} {s' : Shared} {H' : Hp}, Inv X (pins ++ pinsAt fp sh7.heap) τ H' s' → (L2.wipe σ vs).length = τ.length → (∀ (j : Nat) v, (L2.wipe σ vs)[j]? = some (some v) → τ[j]? = some (some v)) → Ny H' →
        ∃ m, m < n ∧ ∃ i H', Inv X pins (L2.wipe σ vs) H' s' ∧ tn i s'.heap ∧ (∀ b ∈ fp, H' b = none) ∧ W i m H' := fun n i sh7 Ny hNy stt7 {τ s' H'} I' hl hkn ny => by
      obtain ⟨m', hm, w'⟩ := hNy H' ny
      have pinAt : ∀ b ∈ fp, ∀ o, sh7.heap.get? b = some o → s'.heap.get? b = some o ∧ H' b = none := fun b hb o e =>
        have z := I'.pin (b, o) (List.mem_append_right _ (List.mem_append_right _ (mem_pinsAt hb e)))
        ⟨z.1, z.2.1⟩
      refine ⟨m', hm, i + 1, H', (I'.unpinned).weak hl hkn, T.keep _ _ _ stt7 fun b hb o e => (pinAt b hb o e).1, fun b hb => ?_, w'⟩
      obtain ⟨o, e, _⟩ := T.obj _ _ stt7 b hb
      exact (pinAt b hb o e).2
    have Iv1 : Inv X pins (L2.wipe σ vs) H s := Iv0.weak (L2.wipe_length _ _) fun j v e => (L2.wipe_some e).1
  · cases hcl
    refine loopND_in hk (drop_nil hd1) (fun n s' => ∃ i H', Inv X pins (L2.wipe σ vs) H' s' ∧ tn i s'.heap ∧ (∀ b ∈ fp, H' b = none) ∧ W i n H') ?_ m0 ⟨0, H, Iv1, stt0, fun b hb => (hf b hb).1, ww0⟩
    rintro n sh5 ⟨i, Hh5, Iv5, stt5, nn5, ww5⟩
    rcases turn i n Hh5 ww5 with ⟨stop, nx⟩ | ⟨go, Ny, hNy, step⟩
    · refine thnF (T.done X rfl rfl rfl hc i pins sh5 _ Hh5 (fun _ _ => False) Iv5 (stat nn5) stt5 stop) fun r sh6 ⟨hrr, Iv6⟩ => ?_
      subst hrr
      exact hR sh6 Hh5 Iv6 nx
    · refine thnF (T.item X rfl rfl rfl hc i pins sh5 _ Hh5 (fun _ _ => False) Iv5 (stat nn5) stt5 go) fun r sh6 ⟨u, hrr, hh6⟩ => ?_
      subst hrr
      refine thnF hh6 fun _ sh7 ⟨x, Hh7, Iv7, r7, y7, stt7, nn7⟩ => ?_
      have p1 := pg.run _ sh7 _ Hh7 x u _ (Iv7.pinned (stat nn7) (T.obj _ _ stt7)) r7 (step x Hh7 y7)
      rw [hx] at p1
      refine thnF p1 fun _ sh8 ⟨τ, Hh8, Iv8, hw8, qq8⟩ => ?_
      have p2 := pt.run _ sh8 τ Hh8 _ Iv8 qq8
      rw [hx] at p2
      refine thnF p2 fun b sh9 ⟨Hh9, Iv9, qq9⟩ => ?_
      have hl8 : (L2.wipe σ vs).length = τ.length := by rw [← hw8, L2.wipe_length]
      have hk8 : ∀ (j : Nat) v, (L2.wipe σ vs)[j]? = some (some v) → τ[j]? = some (some v) := fun j v e => by
        rw [← hw8] at e
        exact (L2.wipe_some e).1
      cases b with
      | false =>
        simp only [Bool.false_eq_true, if_false] at qq9 ⊢
        exact fin n i sh7 Ny hNy stt7 Iv9 hl8 hk8 qq9
      | true =>
        simp only [if_true] at qq9 ⊢
        have p3 := pk.run _ sh9 τ Hh9 _ Iv9 qq9
        rw [hx] at p3
        refine thnF p3 fun z sh17 ⟨yk, Hh17, Iv17, r17, q17⟩ => ?_
        have p4 := pe.run _ sh17 τ Hh17 _ Iv17 q17
        rw [hx] at p4
        refine thnF p4 fun z2 sh18 ⟨yv, Hh18, Iv18, r18, kvs, kk, ek, hD18, hz18, ny⟩ => ?_
        subst ek
        exact d_dictSet Iv18 hD18 hz18 r17 r18 fun sh19 Iv19 => fin n i sh7 Ny hNy stt7 Iv19 hl8 hk8 ny
  · cases hcl with
    | @cons _ tg1 iter1 ifs1 gl1 _ _ hv pi1 pg1 pt1 hs1 hcl1 =>
      refine loopND_out hk (drop_at hd1).1 hs1 (fun n s' => ∃ i H', Inv X pins (L2.wipe σ vs) H' s' ∧ tn i s'.heap ∧ (∀ b ∈ fp, H' b = none) ∧ W i n H') ?_ m0 ⟨0, H, Iv1, stt0, fun b hb => (hf b hb).1, ww0⟩
      rintro n sh5 ⟨i, Hh5, Iv5, stt5, nn5, ww5⟩
      rcases turn i n Hh5 ww5 with ⟨stop, nx⟩ | ⟨go, Ny, hNy, step⟩
      · refine thnF (T.done X rfl rfl rfl hc i pins sh5 _ Hh5 (fun _ _ => False) Iv5 (stat nn5) stt5 stop) fun r sh6 ⟨hrr, Iv6⟩ => ?_
        subst hrr
        exact hR sh6 Hh5 Iv6 nx
      · refine thnF (T.item X rfl rfl rfl hc i pins sh5 _ Hh5 (fun _ _ => False) Iv5 (stat nn5) stt5 go) fun r sh6 ⟨u, hrr, hh6⟩ => ?_
        subst hrr
        refine thnF hh6 fun _ sh7 ⟨x, Hh7, Iv7, r7, y7, stt7, nn7⟩ => ?_
        have p1 := pg.run _ sh7 _ Hh7 x u _ (Iv7.pinned (stat nn7) (T.obj _ _ stt7)) r7 (step x Hh7 y7)
        rw [hx] at p1
        refine thnF p1 fun _ sh8 ⟨τ, Hh8, Iv8, hw8, qq8⟩ => ?_
        have p2 := pt.run _ sh8 τ Hh8 _ Iv8 qq8
        rw [hx] at p2
        refine thnF p2 fun b sh9 ⟨Hh9, Iv9, qq9⟩ => ?_
        have hl8 : (L2.wipe σ vs).length = τ.length := by rw [← hw8, L2.wipe_length]
        have hk8 : ∀ (j : Nat) v, (L2.wipe σ vs)[j]? = some (some v) → τ[j]? = some (some v) := fun j v e => by
          rw [← hw8] at e
          exact (L2.wipe_some e).1
        cases b with
        | false =>
          simp only [Bool.false_eq_true, if_false] at qq9 ⊢
          exact fin n i sh7 Ny hNy stt7 Iv9 hl8 hk8 qq9
        | true =>
          simp only [if_true] at qq9 ⊢
          have p3 := pi1.run _ sh9 τ Hh9 _ Iv9 qq9
          rw [hx] at p3
          refine thnF p3 fun xv sh10 hxv => thnF hxv fun itv sh11 h11 => ?_
          obtain ⟨it1, fp1, tn1, J1, Hh11, e1, Iv11, T1, stt11, f11, lp⟩ := h11
          subst e1
          have loop1 := ih (k + 1) gl1 tg1 iter1 ifs1 c.g c.tt c.vs hd1 hcl1 pg1 pt1 (pins ++ pinsAt fp sh7.heap) J1 fp1 it1 tn1 T1 sh11 τ Hh11 Ny
            (fun r s' => match r with
              | .ok _ => ∃ m, m < n ∧ ∃ i H', Inv X pins (L2.wipe σ vs) H' s' ∧ tn i s'.heap ∧ (∀ b ∈ fp, H' b = none) ∧ W i m H'
              | .error _ => False) Iv11 stt11 f11 lp fun s' H' I' ny => fin n i sh7 Ny hNy stt7 I' (hl8.trans (L2.wipe_length τ c.vs).symm) (fun j v e => by
                rw [← hw8] at e
                obtain ⟨e1, e2⟩ := L2.wipe_some e
                rw [L2.wipe_out fun z => e2 (hv j z)]
                exact e1) ny
          exact startND (drop_at hd1).1 loop1 (T1.self X.A 0 _ _ _ stt11 loop1)
end
section
variable {X : Cx} {kx vx tg iter : Expr} {ifs : List Expr} {gl : List Comprehension} {sc : Scope} {own : List (Str × Nat)} {ps : Pos} {wi : TI} {g : TG} {tt : TT} {tk tv : TE} {cs : List Cl}
theorem dcN_core {pins : List (Addr × Obj)} {s : Shared} {σ : L2.St} {H : Hp} {Q : VK} {ps' : Pos} {use : Option (Value → Sem Unit)} {Qf : Value → Shared → Prop} (hc : X.calm = true) (hN : X.N.Nodup) (I : Inv X pins σ H s) (hi : PI X tg iter wi) (ok : BlkOk X.N X.env.scope sc own)
    (hg : AllBlk X sc fun Y => PG Y tg g) (ht : AllBlk X sc fun Y => PTs Y ifs tt) (hk : AllBlk X sc fun Y => PE Y kx tk) (he : AllBlk X sc fun Y => PE Y vx tv) (hcl : AllBlk X sc fun Y => ClsOk Y (own.map (·.2)) gl cs) (hs : ∀ x, foldedSetIterable iter X.env x = pure x)
    (h : tDcN wi g tt (own.map (·.2)) cs tk tv σ H Q)
    (hEnd : ∀ D C s' m H', Inv X pins σ H' s' → Q (.ref D) H' → s'.heap.Ns C m → FpOk X pins H' C → compPost (model X.prog X.w) X.A X.xe use Qf (.ref D) C (.ok .next) s') :
    wpAny (model X.prog X.w) X.A (comprehension (.DictComp kx vx (⟨tg, iter, ifs, 0⟩ :: gl) sc ps) sc X.env ps' newDict false (eval iter X.env) use) Qf X.xe s := by
  have hfree : ∀ y ∈ sc.names, y.2 = .free → ∃ c, X.env.cells.lookup y.1 = some c := fun y hy e =>
    (ok.free y hy e).elim (fun k => I.ok.has _ (.inl k)) (fun k => I.ok.has _ (.inr k))
  refine wpAny_comprehension_free (use := use) rfl hs (closure_ok hfree) ok.kind (fun y hy e => by rw [ok.uniq y hy, e]) (thn (hi.run pins s σ H _ I h) fun xv sh1 hxx => thn hxx fun itv sh2 h2 => ?_)
  obtain ⟨it, fp, tn, J, Hh2, e, Iv2, T, stt2, ff2, q⟩ := h2
  subst e
  refine wpAny_newObj_type (newEnv_comp ?_)
  generalize eqD : sh2.heap.objs.size = D
  have eqDn : Hh2 D = none := Iv2.hok.fresh (Nat.le_of_eq eqD)
  have lp := q D eqDn
  generalize hs3 : ({ sh2 with heap := sh2.heap.push { cls := .type "dict", data := .dict #[] } } : Shared) = sh3
  have h3 : sh3.heap = sh2.heap.push { cls := .type "dict", data := .dict #[] } := by subst hs3; rfl
  have Iv3 : Inv X pins σ (upd Hh2 D (.dK [])) sh3 := by
    subst hs3
    refine Iv2.laid (t' := sh2.toks) (fun b o e => Heap.get?_push_of_some _ e) (Nat.le_of_eq eqD) ?_
    subst eqD
    exact dk_empty sh2.heap Iv2.big
  have sz : ∀ b ∈ fp, b < sh2.heap.objs.size := fun b hb => (T.obj _ _ stt2 b hb).elim fun o e => Heap.lt_size e.1
  have ff3 : ∀ b ∈ fp, FpOk X pins (upd Hh2 D (.dK [])) b ∧ b < sh3.heap.objs.size := fun b hb =>
    ⟨⟨by rw [upd_ne (by rw [← eqD]; exact Nat.ne_of_lt (sz b hb))]; exact (ff2 b hb).1, (ff2 b hb).2⟩, by rw [h3, Heap.size_push]; exact Nat.lt_succ_of_lt (sz b hb)⟩
  have stt3 : tn 0 sh3.heap := T.keep _ _ _ stt2 fun b _ o e => by rw [h3]; exact Heap.get?_push_of_some _ e
  have Iv4 := block_start Iv3 ok hN ff3
  have pg := hg sh3 (upd Hh2 D (.dK [])) sh3.heap.objs.size (cellsFrom (sh3.heap.objs.size + 1) sc.names (cloFrom X.env.cells sc.names [])) fp
  have pt := ht sh3 (upd Hh2 D (.dK [])) sh3.heap.objs.size (cellsFrom (sh3.heap.objs.size + 1) sc.names (cloFrom X.env.cells sc.names [])) fp
  have pe := he sh3 (upd Hh2 D (.dK [])) sh3.heap.objs.size (cellsFrom (sh3.heap.objs.size + 1) sc.names (cloFrom X.env.cells sc.names [])) fp
  have pk := hk sh3 (upd Hh2 D (.dK [])) sh3.heap.objs.size (cellsFrom (sh3.heap.objs.size + 1) sc.names (cloFrom X.env.cells sc.names [])) fp
  have pc := hcl sh3 (upd Hh2 D (.dK [])) sh3.heap.objs.size (cellsFrom (sh3.heap.objs.size + 1) sc.names (cloFrom X.env.cells sc.names [])) fp
  show codeAny _ _ (.compStart (.DictComp kx vx (⟨tg, iter, ifs, 0⟩ :: gl) sc ps) 0 (.ref it) (.ref D) (compEnvC sc (cellsFrom (sh3.heap.objs.size + 1) sc.names (cloFrom X.env.cells sc.names [])) sh3.heap.objs.size X.env)) (compPost (model X.prog X.w) X.A X.xe use Qf (.ref D) sh3.heap.objs.size) { sh3 with heap := pushCells (sh3.heap.push { cls := .type "dict", data := .dict #[] }) sc.names }
  have noFp : ∀ b ∈ fp, (upd Hh2 D (.dK [])) b = none := fun b hb => (ff3 b hb).1.1
  generalize hce : compEnvC sc (cellsFrom (sh3.heap.objs.size + 1) sc.names (cloFrom X.env.cells sc.names [])) sh3.heap.objs.size X.env = ce at Iv4 pg pt pk pe pc ⊢
  have locC : ce.locals = sh3.heap.objs.size := by subst hce; rfl
  generalize hH3 : upd Hh2 D (.dK []) = Hh3 at Iv3 Iv4 pg pt pk pe pc lp noFp ff3
  generalize hs4 : ({ sh3 with heap := pushCells (sh3.heap.push { cls := .type "dict", data := .dict #[] }) sc.names } : Shared) = sh4 at Iv4 ⊢
  have stt4 : tn 0 sh4.heap := T.keep _ _ _ stt3 fun b _ o e => by subst hs4; exact pushCells_keeps _ _ _ _ (Heap.get?_push_of_some _ e)
  have stat : ∀ b ∈ fp, FpOk (X.blk sh3 Hh3 sc ce fp) [] Hh3 b := fun b hb =>
    ⟨noFp b hb, (Iv4.ok.exf b hb).1, Iv4.ok.exfs b hb, .inl hb, fun x c e => (Iv4.ok.exf b hb).2 x c e, fun p hp => absurd (show p ∈ ([] : List (Addr × Obj)) ++ [] from hp) (by simp)⟩
  have lp' : tLoop (tInD D tk tv cs) J g tt (own.map (·.2)) (L2.wipe σ (own.map (·.2))) Hh3 (Q (.ref D)) := by
    unfold tLoop
    rw [wipe_wipe]
    exact lp
  have loop : codeAny (model X.prog X.w) X.A (.compLoop (.DictComp kx vx (⟨tg, iter, ifs, 0⟩ :: gl) sc ps) 0 (.ref it) (.ref D) ce) (compPost (model X.prog X.w) X.A X.xe use Qf (.ref D) sh3.heap.objs.size) sh4 := by
    refine loop_okD (X := X.blk sh3 Hh3 sc ce fp) hc rfl pk pe cs 0 gl tg iter ifs g tt _ rfl pc pg pt [] J fp it tn T sh4 _ Hh3 _ _ Iv4 stt4 stat lp' fun sh6 Hh5 Iv6 qq => ?_
    have Iv7 : Inv X pins σ Hh5 sh6 := Iv3.call' (ch := fp) Iv6.os Iv6.base Iv6.hok Iv6.bare fun b hb => ⟨(ff3 b hb).1.2.2.2.1, (ff3 b hb).1.2.1, (ff3 b hb).1.2.2.2.2.1, (ff3 b hb).1.2.2.2.2.2⟩
    have nC : Hh5 sh3.heap.objs.size = none := by rw [← locC]; exact Iv6.free
    obtain ⟨m, hNs, _⟩ := Iv6.loc
    have hNs : sh6.heap.Ns ce.locals m := hNs
    rw [locC] at hNs
    exact hEnd D sh3.heap.objs.size sh6 m Hh5 Iv7 qq hNs (Iv3.fpOk (Nat.le_refl _) nC)
  exact codeAny_compStart_dict loop (T.self X.A 0 _ _ _ stt4 loop)
theorem pe_dcN (hc : X.calm = true) (hN : X.N.Nodup) (hi : PI X tg iter wi) (ok : BlkOk X.N X.env.scope sc own) (hg : AllBlk X sc fun Y => PG Y tg g) (ht : AllBlk X sc fun Y => PTs Y ifs tt) (hk : AllBlk X sc fun Y => PE Y kx tk) (he : AllBlk X sc fun Y => PE Y vx tv) (hcl : AllBlk X sc fun Y => ClsOk Y (own.map (·.2)) gl cs) (hs : ∀ x, foldedSetIterable iter X.env x = pure x := by intro _; rfl) :
    PE X (.DictComp kx vx (⟨tg, iter, ifs, 0⟩ :: gl) sc ps) (tDcN wi g tt (own.map (·.2)) cs tk tv) := by
  refine ⟨fun pins s σ H Q I h => ?_⟩
  rw [arm_eval_DictComp]
  refine dcN_core hc hN I hi ok hg ht hk he hcl hs h fun D C s' m H' I' q hNs f => ⟨m, hNs, fun h'' sb => ?_⟩
  obtain ⟨ff0, ff1, ff2, ff3, ff4, ff5⟩ := f
  exact ⟨.ref D, H', I'.turned (t' := s'.toks) (fun b o hb e => (sb.2 b hb).trans e) ff0 ff1 ff3 ff4 ff5, rfl, q⟩
end
end PD

namespace PD
open PySem PySem.Spec PyProof.Rows L2
/-! ### dict comprehensions: the mirror -/
def putP (es : List (Key × D)) (k : Key) (d : D) : List (Key × D) := if hasK es k = true then es.map (fun e => if e.1 = k then (e.1, d) else e) else es ++ [(k, d)]
theorem putP_len (es : List (Key × D)) (k : Key) (d : D) : (putP es k d).length ≤ es.length + 1 := by
  unfold putP
  split <;> simp
theorem RepD.any {K M H} (k : Key) : ∀ {ps es}, RepD K M H ps es → (ps.any fun kv => decide (kv.1 = k)) = hasK es k
  | _, _, .nil => rfl
  | _, _, .cons (k := k') r t => by
    have := RepD.any k t
    unfold hasK at this ⊢
    rw [List.any_cons, List.any_cons, this]
theorem RepD.rep {K M H v d} (k : Key) (r : Rep K M H v d) : ∀ {ps es}, RepD K M H ps es → RepD K M H (ps.map fun kv => if kv.1 = k then (kv.1, v) else kv) (es.map fun e => if e.1 = k then (e.1, d) else e)
  | _, _, .nil => .nil
  | _, _, .cons (k := k') r' t => by
    rw [List.map_cons, List.map_cons]
    dsimp only
    by_cases h : k' = k
    · rw [if_pos h, if_pos h]
      exact .cons r (RepD.rep k r t)
    · rw [if_neg h, if_neg h]
      exact .cons r' (RepD.rep k r t)
theorem RepD.put {K M H ps es v d} (R : RepD K M H ps es) (k : Key) (r : Rep K M H v d) : RepD K M H (putK ps k v) (putP es k d) := by
  unfold putK putP
  rw [R.any k]
  split
  · exact RepD.rep k r R
  · exact R.app r
def putAll (es out : List (Key × D)) : List (Key × D) := out.foldl (fun es e => putP es e.1 e.2) es
theorem putAll_len (out : List (Key × D)) : ∀ es : List (Key × D), (putAll es out).length ≤ es.length + out.length := by
  induction out with
  | nil => intro es; exact Nat.le_refl _
  | cons e out ih =>
    intro es
    have h1 := ih (putP es e.1 e.2)
    have h2 := putP_len es e.1 e.2
    show (putAll (putP es e.1 e.2) out).length ≤ _
    rw [List.length_cons]
    omega
theorem putAll_app (es a b : List (Key × D)) : putAll es (a ++ b) = putAll (putAll es a) b := List.foldl_append ..
def SndRD (K : PySem.W.Frag) (A : Addr) (rest : L2.St → Hp → (Hp → Prop) → Prop) (mr : MP) : Prop :=
  ∀ F σ H ρ δ out δ' kvs es (Nx : Hp → Prop), Good K F σ H ρ δ → Grows F A → H A = some (.dK kvs) → RepD K (Mm F σ ρ) H kvs es → mr ρ δ = some (out, δ') → es.length + out.length ≤ sizeLine →
    (∀ H' kvs', Good K F σ H' ρ δ' → Mv (Mm F σ ρ) H (Mm F σ ρ) H' → H' A = some (.dK kvs') → RepD K (Mm F σ ρ) H' kvs' (putAll es out) → Nx H') → rest σ H Nx
def kOne (mk mv : ME) : MP := fun ρ δ => (mk ρ δ).bind fun p => (keyOf p.1).bind fun k => (mv ρ p.2).map fun q => ([(k, q.1)], q.2)
def compK (g : MG) (tt : MT) (mr : MP) (ρ : List Sl) : List D → Dk → Option (List (Key × D) × Dk)
  | [], δ => some ([], δ)
  | d :: ds, δ => (g d ρ).bind fun ρ2 => (tt ρ2 δ).bind fun p => if p.1 = true then (mr ρ2 p.2).bind fun q => (compK g tt mr ρ ds q.2).map fun r => (q.1 ++ r.1, r.2) else compK g tt mr ρ ds p.2
def kFor (mi : MA) (vs : List Nat) (g : MG) (tt : MT) (mr : MP) : MP := fun ρ δ => (mi ρ δ).bind fun p => if noU ρ vs = true then compK g tt mr (wipeR ρ vs) p.1 p.2 else none
def mDcN (mr : MP) : ME := fun ρ δ => (mr ρ δ).bind fun q => if q.1.length ≤ sizeLine then some (.dict ((putAll [] q.1).map fun e => (keyD e.1, e.2)), q.2) else none
theorem snd_kOne {K A tk tv mk mv} (hk : Snd K tk mk) (hv : Snd K tv mv) : SndRD K A (tInD A tk tv []) (kOne mk mv) := fun F σ H ρ δ out δ' kvs es Nx G gr hA RD e hz q => by
  obtain ⟨⟨y, δ1⟩, e1, e⟩ := Option.bind_eq_some_iff.mp e
  obtain ⟨k, e2, e⟩ := Option.bind_eq_some_iff.mp e
  obtain ⟨⟨z, δ2⟩, e3, e⟩ := Option.map_eq_some_iff.mp e
  cases e
  refine hk (F.pin A (.dK kvs)) σ H ρ δ y δ1 (G.pin gr.m hA) e1 _ fun v H5 G5 M5 R5 => ?_
  refine hv (F.pin A (.dK kvs)) σ H5 ρ δ1 z δ2 G5 e3 _ fun v2 H6 G6 M6 R6 => ?_
  rw [Mm_pin] at M5 R5 M6 R6
  have ky := keyOf_rep R5 e2
  have hA6 := G6.fr A _ upd_same gr.k
  have RD6 := RD.mv (M5.trans M6)
  obtain ⟨GC, MC⟩ := (Good.unpin gr.z gr.m G6).writeM (o := .dK (putK kvs k v2)) gr.m gr.k gr.z
  refine ⟨kvs, k, ky, hA6, ?_, q _ _ GC ((M5.trans M6).trans MC) upd_same ((RD6.put k R6).mv MC)⟩
  rw [RD6.len]
  exact Nat.lt_of_succ_le (by simpa using hz)
theorem snd_loopK {K A rest mr g tt mg mt vs} {sl : List Nat} (hr : SndRD K A rest mr) (hg : SndG K sl g mg) (ht : SndT K tt mt) (hs : ∀ i ∈ sl, i ∈ vs) {F σ H1 ρ δ1 δ2 J kvs es} {ds : List D} {out : List (Key × D)} {Nx : Hp → Prop} (hu : noU ρ vs = true)
    (e2 : compK mg mt mr (wipeR ρ vs) ds δ1 = some (out, δ2)) (G1 : Good K F σ H1 ρ δ1) (gr : Grows F A) (hA : H1 A = some (.dK kvs)) (RD : RepD K (Mm F σ ρ) H1 kvs es) (hz : es.length + out.length ≤ sizeLine) (Wk : Walks K (Mm F σ ρ) H1 J ds)
    (q : ∀ H' kvs', Good K F σ H' ρ δ2 → Mv (Mm F σ ρ) H1 (Mm F σ ρ) H' → H' A = some (.dK kvs') → RepD K (Mm F σ ρ) H' kvs' (putAll es out) → Nx H') : tLoop rest J g tt vs σ H1 Nx := by
  have GW := G1.wipe (vs := vs) hu
  have eM : Mm F (L2.wipe σ vs) (wipeR ρ vs) = Mm F σ ρ := Mm_wipe hu
  refine ⟨fun i m H => m = ds.length - i ∧ i ≤ ds.length ∧ ∃ δ3 done more kv, Good K F (L2.wipe σ vs) H (wipeR ρ vs) δ3 ∧ Mv (Mm F σ ρ) H1 (Mm F σ ρ) H ∧ H A = some (.dK kv) ∧ RepD K (Mm F σ ρ) H kv (putAll es done) ∧
    compK mg mt mr (wipeR ρ vs) (ds.drop i) δ3 = some (more, δ2) ∧ done ++ more = out, ⟨_, rfl, Nat.zero_le _, δ1, [], out, kvs, GW, Mv.refl _ _, hA, RD, e2, rfl⟩, ?_⟩
  rintro i m H2 ⟨rfl, hile, δ3, done, more, kv, G2, M2, hA2, rx, ec, eo⟩
  have wf2 : ∀ a, Mm F σ ρ a → H2 a ≠ none := by rw [← eM]; exact G2.mm
  by_cases hlt : i < ds.length
  · obtain ⟨go, yl⟩ := (Wk _ H2 M2 wf2 i).1 hlt
    rw [List.drop_eq_getElem_cons hlt] at ec
    refine .inr ⟨go, fun H' => ∃ δ3 done more kv, Good K F (L2.wipe σ vs) H' (wipeR ρ vs) δ3 ∧ Mv (Mm F σ ρ) H1 (Mm F σ ρ) H' ∧ H' A = some (.dK kv) ∧ RepD K (Mm F σ ρ) H' kv (putAll es done) ∧
      compK mg mt mr (wipeR ρ vs) (ds.drop (i + 1)) δ3 = some (more, δ2) ∧ done ++ more = out, fun H' h => ⟨ds.length - (i + 1), by omega, rfl, hlt, h⟩, fun x H3 hy => ?_⟩
    obtain ⟨kp, dx, edx, rdx⟩ := yl x H3 hy
    rw [List.getElem?_eq_getElem hlt] at edx
    cases edx
    replace G2 := G2.keep kp
    replace M2 := M2.trans (Mv.same kp)
    replace hA2 := kp _ _ hA2
    replace rx := rx.mv (Mv.same kp)
    unfold compK at ec
    obtain ⟨ρ2, b1, ec⟩ := Option.bind_eq_some_iff.mp ec
    obtain ⟨⟨b, δ4⟩, b2, ec⟩ := Option.bind_eq_some_iff.mp ec
    dsimp only at ec
    refine hg (F.pin A (.dK kv)) (L2.wipe σ vs) H3 (wipeR ρ vs) δ3 x _ ρ2 (G2.pin gr.m hA2) (by rw [Mm_pin, eM]; exact rdx) b1 _ fun τ G3 M3 T3 => ?_
    obtain ⟨w1, w2⟩ := T3.wipes hs
    rw [wipe_wipe] at w1
    rw [wipeR_wipeR] at w2
    have hu2 : noU ρ2 vs = true := T3.noU (noU_wipe ρ vs)
    have eM2 : Mm F τ ρ2 = Mm F σ ρ := by rw [← Mm_wipe hu2, w1, w2, eM]
    refine ⟨w1, ht (F.pin A (.dK kv)) τ H3 ρ2 δ3 b δ4 G3 b2 _ fun H4 G4 M4 => ?_⟩
    rw [Mm_pin, eM2] at M4
    have G5 := Good.unpin gr.z gr.m G4
    have hA4 := G4.fr A _ upd_same gr.k
    cases b with
    | false =>
      refine iteF ?_
      rw [if_neg Bool.false_ne_true] at ec
      have GB := G5.wipe hu2
      rw [w1, w2] at GB
      exact ⟨δ4, done, more, kv, GB, M2.trans M4, hA4, rx.mv M4, ec, eo⟩
    | true =>
      refine iteT ?_
      rw [if_pos rfl] at ec
      obtain ⟨⟨ys, δ5⟩, b3, ec⟩ := Option.bind_eq_some_iff.mp ec
      obtain ⟨⟨more2, δ6⟩, b4, ec⟩ := Option.map_eq_some_iff.mp ec
      cases ec
      have hlen : out.length = done.length + (ys.length + more2.length) := by rw [← eo]; simp
      have hpl := putAll_len done es
      refine hr F τ H4 ρ2 δ4 ys δ5 kv (putAll es done) _ G5 gr hA4 (by rw [eM2]; exact rx.mv M4) b3 (by omega) fun H6 kv6 G6 M6 hA6 R6 => ?_
      rw [eM2] at M6 R6
      have GB := G6.wipe hu2
      rw [w1, w2] at GB
      exact ⟨δ5, done ++ ys, more2, kv6, GB, (M2.trans M4).trans M6, hA6, by rw [putAll_app]; exact R6, b4, by rw [← eo]; simp⟩
  · have hi' : i = ds.length := by omega
    subst hi'
    refine .inl ⟨(Wk _ H2 M2 wf2 ds.length).2 (Nat.le_refl _), ?_⟩
    rw [List.drop_of_length_le (Nat.le_refl _)] at ec
    cases ec
    rw [List.append_nil] at eo
    subst eo
    exact q _ kv (G1.unwipe hu G2 M2) M2 hA2 rx
theorem sndK_cons {K A tk tv mr mi mg mt} {c : Cl} {cs : List Cl} {sl : List Nat} (hr : SndRD K A (tInD A tk tv cs) mr) (hi : SndI K c.wi mi) (hg : SndG K sl c.g mg) (ht : SndT K c.tt mt) (hs : ∀ i ∈ sl, i ∈ c.vs) : SndRD K A (tInD A tk tv (c :: cs)) (kFor mi c.vs mg mt mr) := fun F σ H ρ δ out δ' kvs es Nx G gr hA RD e hz q => by
  obtain ⟨⟨ds, δ1⟩, e1, e⟩ := Option.bind_eq_some_iff.mp e
  dsimp only at e
  split at e
  · rename_i hu
    refine hi (F.pin A (.dK kvs)) σ H ρ δ ds δ1 (G.pin gr.m hA) e1 _ fun J H1 G1 M1 Wk => ?_
    rw [Mm_pin] at M1 Wk
    exact snd_loopK hr hg ht hs hu e (Good.unpin gr.z gr.m G1) gr (G1.fr A _ upd_same gr.k) (RD.mv M1) hz Wk fun H' xs G' M' hA' R' => q H' xs G' (M1.trans M') hA' R'
  · cases e
theorem snd_dcN {K tk tv mr wi g tt vs mi mg mt} {cs : List Cl} {sl : List Nat} (hr : ∀ A, SndRD K A (tInD A tk tv cs) mr) (hi : SndI K wi mi) (hg : SndG K sl g mg) (ht : SndT K tt mt) (hs : ∀ i ∈ sl, i ∈ vs) : Snd K (tDcN wi g tt vs cs tk tv) (mDcN (kFor mi vs mg mt mr)) := fun F σ H ρ δ d δ' G e Q q => by
  obtain ⟨⟨out, δ2⟩, e0, e⟩ := Option.bind_eq_some_iff.mp e
  obtain ⟨⟨ds, δ1⟩, e1, e0⟩ := Option.bind_eq_some_iff.mp e0
  dsimp only at e e0
  split at e
  · rename_i hz
    split at e0
    · rename_i hu
      cases e
      refine hi F σ H ρ δ ds δ1 G e1 _ fun J H1 G1 M1 Wk A hA => ?_
      obtain ⟨GP, MP⟩ := G1.plus (o := .dK []) hA
      have gr : Grows (F.plus A) A := ⟨.inr rfl, G1.fresh0 hA, fun p hp => ⟨(ne_of_none (G1.dck p hp).2.2.2.one hA).symm, (ne_of_none (G1.dck p hp).2.2.2.two hA).symm, (ne_of_none (G1.dck p hp).2.2.2.tri hA).symm⟩⟩
      refine snd_loopK (hr A) hg ht hs hu e0 GP gr upd_same .nil (by simpa using hz) (Wk.mv MP) fun H' xs G' M' hA' R' => ?_
      have an : Mv (Mm (F.plus A) σ ρ) H' (Mm F σ ρ) H' := fun a o e n => ⟨e, fun z => n (by rw [Mm_plus]; exact .inl z)⟩
      have M3 := (MP.trans M').trans an
      exact q _ _ (Good.back (vs := []) G1 rfl hA G' M3) (M1.trans M3) (.dic (G1.mfree hA) (.inl hA') (R'.mv an).repK)
    · cases e0
  · cases e
section
variable {X : Cx} {kx vx tg iter : Expr} {ifs : List Expr} {gl : List Comprehension} {sc : Scope} {own : List (Str × Nat)} {ps : Pos} {mi : MA} {mg : MG} {mt : MT} {mk mv : ME} {mr : MP} {sl vs vs1 : List Nat}
structure BlkK (X : Cx) (sc : Scope) (vs : List Nat) (gl : List Comprehension) (kx vx : Expr) (mr : MP) : Prop where
  ex : ∃ cs tk tv, (AllBlk X sc fun Y => ClsOk Y vs gl cs) ∧ (AllBlk X sc fun Y => PE Y kx tk) ∧ (AllBlk X sc fun Y => PE Y vx tv) ∧ ∀ A, SndRD X.K A (tInD A tk tv cs) mr
theorem bk_nil (e : AllBlk X sc fun Y => PD Y kx mk) (f : AllBlk X sc fun Y => PD Y vx mv) : BlkK X sc vs [] kx vx (kOne mk mv) :=
  ⟨[], fun σ H Q => ∀ s h C cl fp, (e s h C cl fp).ex.choose σ H Q, fun σ H Q => ∀ s h C cl fp, (f s h C cl fp).ex.choose σ H Q, fun _ _ _ _ _ => .nil, fun s h C cl fp => ⟨fun pins s' σ H Q I q => (e s h C cl fp).ex.choose_spec.1.run pins s' σ H Q I (q s h C cl fp)⟩, fun s h C cl fp => ⟨fun pins s' σ H Q I q => (f s h C cl fp).ex.choose_spec.1.run pins s' σ H Q I (q s h C cl fp)⟩,
    fun A => snd_kOne (fun F σ H ρ δ d δ' G e' Q q s h C cl fp => (e s h C cl fp).ex.choose_spec.2 F σ H ρ δ d δ' G e' Q q) (fun F σ H ρ δ d δ' G e' Q q s h C cl fp => (f s h C cl fp).ex.choose_spec.2 F σ H ρ δ d δ' G e' Q q)⟩
theorem bk_cons (hv : ∀ i ∈ vs1, i ∈ vs) (i : AllBlk X sc fun Y => PDI Y tg iter mi) (g : AllBlk X sc fun Y => PDG Y tg sl mg) (t : AllBlk X sc fun Y => PDTs Y ifs mt) (o : ∀ i ∈ sl, i ∈ vs1) (B : BlkK X sc vs1 gl kx vx mr) (hs : AllBlk X sc fun Y => ∀ x, foldedSetIterable iter Y.env x = pure x := by intro _ _ _ _ _ _; rfl) :
    BlkK X sc vs (⟨tg, iter, ifs, 0⟩ :: gl) kx vx (kFor mi vs1 mg mt mr) := by
  obtain ⟨cs, tk, tv, c1, c2, c4, c3⟩ := B.ex
  refine ⟨⟨fun σ H R => ∀ s h C cl fp, (i s h C cl fp).ex.choose σ H R, fun v σ H Q => ∀ s h C cl fp, (g s h C cl fp).ex.choose v σ H Q, fun σ H Q => ∀ s h C cl fp, (t s h C cl fp).ex.choose σ H Q, vs1⟩ :: cs, tk, tv, fun s h C cl fp => .cons hv ?_ ?_ ?_ (hs s h C cl fp) (c1 s h C cl fp), c2, c4, fun A => sndK_cons (sl := sl) (c3 A) ?_ ?_ ?_ o⟩
  · exact ⟨fun pins s' σ H R I q => (i s h C cl fp).ex.choose_spec.1.run pins s' σ H R I (q s h C cl fp)⟩
  · exact ⟨fun pins s' σ H v u Q I r q => (g s h C cl fp).ex.choose_spec.1.run pins s' σ H v u Q I r (q s h C cl fp)⟩
  · exact ⟨fun pins s' σ H Q I q => (t s h C cl fp).ex.choose_spec.1.run pins s' σ H Q I (q s h C cl fp)⟩
  · exact fun F σ H ρ δ ds δ' G e R q s h C cl fp => (i s h C cl fp).ex.choose_spec.2 F σ H ρ δ ds δ' G e R q
  · exact fun F σ H ρ δ v d ρ' G r e Q q s h C cl fp => (g s h C cl fp).ex.choose_spec.2 F σ H ρ δ v d ρ' G r e Q q
  · exact fun F σ H ρ δ d δ' G e Q q s h C cl fp => (t s h C cl fp).ex.choose_spec.2 F σ H ρ δ d δ' G e Q q
theorem pd_dcN (hc : X.calm = true) (hN : X.N.Nodup) (hi : PDI X tg iter mi) (ok : BlkOk X.N X.env.scope sc own) (g : AllBlk X sc fun Y => PDG Y tg sl mg) (t : AllBlk X sc fun Y => PDTs Y ifs mt) (o : ∀ i ∈ sl, i ∈ own.map (·.2)) (B : BlkK X sc (own.map (·.2)) gl kx vx mr) (hs : ∀ x, foldedSetIterable iter X.env x = pure x := by intro _; rfl) :
    PD X (.DictComp kx vx (⟨tg, iter, ifs, 0⟩ :: gl) sc ps) (mDcN (kFor mi (own.map (·.2)) mg mt mr)) := by
  obtain ⟨wi, h1, s1⟩ := hi.ex
  obtain ⟨cs, tk, tv, c1, c2, c4, c3⟩ := B.ex
  refine ⟨tDcN wi (fun v σ H Q => ∀ s h C cl fp, (g s h C cl fp).ex.choose v σ H Q) (fun σ H Q => ∀ s h C cl fp, (t s h C cl fp).ex.choose σ H Q) _ cs tk tv, pe_dcN hc hN h1 ok ?_ ?_ c2 c4 c1 hs, snd_dcN (sl := sl) c3 s1 ?_ ?_ o⟩
  · exact fun s h C cl fp => ⟨fun pins s' σ H v u Q I r q => (g s h C cl fp).ex.choose_spec.1.run pins s' σ H v u Q I r (q s h C cl fp)⟩
  · exact fun s h C cl fp => ⟨fun pins s' σ H Q I q => (t s h C cl fp).ex.choose_spec.1.run pins s' σ H Q I (q s h C cl fp)⟩
  · exact fun F σ H ρ δ v d ρ' G r e Q q s h C cl fp => (g s h C cl fp).ex.choose_spec.2 F σ H ρ δ v d ρ' G r e Q q
  · exact fun F σ H ρ δ d δ' G e Q q s h C cl fp => (t s h C cl fp).ex.choose_spec.2 F σ H ρ δ d δ' G e Q q
end
end PD

namespace PD
open PySem PySem.Spec PyProof.Rows L2
/-! ### a list of the def's own that is read and changed: len(x), x[i], x[i] = e, x.pop(i) -/
theorem Reps.set {K M H v d} (r : Rep K M H v d) : ∀ {vs ds} (i : Nat), Reps K M H vs ds → Reps K M H (vs.set i v) (ds.set i d)
  | _, _, _, .nil => .nil
  | _, _, 0, .cons _ t => .cons r t
  | _, _, i + 1, .cons q t => .cons q (Reps.set r i t)
theorem Reps.erase {K M H} : ∀ {vs ds} (i : Nat), Reps K M H vs ds → Reps K M H (vs.eraseIdx i) (ds.eraseIdx i)
  | _, _, _, .nil => .nil
  | _, _, 0, .cons _ t => t
  | _, _, i + 1, .cons q t => .cons q (Reps.erase i t)
def mLenU (i : Nat) : ME := fun ρ δ => match ρ[i]? with
  | some (.own (.lst ds)) => some (.int ds.length, δ)
  | _ => none
def mIxU (i : Nat) (m : ME) : ME := fun ρ δ => match ρ[i]? with
  | some (.own (.lst ds)) => (m ρ δ).bind fun p => match p.1 with
    | .int j => (atI ds j).map fun d => (d, p.2)
    | _ => none
  | _ => none
def sSetU (i : Nat) (m mi : ME) : MS := fun ρ δ => match ρ[i]? with
  | some (.own (.lst ds)) => (m ρ δ).bind fun p => (mi ρ p.2).bind fun q => match q.1 with
    | .int j => (ixN ds.length j).map fun n => (.nx, ρ.set i (.uni (ds.set n p.1)), q.2)
    | _ => none
  | _ => none
/-- an expression that changes the slots -/
abbrev MX := List Sl → Dk → Option (D × List Sl × Dk)
def SndX (K : PySem.W.Frag) (te : TE) (mx : MX) : Prop := ∀ F σ H ρ δ d ρ' δ', Good K F σ H ρ δ → mx ρ δ = some (d, ρ', δ') → ∀ Q : V → Hp → Prop, (∀ v H', Good K F σ H' ρ' δ' → Mv (Mm F σ ρ) H (Mm F σ ρ') H' → Rep K (Mm F σ ρ') H' v d → Q v H') → te σ H Q
def xPop (i : Nat) (m : ME) : MX := fun ρ δ => match ρ[i]? with
  | some (.own (.lst ds)) => (m ρ δ).bind fun p => match p.1 with
    | .int j => if ds.length ≤ sizeLine then (ixN ds.length j).bind fun n => (ds[n]?).map fun d => (d, ρ.set i (.uni (ds.eraseIdx n)), p.2) else none
    | _ => none
  | _ => none
def xBin (f : D → D → Option D) (m : ME) (mx : MX) : MX := fun ρ δ => (m ρ δ).bind fun p => (mx ρ p.2).bind fun q => (f p.1 q.1).map fun z => (z, q.2)
def sAsgX (mx : MX) (g : MG) : MS := fun ρ δ => (mx ρ δ).bind fun p => (g p.1 p.2.1).map fun ρ1 => (.nx, ρ1, p.2.2)
section
variable {X : Cx} {a b e tg : Expr} {ma mb : ME} {mx : MX} {p p0 pos : Pos} {x : Str} {sl : List Nat} {mg : MG}
theorem pd_lenU (i : Nat) (hm : X.mg "len" = none) (hN : X.N[i]? = some x := by rfl) (hv : Vis X.env.scope x := by first | exact Or.inl rfl | exact Or.inr (Or.inl rfl) | exact Or.inr (Or.inr rfl)) (hyd : (x == ("__debug__" : Str)) = false := by decide) (hcd : (x == ("__classdict__" : Str)) = false := by decide) (hg : Gl X "len" := by rfl)
    (he : starEach [.Name x p0] X.env = (false, eval (.Name x p0) X.env) :: starEach [] X.env := by rfl) (hpl : (backTo pos (starEach [] X.env)).any (·.1) = false := by rfl) :
    PD X (.Call (.Name "len" p) [.Name x p0] [] pos) (mLenU i) := by
  refine ⟨_, pe_callB call_len hg hm PySem.boot_len (pa_cons (pe_var hN hv hyd hcd) pa_nil he) (by decide) (by decide) he hpl, fun F σ H ρ δ d δ' G e Q q => ?_⟩
  unfold mLenU at e
  split at e
  · rename_i ds hi
    cases e
    obtain ⟨c, xs, f1, f2, f3, f4⟩ := G.uni i ds hi
    refine ⟨_, f1, _, _, rfl, .inl ⟨_, SqL.of f2, rfl⟩, ?_⟩
    rw [f3.length]
    exact q _ _ G (Mv.refl _ _) (.int _)
  · cases e
theorem pd_ixU (i : Nat) (hb : PD X b mb) (hN : X.N[i]? = some x := by rfl) (hv : Vis X.env.scope x := by first | exact Or.inl rfl | exact Or.inr (Or.inl rfl) | exact Or.inr (Or.inr rfl)) (hyd : (x == ("__debug__" : Str)) = false := by decide) (hcd : (x == ("__classdict__" : Str)) = false := by decide) (hs : PlainIx b := by exact fun _ _ => rfl) :
    PD X (.Subscript (.Name x p0) b pos) (mIxU i mb) := by
  obtain ⟨tb, h2, s2⟩ := hb.ex
  refine ⟨_, pe_ix ix_list (pe_var hN hv hyd hcd) h2 hs, fun F σ H ρ δ d δ' G e Q q => ?_⟩
  unfold mIxU at e
  split at e
  · rename_i ds hi
    obtain ⟨⟨y, δ1⟩, e1, e⟩ := Option.bind_eq_some_iff.mp e
    dsimp only at e
    split at e
    · obtain ⟨c, e2, e⟩ := Option.map_eq_some_iff.mp e
      cases e
      obtain ⟨a1, xs, f1, f2, f3, f4⟩ := G.uni i ds hi
      refine ⟨_, f1, s2 F σ H ρ δ _ _ G e1 _ fun u H1 G1 M1 R1 => ?_⟩
      cases R1
      obtain ⟨a', xs', g1, g2, g3, g4⟩ := G1.uni i ds hi
      rw [f1] at g1
      cases g1
      obtain ⟨v, hv1, hr1⟩ := g3.atI e2
      exact ⟨_, _, _, _, rfl, rfl, SqL.of g2, hv1, q _ _ G1 M1 hr1⟩
    · cases e
  · cases e
theorem pds_setU (i : Nat) {p1 p3 : Pos} (he : PD X e ma) (hb : PD X b mb) (hP : ∀ tb, PE X b tb → PG X (.Subscript (.Name x p1) b p3) (gSub (tVar i) tb rSetL) := by intro _ h; exact pg_sub (pe_var (by rfl) (by first | exact Or.inl rfl | exact Or.inr (Or.inl rfl) | exact Or.inr (Or.inr rfl)) (by decide) (by decide)) h set_list)
    (hs : swapsWithSole [.Subscript (.Name x p1) b p3] e pos.line X.env = pure false := by rfl) (hw : swappedStores [.Subscript (.Name x p1) b p3] e X.env = pure none := by rfl) (h1 : (assignEach [.Subscript (.Name x p1) b p3] X.env).map (·.2) = [assign (.Subscript (.Name x p1) b p3) X.env] := by rfl) :
    PDS X (.Assign [.Subscript (.Name x p1) b p3] e pos) (sSetU i ma mb) := by
  obtain ⟨t, q1, s1⟩ := he.ex
  obtain ⟨tb, q2, s2⟩ := hb.ex
  refine ⟨_, ps_asg q1 (hP tb q2) hs hw h1, fun F σ H ρ δ fl ρ' δ' G e D q => ?_⟩
  unfold sSetU at e
  split at e
  · rename_i ds hi
    obtain ⟨⟨y, δ1⟩, e1, e⟩ := Option.bind_eq_some_iff.mp e
    obtain ⟨⟨z, δ2⟩, e2, e⟩ := Option.bind_eq_some_iff.mp e
    dsimp only at e
    split at e
    · rename_i j
      obtain ⟨n, e3, e⟩ := Option.map_eq_some_iff.mp e
      cases e
      refine s1 F σ H ρ δ _ _ G e1 _ fun u H1 G1 M1 R1 => ?_
      obtain ⟨a1, xs, f1, f2, f3, f4⟩ := G1.uni i ds hi
      refine ⟨_, f1, s2 F σ H1 ρ δ1 _ _ G1 e2 _ fun w H2 G2 M2 R2 => ?_⟩
      cases R2
      obtain ⟨a', xs', g1, g2, g3, g4⟩ := G2.uni i ds hi
      rw [f1] at g1
      cases g1
      obtain ⟨G3, M3⟩ := G2.uniWrite (ys := xs'.set n u) (es := ds.set n y) i hi f1 (Reps.set (R1.mv M2) n g3)
      exact ⟨_, xs', j, n, rfl, rfl, g2, by rw [g3.length]; exact e3, q _ _ G3 ((M1.trans M2).trans M3)⟩
    · cases e
  · cases e
structure PDX (X : Cx) (e : Expr) (mx : MX) : Prop where
  ex : ∃ t, PE X e t ∧ SndX X.K t mx
theorem pdx_pop (i : Nat) {apos cpos : Pos} (he : PD X e ma) (hN : X.N[i]? = some x := by rfl) (hv : Vis X.env.scope x := by first | exact Or.inl rfl | exact Or.inr (Or.inl rfl) | exact Or.inr (Or.inr rfl)) (hd : (x == ("__debug__" : Str)) = false := by decide)
    (hcd : (x == ("__classdict__" : Str)) = false := by decide) (hbase : attributeBase (.Name x p0) "pop" X.env (eval (.Name x p0) X.env) = eval (.Name x p0) X.env := by rfl)
    (hfew : ((backTo cpos (starEach [e] X.env)).all (fun x => !x.1) && (backToKw cpos (keywordEach [] X.env)).all (fun x => x.1.isSome)
      && decide ([e].length + ([] : List Keyword).length + (if ([] : List Keyword).isEmpty then 0 else 1) < 30)) = true := by rfl)
    (hline : (apos.endLine == cpos.line) = true := by rfl) (hs : starEach [e] X.env = (false, eval e X.env) :: starEach [] X.env := by rfl) (hplain : (backTo cpos (starEach [] X.env)).any (·.1) = false := by rfl) :
    PDX X (.Call (.Attribute (.Name x p0) "pop" apos) [e] [] cpos) (xPop i ma) := by
  obtain ⟨t, p1, s1⟩ := he.ex
  refine ⟨_, pe_bm PySem.F.plainAttrs_list PySem.F.slot_list_pop PySem.F.type_list_pop mt_popAt (pe_var hN hv hd hcd) (pa_cons p1 pa_nil hs) hbase hfew hline hs hplain, fun F σ H ρ δ d ρ' δ' G e Q q => ?_⟩
  unfold xPop at e
  split at e
  · rename_i ds hi
    obtain ⟨⟨y, δ1⟩, e1, e⟩ := Option.bind_eq_some_iff.mp e
    dsimp only at e
    split at e
    · rename_i j
      split at e
      case isFalse => cases e
      rename_i hzz
      obtain ⟨n, e2, e⟩ := Option.bind_eq_some_iff.mp e
      obtain ⟨d1, e3, e⟩ := Option.map_eq_some_iff.mp e
      cases e
      obtain ⟨a, xs, f1, f2, f3, f4⟩ := G.uni i ds hi
      refine ⟨_, f1, .inl ⟨rfl, xs, SqL.of f2⟩, s1 F σ H ρ δ _ _ G e1 _ fun v H1 G1 M1 R1 => ?_⟩
      cases R1
      obtain ⟨a', xs', g1, g2, g3, g4⟩ := G1.uni i ds hi
      rw [f1] at g1
      cases g1
      obtain ⟨v, hv1, hr1⟩ := g3.get' e3
      obtain ⟨G2, M2⟩ := G1.uniWrite (ys := xs'.eraseIdx n) (es := ds.eraseIdx n) i hi f1 (g3.erase n)
      have hlen := g3.length
      rw [← hlen] at e2
      obtain ⟨k1, k2, k3, k4⟩ := ixN_seq e2
      have hsz := line63
      exact ⟨_, xs', j, n, v, rfl, rfl, g2, by omega, by omega, k1, hv1, q _ _ G2 (M1.trans M2) (hr1.mv M2)⟩
    · cases e
  · cases e
theorem pdx_bin {op : Operator} {r : R2} {f : D → D → Option D} (ho : OpR X (binaryOp op) r) (s : OpS X.K r f) (ha : PD X a ma) (hb : PDX X b mx) : PDX X (.BinOp a op b pos) (xBin f ma mx) := by
  obtain ⟨ta, h1, s1⟩ := ha.ex
  obtain ⟨tb, h2, s2⟩ := hb.ex
  refine ⟨_, pe_op ho h1 h2, fun F σ H ρ δ d ρ' δ' G e Q q => ?_⟩
  obtain ⟨⟨y, δ1⟩, e1, e⟩ := Option.bind_eq_some_iff.mp e
  obtain ⟨⟨z, ρ2, δ2⟩, e2, e⟩ := Option.bind_eq_some_iff.mp e
  obtain ⟨w, e3, e⟩ := Option.map_eq_some_iff.mp e
  cases e
  refine s1 F σ H ρ δ _ _ G e1 _ fun u H1 G1 M1 R1 => s2 F σ H1 ρ δ1 _ _ _ G1 e2 _ fun v H2 G2 M2 R2 => ?_
  exact s F σ H2 _ _ u v y z _ G2 (R1.mv M2) R2 e3 _ fun w' H3 kp R3 => q _ _ (G2.keep kp) ((M1.trans M2).trans (Mv.same kp)) R3
theorem pdx_add (ha : PD X a ma) (hb : PDX X b mx) : PDX X (.BinOp a .Add b pos) (xBin addD ma mx) :=
  pdx_bin (OpR.or op_add (OpR.or op_add_str (OpR.or op_cat op_catA))) (OpS.or (ops_I0 fun _ _ _ _ => .int _) (OpS.or ops_addS (OpS.or ops_catL ops_catT))) ha hb
theorem pds_asgX (he : PDX X e mx) (hg : PDG X tg sl mg) (hs : swapsWithSole [tg] e pos.line X.env = pure false := by rfl) (hw : swappedStores [tg] e X.env = pure none := by rfl) (h1 : (assignEach [tg] X.env).map (·.2) = [assign tg X.env] := by rfl) : PDS X (.Assign [tg] e pos) (sAsgX mx mg) := by
  obtain ⟨t, p1, s1⟩ := he.ex
  obtain ⟨g, p2, s2⟩ := hg.ex
  refine ⟨_, ps_asg p1 p2 hs hw h1, fun F σ H ρ δ fl ρ' δ' G e D q => ?_⟩
  obtain ⟨⟨y, ρ1, δ1⟩, e1, e⟩ := Option.bind_eq_some_iff.mp e
  obtain ⟨ρ2, e2, e⟩ := Option.map_eq_some_iff.mp e
  cases e
  exact s1 F σ H ρ δ _ _ _ G e1 _ fun v H1 G1 M1 R1 => s2 F σ H1 ρ1 _ v y _ G1 R1 e2 _ fun σ2 G2 M2 _ => q σ2 H1 G2 (M1.trans M2)
end
end PD

namespace PD
open PySem PySem.Spec PyProof.Rows L2
/-! ### statements that leave slot r alone -/
def SndSk (K : PySem.W.Frag) (r : Nat) (t : TS) (m : MS) : Prop := ∀ F σ H ρ δ fl ρ' δ', Good K F σ H ρ δ → m ρ δ = some (fl, ρ', δ') → ∀ D : Ends,
  (∀ σ' H', Good K F σ' H' ρ' δ' → Mv (Mm F σ ρ) H (Mm F σ' ρ') H' → σ'[r]? = σ[r]? → ρ'[r]? = ρ[r]? → match fl with
    | .nx => D.nx σ' H'
    | .bk => D.bk σ' H'
    | .ct => D.ct σ' H'
    | .rt d => ∀ v, Rep K (Mm F σ' ρ') H' v d → D.rt v H') → t D σ H
structure PDSk (X : Cx) (r : Nat) (st : Stmt) (m : MS) : Prop where
  ex : ∃ t, PS X st t ∧ SndSk X.K r t m
structure PDSsk (X : Cx) (r : Nat) (sts : List Stmt) (m : MS) : Prop where
  ex : ∃ t, PSs X sts t ∧ SndSk X.K r t m
section
variable {X : Cx} {r : Nat} {st : Stmt} {rest x y : List Stmt} {m m' : MS} {a b c e tg : Expr} {ma mb : ME} {nc : MT} {pos : Pos} {sl : List Nat} {mg : MG}
theorem k_nil : PDSsk X r [] sNext := ⟨_, pss_nil, fun F σ H ρ δ fl ρ' δ' G e D q => by
  cases e
  exact q σ H G (Mv.refl _ _) rfl rfl⟩
theorem k_one (h : PDSk X r st m) : PDSsk X r [st] m := by
  obtain ⟨t, p1, s1⟩ := h.ex
  exact ⟨_, pss_one p1, s1⟩
theorem k_cons (h1 : PDSk X r st m) (h2 : PDSsk X r rest m') : PDSsk X r (st :: rest) (sSeq m m') := by
  obtain ⟨t, p1, h⟩ := h1.ex
  obtain ⟨u, p2, g⟩ := h2.ex
  refine ⟨_, pss_cons p1 p2, fun F σ H ρ δ fl ρ' δ' G e D q => ?_⟩
  unfold sSeq at e
  obtain ⟨⟨f, ρ1, δ1⟩, e1, e⟩ := Option.bind_eq_some_iff.mp e
  cases f with
  | nx => exact h F σ H ρ δ .nx ρ1 δ1 G e1 _ fun σ1 H1 G1 M1 k1 k2 => g F σ1 H1 ρ1 δ1 fl ρ' δ' G1 e D fun σ2 H2 G2 M2 j1 j2 => q σ2 H2 G2 (M1.trans M2) (j1.trans k1) (j2.trans k2)
  | bk => cases e; exact h F σ H ρ δ _ _ _ G e1 _ fun σ1 H1 G1 M1 => q σ1 H1 G1 M1
  | ct => cases e; exact h F σ H ρ δ _ _ _ G e1 _ fun σ1 H1 G1 M1 => q σ1 H1 G1 M1
  | rt d => cases e; exact h F σ H ρ δ _ _ _ G e1 _ fun σ1 H1 G1 M1 => q σ1 H1 G1 M1
theorem k_ret (he : PD X e ma) : PDSk X r (.Return (some e) pos) (sRet ma) := by
  obtain ⟨t, p1, s1⟩ := he.ex
  refine ⟨_, ps_ret p1, fun F σ H ρ δ fl ρ' δ' G e D q => ?_⟩
  obtain ⟨⟨x, δ1⟩, e1, e⟩ := Option.map_eq_some_iff.mp e
  cases e
  exact s1 F σ H ρ δ x _ G e1 _ fun v H1 G1 M1 R1 => q σ H1 G1 M1 rfl rfl v R1
theorem k_if (hc : PDT X c nc) (ha : PDSsk X r x m) (hb : PDSsk X r y m') : PDSk X r (.If c x y pos) (sIf nc m m') := by
  obtain ⟨t, p0, s0⟩ := hc.ex
  obtain ⟨u, p1, s1⟩ := ha.ex
  obtain ⟨w, p2, s2⟩ := hb.ex
  refine ⟨_, ps_if p0 p1 p2, fun F σ H ρ δ fl ρ' δ' G e D q => ?_⟩
  obtain ⟨⟨x, δ1⟩, e1, e⟩ := Option.bind_eq_some_iff.mp e
  refine s0 F σ H ρ δ x δ1 G e1 _ fun H1 G1 M1 => ?_
  cases x with
  | true => exact iteT (s1 F σ H1 ρ δ1 fl ρ' δ' G1 e D fun σ2 H2 G2 M2 => q σ2 H2 G2 (M1.trans M2))
  | false => exact iteF (s2 F σ H1 ρ δ1 fl ρ' δ' G1 e D fun σ2 H2 G2 M2 => q σ2 H2 G2 (M1.trans M2))
theorem k_asg (he : PD X e ma) (hg : PDG X tg sl mg) (hr : r ∉ sl) (hs : swapsWithSole [tg] e pos.line X.env = pure false := by rfl) (hw : swappedStores [tg] e X.env = pure none := by rfl) (h1 : (assignEach [tg] X.env).map (·.2) = [assign tg X.env] := by rfl) : PDSk X r (.Assign [tg] e pos) (sAsg ma mg) := by
  obtain ⟨t, p1, s1⟩ := he.ex
  obtain ⟨g, p2, s2⟩ := hg.ex
  refine ⟨_, ps_asg p1 p2 hs hw h1, fun F σ H ρ δ fl ρ' δ' G e D q => ?_⟩
  obtain ⟨⟨x, δ1⟩, e1, e⟩ := Option.bind_eq_some_iff.mp e
  obtain ⟨ρ1, e2, e⟩ := Option.map_eq_some_iff.mp e
  cases e
  exact s1 F σ H ρ δ x _ G e1 _ fun v H1 G1 M1 R1 => s2 F σ H1 ρ _ v x _ G1 R1 e2 _ fun σ2 G2 M2 T => q σ2 H1 G2 (M1.trans M2) (T.s r hr) (T.r r hr)
theorem k_aug (i : Nat) {x : Str} {op : Operator} {f : D → D → Option D} {pos' : Pos} (hN : X.N.Nodup) (ho : AugS X op f) (he : PD X e ma) (hr : i ≠ r) (hi : X.N[i]? = some x := by rfl) (hx : Loc X.env.scope x := by first | exact Or.inl rfl | exact Or.inr rfl) (hf : X.fn x = true ∨ X.env.scope.names.lookup x = some .local := by first | exact .inl rfl | exact .inr rfl | assumption) :
    PDSk X r (.AugAssign (.Name x pos') op e pos) (sAug i f ma) := by
  obtain ⟨rr, o1, o2⟩ := ho.ex
  obtain ⟨t, p1, s1⟩ := he.ex
  refine ⟨_, ps_aug hN hi hx p1 o1 hf, fun F σ H ρ δ fl ρ' δ' G e D q => ?_⟩
  unfold sAug at e
  split at e
  · rename_i d hd
    obtain ⟨⟨y, δ1⟩, e1, e⟩ := Option.bind_eq_some_iff.mp e
    obtain ⟨z, e2, e⟩ := Option.map_eq_some_iff.mp e
    cases e
    obtain ⟨v, g1, g2⟩ := G.val i d hd
    refine ⟨v, g1, s1 F σ H ρ δ y _ G e1 _ fun u H1 G1 M1 R1 => ?_⟩
    refine o2 F σ H1 ρ _ v u d y z G1 (g2.mv M1) R1 e2 _ fun w H2 k R2 => ?_
    obtain ⟨G3, M3⟩ := (G1.keep k).set i R2
    exact q _ _ G3 ((M1.trans (Mv.same k)).trans M3) (List.getElem?_set_ne hr) (List.getElem?_set_ne hr)
  · cases e
end
/-! ### a list of lists that grows at its end -/
structure Hid (K : PySem.W.Frag) (F : Fr) (r : Nat) (σ : L2.St) (H : Hp) (ρ : List Sl) (δ : Dk) (A : Addr) (bs : List Addr) (dss : List (List D)) : Prop where
  g : Good K (F.plusS (A :: bs)) σ H ρ δ
  s : σ[r]? = some (some (.ref A))
  p : ρ[r]? = some .no
  a : H A = some (.lst (bs.map V.ref))
  l : Lists K (Mm (F.plusS (A :: bs)) σ ρ) H bs dss
  nd : (A :: bs).Nodup
  z : ∀ a ∈ A :: bs, F.H0 a = none
  m : ∀ a ∈ A :: bs, ¬ F.M0 a
  k : ∀ a ∈ A :: bs, ∀ p, F.dk = some p → a ≠ p.1 ∧ a ≠ p.2 ∧ a ≠ p.3
theorem Hid.pin {K F r σ H ρ δ A bs dss} (h : Hid K F r σ H ρ δ A bs dss) : Good K ((F.plusS (A :: bs)).pinS (A :: bs) H) σ H ρ δ := h.g.pinS fun a ha => .inr ha
theorem Hid.step {K F r σ H ρ δ A bs dss σ' H' ρ' δ'} (h : Hid K F r σ H ρ δ A bs dss) (G' : Good K ((F.plusS (A :: bs)).pinS (A :: bs) H) σ' H' ρ' δ') (M' : Mv (Mm (F.plusS (A :: bs)) σ ρ) H (Mm (F.plusS (A :: bs)) σ' ρ') H') (hs : σ'[r]? = σ[r]?) (hp : ρ'[r]? = ρ[r]?) : Hid K F r σ' H' ρ' δ' A bs dss := by
  have keep : ∀ a ∈ A :: bs, ∀ o, H a = some o → H' a = some o := fun a ha o ho => G'.fr a o ((if_pos ha).trans ho) (h.k a ha)
  refine ⟨Good.unpinS (fun a ha => .inr ha) h.z G', hs.trans h.s, hp.trans h.p, keep A (.head _) _ h.a, ⟨h.l.len, fun j b hb => ?_⟩, h.nd, h.z, h.m, h.k⟩
  obtain ⟨ds, xs, e1, e2, e3⟩ := h.l.at' j b hb
  exact ⟨ds, xs, e1, keep b (.tail _ (List.mem_of_getElem? hb)) _ e2, e3.mv M'⟩
abbrev ML := List Sl → Dk → List (List D) → Option (Fl × List Sl × Dk × List (List D))
abbrev MLT := List Sl → Dk → List (List D) → Option (Bool × Dk)
def SndL (K : PySem.W.Frag) (r : Nat) (t : TS) (ml : ML) : Prop := ∀ F σ H ρ δ A bs dss fl ρ' δ' dss', Hid K F r σ H ρ δ A bs dss → ml ρ δ dss = some (fl, ρ', δ', dss') → ∀ D : Ends,
  (∀ σ' H' bs', Hid K F r σ' H' ρ' δ' A bs' dss' → Mv (Mm (F.plusS (A :: bs)) σ ρ) H (Mm (F.plusS (A :: bs')) σ' ρ') H' → match fl with
    | .nx => D.nx σ' H'
    | .bk => D.bk σ' H'
    | .ct => D.ct σ' H'
    | .rt d => ∀ v, Rep K (Mm (F.plusS (A :: bs')) σ' ρ') H' v d → D.rt v H') → t D σ H
def SndLT (K : PySem.W.Frag) (r : Nat) (t : TT) (mt : MLT) : Prop := ∀ F σ H ρ δ A bs dss b δ', Hid K F r σ H ρ δ A bs dss → mt ρ δ dss = some (b, δ') → ∀ Q : Bool → Hp → Prop,
  (∀ H', Hid K F r σ H' ρ δ' A bs dss → Mv (Mm (F.plusS (A :: bs)) σ ρ) H (Mm (F.plusS (A :: bs)) σ ρ) H' → Q b H') → t σ H Q
def lGen (m : MS) : ML := fun ρ δ dss => (m ρ δ).map fun p => (p.1, p.2.1, p.2.2, dss)
def lSeq (a b : ML) : ML := fun ρ δ dss => (a ρ δ dss).bind fun p => match p.1 with
  | .nx => b p.2.1 p.2.2.1 p.2.2.2
  | f => some (f, p.2)
def lIf (c : MLT) (a b : ML) : ML := fun ρ δ dss => (c ρ δ dss).bind fun p => if p.1 = true then a ρ p.2 dss else b ρ p.2 dss
def tGen (m : MT) : MLT := fun ρ δ _ => m ρ δ
def tAndL (c : MT) : MLT := fun ρ δ dss => if dss = [] then some (false, δ) else c ρ δ
def lApp (m : ME) : ML := fun ρ δ dss => (m ρ δ).bind fun p => if dss.length < sizeLine then some (.nx, ρ, p.2, dss ++ [[p.1]]) else none
def lAt (mix me : ME) : ML := fun ρ δ dss => (mix ρ δ).bind fun p => match p.1 with
  | .int i => (ixN dss.length i).bind fun j => (me ρ p.2).bind fun q => if (dss.getD j []).length < sizeLine then some (.nx, ρ, q.2, dss.set j (dss.getD j [] ++ [q.1])) else none
  | _ => none
def forLL (g : MG) (s : ML) : List D → ML
  | [] => fun ρ δ dss => some (.nx, ρ, δ, dss)
  | d :: ds => fun ρ δ dss => (g d ρ).bind fun ρ1 => (s ρ1 δ dss).bind fun p => match p.1 with
    | .nx => forLL g s ds p.2.1 p.2.2.1 p.2.2.2
    | .ct => forLL g s ds p.2.1 p.2.2.1 p.2.2.2
    | .bk => some (.nx, p.2)
    | .rt d => some (.rt d, p.2)
def lFor (mi : MA) (g : MG) (s : ML) : ML := fun ρ δ dss => (mi ρ δ).bind fun p => forLL g s p.1 ρ p.2 dss
theorem l_gen {K r t m} (h : SndSk K r t m) : SndL K r t (lGen m) := fun F σ H ρ δ A bs dss fl ρ' δ' dss' I e D q => by
  obtain ⟨⟨f, ρ1, δ1⟩, e1, e⟩ := Option.map_eq_some_iff.mp e
  cases e
  exact h _ σ H ρ δ _ _ _ I.pin e1 D fun σ' H' G' M' k1 k2 => q σ' H' bs (I.step G' M' k1 k2) M'
theorem l_seq {K r t u a b} (h : SndL K r t a) (g : SndL K r u b) : SndL K r (tSeq t u) (lSeq a b) := fun F σ H ρ δ A bs dss fl ρ' δ' dss' I e D q => by
  unfold lSeq at e
  obtain ⟨⟨f, ρ1, δ1, dss1⟩, e1, e⟩ := Option.bind_eq_some_iff.mp e
  cases f with
  | nx => exact h F σ H ρ δ A bs dss .nx ρ1 δ1 dss1 I e1 _ fun σ1 H1 b1 I1 M1 => g F σ1 H1 ρ1 δ1 A b1 dss1 fl ρ' δ' dss' I1 e D fun σ2 H2 b2 I2 M2 => q σ2 H2 b2 I2 (M1.trans M2)
  | bk => cases e; exact h F σ H ρ δ A bs dss _ _ _ _ I e1 _ fun σ1 H1 b1 I1 M1 => q σ1 H1 b1 I1 M1
  | ct => cases e; exact h F σ H ρ δ A bs dss _ _ _ _ I e1 _ fun σ1 H1 b1 I1 M1 => q σ1 H1 b1 I1 M1
  | rt d => cases e; exact h F σ H ρ δ A bs dss _ _ _ _ I e1 _ fun σ1 H1 b1 I1 M1 => q σ1 H1 b1 I1 M1
theorem l_if {K r c t u mc a b} (hc : SndLT K r c mc) (h : SndL K r t a) (g : SndL K r u b) : SndL K r (tIfS c t u) (lIf mc a b) := fun F σ H ρ δ A bs dss fl ρ' δ' dss' I e D q => by
  obtain ⟨⟨x, δ1⟩, e1, e⟩ := Option.bind_eq_some_iff.mp e
  refine hc F σ H ρ δ A bs dss x δ1 I e1 _ fun H1 I1 M1 => ?_
  cases x with
  | true => exact iteT (h F σ H1 ρ δ1 A bs dss fl ρ' δ' dss' I1 e D fun σ2 H2 b2 I2 M2 => q σ2 H2 b2 I2 (M1.trans M2))
  | false => exact iteF (g F σ H1 ρ δ1 A bs dss fl ρ' δ' dss' I1 e D fun σ2 H2 b2 I2 M2 => q σ2 H2 b2 I2 (M1.trans M2))
theorem lt_gen {K r t m} (h : SndT K t m) : SndLT K r t (tGen m) := fun F σ H ρ δ A bs dss b δ' I e Q q =>
  h _ σ H ρ δ _ _ I.pin e Q fun H' G' M' => q H' (I.step G' M' rfl rfl) M'
theorem lt_and {K r t m} (h : SndT K t m) : SndLT K r (tAnd (fun σ H Q => tVar r σ H fun x H' => ∃ k, TruV K x H' k ∧ Q k H') t) (tAndL m) := fun F σ H ρ δ A bs dss b δ' I e Q q => by
  unfold tAndL at e
  refine ⟨_, I.s, !(bs.map V.ref).isEmpty, ?_, ?_⟩
  · exact .inl ⟨_, SqL.of I.a, rfl⟩
  · have hl := I.l.len
    cases bs with
    | nil =>
      have : dss = [] := List.eq_nil_of_length_eq_zero hl.symm
      rw [if_pos this] at e
      cases e
      exact iteF (q H I (Mv.refl _ _))
    | cons b0 bs =>
      have : dss ≠ [] := fun z => by rw [z] at hl; cases hl
      rw [if_neg this] at e
      exact iteT (lt_gen h F σ H ρ δ A _ dss b δ' I e Q q)
theorem l_app {K r te me} (h : Snd K te me) : SndL K r (tDrop (tBM K "list" rAppend (tVar r) (tCons (tLst (tCons te tNil)) tNil))) (lApp me) := fun F σ H ρ δ A bs dss fl ρ' δ' dss' I e D q => by
  obtain ⟨⟨y, δ1⟩, e1, e⟩ := Option.bind_eq_some_iff.mp e
  dsimp only at e
  split at e
  · rename_i hz
    cases e
    refine ⟨_, I.s, .inl ⟨rfl, _, SqL.of I.a⟩, ?_⟩
    refine h _ σ H ρ δ _ _ I.pin e1 _ fun v H1 G1 M1 R1 => ?_
    rw [Mm_pinS] at M1 R1
    have I1 := I.step G1 M1 rfl rfl
    refine ⟨by have := sizeBig; simp; omega, fun p hp => ?_⟩
    obtain ⟨G2, M2⟩ := I1.g.plus (o := .lst [v]) hp
    rw [plusS_cons] at G2 M2
    have hpA : A ≠ p := ne_of_none I1.a hp
    have hpb : p ∉ bs := fun z => by
      obtain ⟨j, hj⟩ := List.getElem?_of_mem z
      obtain ⟨_, xs, _, e2, _⟩ := I1.l.at' j p hj
      rw [hp] at e2; cases e2
    have hz0 : F.H0 p = none := I1.g.fresh0 hp
    have hm0 : ¬ F.M0 p := fun z => I1.g.m0 p (.inl z) hp
    have hk0 : ∀ q, F.dk = some q → p ≠ q.1 ∧ p ≠ q.2 ∧ p ≠ q.3 := fun q hq => ⟨(ne_of_none (I1.g.dck q hq).2.2.2.one hp).symm, (ne_of_none (I1.g.dck q hq).2.2.2.two hp).symm, (ne_of_none (I1.g.dck q hq).2.2.2.tri hp).symm⟩
    obtain ⟨G3, M3⟩ := G2.writeM (D := A) (o := .lst (bs.map V.ref ++ [.ref p])) (.inr (by simp)) (I.k A (.head _)) (I.z A (.head _))
    refine ⟨A, bs.map V.ref, .ref p, rfl, rfl, by rw [upd_ne hpA]; exact I1.a, by rw [List.length_map, I1.l.len]; exact hz, q σ _ (bs ++ [p]) ⟨G3, I.s, I.p, ?_, ⟨?_, ?_⟩, ?_, ?_, ?_, ?_⟩ ((M1.trans M2).trans M3)⟩
    · rw [upd_same, List.map_append]; rfl
    · rw [List.length_append, List.length_append, I1.l.len]; rfl
    · intro j b hb
      rcases Nat.lt_trichotomy j bs.length with hj | hj | hj
      · rw [List.getElem?_append_left hj] at hb
        obtain ⟨ds, xs, k1, k2, k3⟩ := I1.l.at' j b hb
        have hbm := List.mem_of_getElem? hb
        refine ⟨ds, xs, by rw [List.getElem?_append_left (by rw [← I1.l.len]; exact hj)]; exact k1, ?_, (k3.mv M2).mv M3⟩
        rw [upd_ne (fun z => (List.nodup_cons.mp I.nd).1 (by rw [← z]; exact hbm)), upd_ne (fun z => hpb (by rw [← z]; exact hbm))]
        exact k2
      · subst hj
        rw [List.getElem?_append_right (Nat.le_refl _), Nat.sub_self] at hb
        cases hb
        refine ⟨[y], [v], by rw [I1.l.len, List.getElem?_append_right (Nat.le_refl _), Nat.sub_self]; rfl, ?_, .cons ((R1.mv M2).mv M3) .nil⟩
        rw [upd_ne hpA.symm, upd_same]
      · rw [List.getElem?_eq_none (by simp; omega)] at hb
        cases hb
    · rw [← List.cons_append, List.nodup_append]
      refine ⟨I.nd, by simp, fun a ha c hc => ?_⟩
      simp at hc
      subst hc
      rintro rfl
      rcases List.mem_cons.mp ha with z | z
      · exact hpA z.symm
      · exact hpb z
    · intro a ha
      rcases List.mem_append.mp (show a ∈ (A :: bs) ++ [p] from ha) with z | z
      · exact I.z a z
      · simp at z; rw [z]; exact hz0
    · intro a ha
      rcases List.mem_append.mp (show a ∈ (A :: bs) ++ [p] from ha) with z | z
      · exact I.m a z
      · simp at z; rw [z]; exact hm0
    · intro a ha
      rcases List.mem_append.mp (show a ∈ (A :: bs) ++ [p] from ha) with z | z
      · exact I.k a z
      · simp at z; rw [z]; exact hk0
  · cases e
theorem l_at {K r tix te mix me} (hix : Snd K tix mix) (he : Snd K te me) : SndL K r (tDrop (tBM K "list" rAppend (tOp (rIxL K) (tVar r) tix) (tCons te tNil))) (lAt mix me) := fun F σ H ρ δ A bs dss fl ρ' δ' dss' I e D q => by
  obtain ⟨⟨vi, δ1⟩, e1, e⟩ := Option.bind_eq_some_iff.mp e
  dsimp only at e
  split at e
  · rename_i iv
    obtain ⟨jj, f3, e⟩ := Option.bind_eq_some_iff.mp e
    obtain ⟨⟨y, δ2⟩, f4, e⟩ := Option.bind_eq_some_iff.mp e
    dsimp only at e
    split at e
    · rename_i hsz
      cases e
      refine ⟨_, I.s, ?_⟩
      refine hix _ σ H ρ δ _ _ I.pin e1 _ fun v7 H7 G7 M7 R7 => ?_
      rw [Mm_pinS] at M7 R7
      cases R7
      have I7 := I.step G7 M7 rfl rfl
      have hjl : jj < bs.length := by rw [I.l.len]; exact (ixN_seq f3).2.1
      obtain ⟨bj, hbj⟩ : ∃ bj, bs[jj]? = some bj := ⟨bs[jj], List.getElem?_eq_getElem hjl⟩
      have hbjm : bj ∈ A :: bs := .tail _ (List.mem_of_getElem? hbj)
      obtain ⟨dsj, xsj, g1, g2, g3⟩ := I7.l.at' jj bj hbj
      refine ⟨A, bs.map V.ref, iv, .ref bj, rfl, rfl, SqL.of I7.a, ?_, .inl ⟨rfl, xsj, SqL.of g2⟩, ?_⟩
      · unfold atI
        rw [List.length_map, I.l.len, f3]
        simp [hbj]
      · refine he _ σ H7 ρ δ1 _ _ I7.pin f4 _ fun v8 H8 G8 M8 R8 => ?_
        rw [Mm_pinS] at M8 R8
        have I8 := I7.step G8 M8 rfl rfl
        obtain ⟨dsj', xsj', k1, k2, k3⟩ := I8.l.at' jj bj hbj
        rw [g1] at k1
        cases k1
        have hdj : dss.getD jj [] = dsj := by rw [List.getD_eq_getElem?_getD, g1]; rfl
        rw [hdj] at hsz q
        obtain ⟨G9, M9⟩ := I8.g.writeM (D := bj) (o := .lst (xsj' ++ [v8])) (.inr hbjm) (I.k bj hbjm) (I.z bj hbjm)
        refine ⟨bj, xsj', v8, rfl, rfl, k2, by rw [k3.length]; exact hsz, q σ _ bs ⟨G9, I.s, I.p, ?_, ⟨by rw [List.length_set]; exact I.l.len, fun k b hb => ?_⟩, I.nd, I.z, I.m, I.k⟩ ((M7.trans M8).trans M9)⟩
        · rw [upd_ne (fun z => (List.nodup_cons.mp I.nd).1 (by rw [z]; exact List.mem_of_getElem? hbj))]
          exact I8.a
        · by_cases hk : jj = k
          · subst hk
            rw [hbj] at hb
            cases hb
            exact ⟨dsj ++ [y], xsj' ++ [v8], List.getElem?_set_self (by rw [← I.l.len]; exact hjl), upd_same, (k3.append (.cons R8 .nil)).mv M9⟩
          · obtain ⟨dsk, xsk, m1, m2, m3⟩ := I8.l.at' k b hb
            have hne : b ≠ bj := fun z => by
              subst z
              exact hk (nodup_inj (List.nodup_cons.mp I.nd).2 hbj hb)
            exact ⟨dsk, xsk, by rw [List.getElem?_set_ne hk]; exact m1, by rw [upd_ne hne]; exact m2, m3.mv M9⟩
    · cases e
  · cases e
theorem l_for {K r wi mi g mg tb mb} {sl : List Nat} (hi : SndI K wi mi) (hg : SndG K sl g mg) (hr : r ∉ sl) (hb : SndL K r tb mb) : SndL K r (tFor wi g tb) (lFor mi mg mb) := fun F σ H ρ δ A bs dss fl ρ' δ' dss' I e D q => by
  obtain ⟨⟨ds, δ1⟩, e1, e⟩ := Option.bind_eq_some_iff.mp e
  dsimp only at e
  refine hi _ σ H ρ δ _ _ I.pin e1 _ fun J H1 G1 M1 Wk => ?_
  rw [Mm_pinS] at M1 Wk
  have I1 := I.step G1 M1 rfl rfl
  refine ⟨fun ii k σ5 H5 => k = ds.length - ii ∧ ii ≤ ds.length ∧ ∃ ρ5 δ5 dss5 bs5, Hid K F r σ5 H5 ρ5 δ5 A bs5 dss5 ∧ Mv (Mm (F.plusS (A :: bs)) σ ρ) H1 (Mm (F.plusS (A :: bs5)) σ5 ρ5) H5 ∧ forLL mg mb (ds.drop ii) ρ5 δ5 dss5 = some (fl, ρ', δ', dss'),
    ⟨_, rfl, Nat.zero_le _, ρ, δ1, dss, bs, I1, Mv.refl _ _, e⟩, ?_⟩
  rintro ii k σ5 H5 ⟨rfl, hile, ρ5, δ5, dss5, bs5, I5, M5, ef⟩
  by_cases hlt : ii < ds.length
  · obtain ⟨go, yl⟩ := (Wk _ H5 M5 I5.g.mm ii).1 hlt
    rw [List.drop_eq_getElem_cons hlt] at ef
    refine .inr ⟨go, fun σ5 H5 => ∃ ρ5 δ5 dss5 bs5, Hid K F r σ5 H5 ρ5 δ5 A bs5 dss5 ∧ Mv (Mm (F.plusS (A :: bs)) σ ρ) H1 (Mm (F.plusS (A :: bs5)) σ5 ρ5) H5 ∧ forLL mg mb (ds.drop (ii + 1)) ρ5 δ5 dss5 = some (fl, ρ', δ', dss'), fun σ' H' h => ⟨ds.length - (ii + 1), by omega, rfl, hlt, h⟩, fun x H6 hy => ?_⟩
    obtain ⟨kp, dx, edx, rdx⟩ := yl x H6 hy
    rw [List.getElem?_eq_getElem hlt] at edx
    cases edx
    have I6 : Hid K F r σ5 H6 ρ5 δ5 A bs5 dss5 := I5.step (I5.pin.keep kp) (Mv.same kp) rfl rfl
    replace M5 := M5.trans (Mv.same kp)
    unfold forLL at ef
    obtain ⟨ρ6, f1, ef⟩ := Option.bind_eq_some_iff.mp ef
    obtain ⟨⟨f, ρ7, δ7, dss7⟩, f2, ef⟩ := Option.bind_eq_some_iff.mp ef
    refine hg _ σ5 H6 ρ5 δ5 x _ ρ6 I6.pin rdx f1 _ fun σ6 G6 M6 T6 => ?_
    rw [Mm_pinS, Mm_pinS] at M6
    have I7 := I6.step G6 M6 (T6.s r hr) (T6.r r hr)
    refine hb F σ6 H6 ρ6 δ5 A bs5 dss5 f ρ7 δ7 dss7 I7 f2 _ fun σ8 H8 bs8 I8 M8 => ?_
    have MM := M5.trans (M6.trans M8)
    cases f with
    | nx => exact ⟨ρ7, δ7, dss7, bs8, I8, MM, ef⟩
    | ct => exact ⟨ρ7, δ7, dss7, bs8, I8, MM, ef⟩
    | bk => cases ef; exact q σ8 H8 bs8 I8 (M1.trans MM)
    | rt d => cases ef; exact q σ8 H8 bs8 I8 (M1.trans MM)
  · have hi5 : ii = ds.length := by omega
    subst hi5
    rw [List.drop_of_length_le (Nat.le_refl _)] at ef
    cases ef
    exact .inl ⟨(Wk _ H5 M5 I5.g.mm ds.length).2 (Nat.le_refl _), q σ5 H5 bs5 I5 (M1.trans M5)⟩
def sHid (r : Nat) (ml : ML) (rest : MS) : MS := fun ρ δ => if r < ρ.length then (ml (ρ.set r .no) δ []).bind fun p => match p.1 with
  | .nx => rest (p.2.1.set r (.val (.list (p.2.2.2.map .list)))) p.2.2.1
  | .rt d => some (.rt d, p.2.1, p.2.2.1)
  | _ => none
  else none
theorem snd_hid {K r t u ml m} (hl : SndL K r t ml) (hm : SndS K u m) : SndS K (tSeq (tAsg (tLst tNil) (gName r)) (tSeq t u)) (sHid r ml m) := fun F σ H ρ δ fl ρ' δ' G e D q => by
  unfold sHid at e
  split at e
  · rename_i hz
    obtain ⟨⟨f, ρ1, δ1, dss1⟩, e1, e⟩ := Option.bind_eq_some_iff.mp e
    refine ⟨Nat.zero_le _, fun A hA => ?_⟩
    have hrl : r < σ.length := by rw [G.len]; exact hz
    obtain ⟨GA, MA⟩ := G.plus (o := .lst []) hA
    have eA : F.plus A = F.plusS [A] := by
      have := plusS_cons (F := F) (l := []) (b := A)
      rw [plusS_nil] at this
      exact this
    rw [eA] at GA MA
    obtain ⟨G2, M2⟩ := GA.setNo r (some (.ref A))
    have nDk : ∀ p, F.dk = some p → A ≠ p.1 ∧ A ≠ p.2 ∧ A ≠ p.3 := fun p hp => ⟨(ne_of_none (G.dck p hp).2.2.2.one hA).symm, (ne_of_none (G.dck p hp).2.2.2.two hA).symm, (ne_of_none (G.dck p hp).2.2.2.tri hA).symm⟩
    have I0 : Hid K F r (σ.set r (some (.ref A))) (upd H A (.lst [])) (ρ.set r .no) δ A [] [] := ⟨G2, List.getElem?_set_self hrl, List.getElem?_set_self hz, upd_same, ⟨rfl, fun j b hb => by simp at hb⟩, by simp, fun a ha => (by simp at ha; rw [ha]; exact G.fresh0 hA), fun a ha => (by simp at ha; rw [ha]; exact fun z => G.m0 A z hA), fun a ha => (by simp at ha; rw [ha]; exact nDk)⟩
    refine hl F _ _ (ρ.set r .no) δ A [] [] f ρ1 δ1 dss1 I0 e1 _ fun σ5 H5 bs I5 M5 => ?_
    obtain ⟨G9, M9⟩ := Good.shrink ⟨_, _, _, _, G⟩ I5.g
    have MM := ((MA.trans M2).trans M5).trans M9
    cases f with
    | bk => cases e
    | ct => cases e
    | rt d =>
      cases e
      intro v hv
      exact q σ5 H5 G9 MM v (hv.mv M9)
    | nx =>
      dsimp only at e
      have hnot : ∀ a ∈ A :: bs, ¬ Mm F σ5 ρ1 a := fun a ha z => by
        rcases z with z | ⟨ii, es, f1, f2⟩
        · exact I5.m a ha z
        · obtain ⟨c, zs, g1, g2, g3, g4⟩ := I5.g.own ii es f1
          rw [f2] at g1; cases g1
          exact g4.1 (.inr ha)
      have RR : Rep K (Mm F σ5 ρ1) H5 (.ref A) (.list (dss1.map .list)) := .lst ⟨hnot A (.head _), I5.a⟩ (reps_lists ⟨I5.l.len, fun k b hb => by
        obtain ⟨dsk, xsk, k1, k2, k3⟩ := I5.l.at' k b hb
        exact ⟨dsk, xsk, k1, k2, k3.mv M9⟩⟩ fun b hb => hnot b (.tail _ hb))
      obtain ⟨G10, M10⟩ := G9.set r RR
      have hset : σ5.set r (some (.ref A)) = σ5 := by
        have hσ5 := I5.s
        have hr5 : r < σ5.length := by
          rcases Nat.lt_or_ge r σ5.length with h | h
          · exact h
          · rw [List.getElem?_eq_none h] at hσ5; cases hσ5
        refine list_ext fun k => ?_
        by_cases hk : r = k
        · subst hk; rw [List.getElem?_set_self hr5, hσ5]
        · rw [List.getElem?_set_ne hk]
      rw [hset] at G10 M10
      exact hm F σ5 H5 _ δ1 fl ρ' δ' G10 e D fun σ6 H6 G6 M6 => q σ6 H6 G6 ((MM.trans M10).trans M6)
  · cases e
section
variable {X : Cx} {r : Nat} {st : Stmt} {sts rest x y : List Stmt} {m : MS} {ml ml' : ML} {a b c e tg iter : Expr} {ma mb : ME} {mi : MA} {nc : MT} {mt : MLT} {p0 pos : Pos} {sl : List Nat} {mg : MG} {R : Str}
structure PDL (X : Cx) (r : Nat) (st : Stmt) (ml : ML) : Prop where
  ex : ∃ t, PS X st t ∧ SndL X.K r t ml
structure PDLs (X : Cx) (r : Nat) (sts : List Stmt) (ml : ML) : Prop where
  ex : ∃ t, PSs X sts t ∧ SndL X.K r t ml
structure PDLT (X : Cx) (r : Nat) (c : Expr) (mt : MLT) : Prop where
  ex : ∃ t, PT X c t ∧ SndLT X.K r t mt
theorem pdl_gen (h : PDSk X r st m) : PDL X r st (lGen m) := by
  obtain ⟨t, p1, s1⟩ := h.ex
  exact ⟨_, p1, l_gen s1⟩
theorem pdls_one (h : PDL X r st ml) : PDLs X r [st] ml := by
  obtain ⟨t, p1, s1⟩ := h.ex
  exact ⟨_, pss_one p1, s1⟩
theorem pdls_cons (h : PDL X r st ml) (g : PDLs X r rest ml') : PDLs X r (st :: rest) (lSeq ml ml') := by
  obtain ⟨t, p1, s1⟩ := h.ex
  obtain ⟨u, p2, s2⟩ := g.ex
  exact ⟨_, pss_cons p1 p2, l_seq s1 s2⟩
theorem pdl_if (hc : PDLT X r c mt) (h : PDLs X r x ml) (g : PDLs X r y ml') : PDL X r (.If c x y pos) (lIf mt ml ml') := by
  obtain ⟨t0, p0, s0⟩ := hc.ex
  obtain ⟨t, p1, s1⟩ := h.ex
  obtain ⟨u, p2, s2⟩ := g.ex
  exact ⟨_, ps_if p0 p1 p2, l_if s0 s1 s2⟩
theorem pdlt_gen (h : PDT X c nc) : PDLT X r c (tGen nc) := by
  obtain ⟨t, p1, s1⟩ := h.ex
  exact ⟨_, p1, lt_gen s1⟩
theorem pdlt_and (h : PDT X c nc) (hN : X.N[r]? = some R := by rfl) (hv : Vis X.env.scope R := by first | exact Or.inl rfl | exact Or.inr (Or.inl rfl) | exact Or.inr (Or.inr rfl)) (hd : (R == ("__debug__" : Str)) = false := by decide) (hcd : (R == ("__classdict__" : Str)) = false := by decide)
    (he : ∀ whole, isTrue (.Name R p0) X.env whole = (do let v ← whole; standAt (Expr.Name R p0).pos; holding [v] (truthy v)) := by intro _; rfl) : PDLT X r (.BoolOp .And [.Name R p0, c] pos) (tAndL nc) := by
  obtain ⟨t, p1, s1⟩ := h.ex
  exact ⟨_, (pw_and (pt_truth (pe_var hN hv hd hcd) he) (pw_and1 p1)).pt, lt_and s1⟩
theorem pdl_app {p2 apos cpos : Pos} (h : PD X e ma) (hN : X.N[r]? = some R := by rfl) (hv : Vis X.env.scope R := by first | exact Or.inl rfl | exact Or.inr (Or.inl rfl) | exact Or.inr (Or.inr rfl)) (hd : (R == ("__debug__" : Str)) = false := by decide) (hcd : (R == ("__classdict__" : Str)) = false := by decide)
    (hbase : attributeBase (.Name R p0) "append" X.env (eval (.Name R p0) X.env) = eval (.Name R p0) X.env := by rfl)
    (hfew : ((backTo cpos (starEach [.List [e] p2] X.env)).all (fun x => !x.1) && (backToKw cpos (keywordEach [] X.env)).all (fun x => x.1.isSome)
      && decide ([Expr.List [e] p2].length + ([] : List Keyword).length + (if ([] : List Keyword).isEmpty then 0 else 1) < 30)) = true := by rfl)
    (hline : (apos.endLine == cpos.line) = true := by rfl) (hs : starEach [.List [e] p2] X.env = (false, eval (.List [e] p2) X.env) :: starEach [] X.env := by rfl) (hs1 : starEach [e] X.env = (false, eval e X.env) :: starEach [] X.env := by rfl) (hplain : (backTo cpos (starEach [] X.env)).any (·.1) = false := by rfl)
    (hsw : swapsWith (.Call (.Attribute (.Name R p0) "append" apos) [.List [e] p2] [] cpos) none pos.line X.env = pure false := by rfl) :
    PDL X r (.Expr (.Call (.Attribute (.Name R p0) "append" apos) [.List [e] p2] [] cpos) pos) (lApp ma) := by
  obtain ⟨t, p1, s1⟩ := h.ex
  exact ⟨_, ps_expr (pe_bm PySem.F.plainAttrs_list PySem.F.slot_list_append PySem.F.type_list_append mt_append (pe_var hN hv hd hcd) (pa_cons (pe_lst (pa_cons p1 pa_nil hs1)) pa_nil hs) hbase hfew hline hs hplain) hsw, l_app s1⟩
theorem pdl_at {ix : Expr} {p2 apos cpos : Pos} (hix : PD X ix mb) (h : PD X e ma) (hN : X.N[r]? = some R := by rfl) (hv : Vis X.env.scope R := by first | exact Or.inl rfl | exact Or.inr (Or.inl rfl) | exact Or.inr (Or.inr rfl)) (hd : (R == ("__debug__" : Str)) = false := by decide) (hcd : (R == ("__classdict__" : Str)) = false := by decide) (hpx : PlainIx ix := by exact fun _ _ => rfl)
    (hbase : attributeBase (.Subscript (.Name R p0) ix p2) "append" X.env (eval (.Subscript (.Name R p0) ix p2) X.env) = eval (.Subscript (.Name R p0) ix p2) X.env := by rfl)
    (hfew : ((backTo cpos (starEach [e] X.env)).all (fun x => !x.1) && (backToKw cpos (keywordEach [] X.env)).all (fun x => x.1.isSome)
      && decide ([e].length + ([] : List Keyword).length + (if ([] : List Keyword).isEmpty then 0 else 1) < 30)) = true := by rfl)
    (hline : (apos.endLine == cpos.line) = true := by rfl) (hs : starEach [e] X.env = (false, eval e X.env) :: starEach [] X.env := by rfl) (hplain : (backTo cpos (starEach [] X.env)).any (·.1) = false := by rfl)
    (hsw : swapsWith (.Call (.Attribute (.Subscript (.Name R p0) ix p2) "append" apos) [e] [] cpos) none pos.line X.env = pure false := by rfl) :
    PDL X r (.Expr (.Call (.Attribute (.Subscript (.Name R p0) ix p2) "append" apos) [e] [] cpos) pos) (lAt mb ma) := by
  obtain ⟨tix, w3, s3⟩ := hix.ex
  obtain ⟨te, w4, s4⟩ := h.ex
  exact ⟨_, ps_expr (pe_bm PySem.F.plainAttrs_list PySem.F.slot_list_append PySem.F.type_list_append mt_append (pe_ix ix_list (pe_var hN hv hd hcd) w3 hpx) (pa_cons w4 pa_nil hs) hbase hfew hline hs hplain) hsw, l_at s3 s4⟩
theorem pdl_for {body : List Stmt} (hp : PassesOwn (model X.prog X.w) X.A X.env X.xe) (hc : X.calm = true) (hi : PDI X tg iter mi) (hg : PDG X tg sl mg) (hr : r ∉ sl) (hb : PDLs X r body ml) (hs : ∀ x, foldedSetIterable iter X.env x = pure x := by intro _; rfl) :
    PDL X r (.For tg iter body [] pos) (lFor mi mg ml) := by
  obtain ⟨wi, w1, s1⟩ := hi.ex
  obtain ⟨g, w2, s2⟩ := hg.ex
  obtain ⟨tb, w3, s3⟩ := hb.ex
  exact ⟨_, ps_for hp hc w1 w2 w3 hs, l_for s1 s2 hr s3⟩
/-- x = [], the rows up to the loop, the loop; then x is as it is -/
theorem pdss_hid1 {st1 : Stmt} {pos' p2 : Pos} (hN : X.N.Nodup) (h1 : PDL X r st1 ml) (hm : PDSs X rest m) (hi : X.N[r]? = some R := by rfl) (hx : Loc X.env.scope R := by first | exact Or.inl rfl | exact Or.inr rfl) (hs : swapsWith (.List [] p2) (some (.Name R pos')) pos.line X.env = pure false := by rfl) (hf : X.fn R = true ∨ X.env.scope.names.lookup R = some .local := by first | exact .inl rfl | exact .inr rfl | assumption) :
    PDSs X (.Assign [.Name R pos'] (.List [] p2) pos :: st1 :: rest) (sHid r ml m) := by
  obtain ⟨t, p1, s1⟩ := h1.ex
  obtain ⟨u, p3, s3⟩ := hm.ex
  exact ⟨_, pss_cons (ps_set hN hi hx (pe_lst pa_nil) hs hf) (pss_cons p1 p3), snd_hid s1 s3⟩
theorem tSeq_assoc (t u w : TS) : tSeq t (tSeq u w) = tSeq (tSeq t u) w := rfl
theorem pdss_hid2 {st1 st2 : Stmt} {pos' p2 : Pos} (hN : X.N.Nodup) (h1 : PDL X r st1 ml) (h2 : PDL X r st2 ml') (hm : PDSs X rest m) (hi : X.N[r]? = some R := by rfl) (hx : Loc X.env.scope R := by first | exact Or.inl rfl | exact Or.inr rfl) (hs : swapsWith (.List [] p2) (some (.Name R pos')) pos.line X.env = pure false := by rfl) (hf : X.fn R = true ∨ X.env.scope.names.lookup R = some .local := by first | exact .inl rfl | exact .inr rfl | assumption) :
    PDSs X (.Assign [.Name R pos'] (.List [] p2) pos :: st1 :: st2 :: rest) (sHid r (lSeq ml ml') m) := by
  obtain ⟨t, p1, s1⟩ := h1.ex
  obtain ⟨t2, p2, s2⟩ := h2.ex
  obtain ⟨u, p3, s3⟩ := hm.ex
  exact ⟨_, pss_cons (ps_set hN hi hx (pe_lst pa_nil) hs hf) (pss_cons p1 (pss_cons p2 p3)), (snd_hid (t := tSeq t t2) (l_seq s1 s2) s3 : _)⟩
end
end PD

namespace PD
open PySem PySem.Spec PyProof.Rows L2
/-! ### what the newer mirrors come to -/
def WX (m : MX) (ρ : List Sl) (δ : Dk) (P : D → List Sl → Dk → Prop) : Prop := ∃ d ρ' δ', m ρ δ = some (d, ρ', δ') ∧ P d ρ' δ'
def WL (m : ML) (ρ : List Sl) (δ : Dk) (dss : List (List D)) (P : Fl → List Sl → Dk → List (List D) → Prop) : Prop := ∃ f ρ' δ' dss', m ρ δ dss = some (f, ρ', δ', dss') ∧ P f ρ' δ' dss'
section
variable {ρ : List Sl} {δ : Dk} {dss : List (List D)}
theorem we_lenU {i P} : WE (mLenU i) ρ δ P ↔ ∃ ds, ρ[i]? = some (.uni ds) ∧ P (.int ds.length) δ := by
  constructor
  · rintro ⟨d, δ', e, p⟩
    unfold mLenU at e
    split at e
    · rename_i ds h; cases e; exact ⟨ds, h, p⟩
    · cases e
  · rintro ⟨ds, h, p⟩
    exact ⟨_, _, by unfold mLenU; rw [h], p⟩
theorem we_ixU {i m P} : WE (mIxU i m) ρ δ P ↔ ∃ ds, ρ[i]? = some (.uni ds) ∧ WE m ρ δ fun j δ1 => ∃ k d, j = .int k ∧ atI ds k = some d ∧ P d δ1 := by
  constructor
  · rintro ⟨d, δ', e, p⟩
    unfold mIxU at e
    split at e
    · rename_i ds h
      obtain ⟨⟨x, δ1⟩, e1, e⟩ := Option.bind_eq_some_iff.mp e
      dsimp only at e
      split at e
      · rename_i k
        obtain ⟨y, e2, e⟩ := Option.map_eq_some_iff.mp e
        cases e
        exact ⟨ds, h, _, _, e1, k, _, rfl, e2, p⟩
      · cases e
    · cases e
  · rintro ⟨ds, h, x, δ1, e1, k, d, rfl, e2, p⟩
    exact ⟨d, δ1, by unfold mIxU; rw [h]; simp only [e1, Option.bind_some, e2, Option.map_some], p⟩
theorem ws_setU {i m mi P} : WS (sSetU i m mi) ρ δ P ↔ ∃ ds, ρ[i]? = some (.uni ds) ∧ WE m ρ δ fun x δ1 => WE mi ρ δ1 fun j δ2 => ∃ k n, j = .int k ∧ ixN ds.length k = some n ∧ P .nx (ρ.set i (.uni (ds.set n x))) δ2 := by
  constructor
  · rintro ⟨f, ρ', δ', e, p⟩
    unfold sSetU at e
    split at e
    · rename_i ds h
      obtain ⟨⟨x, δ1⟩, e1, e⟩ := Option.bind_eq_some_iff.mp e
      obtain ⟨⟨y, δ2⟩, e2, e⟩ := Option.bind_eq_some_iff.mp e
      dsimp only at e
      split at e
      · rename_i k
        obtain ⟨n, e3, e⟩ := Option.map_eq_some_iff.mp e
        cases e
        exact ⟨ds, h, _, _, e1, _, _, e2, k, n, rfl, e3, p⟩
      · cases e
    · cases e
  · rintro ⟨ds, h, x, δ1, e1, y, δ2, e2, k, n, rfl, e3, p⟩
    exact ⟨_, _, _, by unfold sSetU; rw [h]; simp only [e1, e2, Option.bind_some, e3, Option.map_some], p⟩
theorem ws_asgX {m g P} : WS (sAsgX m g) ρ δ P ↔ WX m ρ δ fun d ρ1 δ1 => WG g d ρ1 fun ρ2 => P .nx ρ2 δ1 := by
  constructor
  · rintro ⟨f, ρ', δ', e, p⟩
    obtain ⟨⟨x, ρ1, δ1⟩, e1, e⟩ := Option.bind_eq_some_iff.mp e
    obtain ⟨ρ2, e2, e⟩ := Option.map_eq_some_iff.mp e
    cases e
    exact ⟨x, _, _, e1, _, e2, p⟩
  · rintro ⟨x, ρ1, δ1, e1, ρ2, e2, p⟩
    exact ⟨_, _, _, by unfold sAsgX; simp only [e1, Option.bind_some, e2, Option.map_some], p⟩
theorem wx_pop {i m P} : WX (xPop i m) ρ δ P ↔ ∃ ds, ρ[i]? = some (.uni ds) ∧ WE m ρ δ fun j δ1 => ∃ k n d, j = .int k ∧ ds.length ≤ sizeLine ∧ ixN ds.length k = some n ∧ ds[n]? = some d ∧ P d (ρ.set i (.uni (ds.eraseIdx n))) δ1 := by
  constructor
  · rintro ⟨f, ρ', δ', e, p⟩
    unfold xPop at e
    split at e
    · rename_i ds h
      obtain ⟨⟨x, δ1⟩, e1, e⟩ := Option.bind_eq_some_iff.mp e
      dsimp only at e
      split at e
      · rename_i k
        split at e
        · rename_i hz
          obtain ⟨n, e2, e⟩ := Option.bind_eq_some_iff.mp e
          obtain ⟨d, e3, e⟩ := Option.map_eq_some_iff.mp e
          cases e
          exact ⟨ds, h, _, _, e1, k, n, _, rfl, hz, e2, e3, p⟩
        · cases e
      · cases e
    · cases e
  · rintro ⟨ds, h, x, δ1, e1, k, n, d, rfl, hz, e2, e3, p⟩
    exact ⟨_, _, _, by unfold xPop; rw [h]; simp only [e1, Option.bind_some, if_pos hz, e2, e3, Option.map_some], p⟩
theorem wx_bin {f m mx P} : WX (xBin f m mx) ρ δ P ↔ WE m ρ δ fun x δ1 => WX mx ρ δ1 fun y ρ2 δ2 => W1 (f x y) fun z => P z ρ2 δ2 := by
  constructor
  · rintro ⟨d, ρ', δ', e, p⟩
    obtain ⟨⟨x, δ1⟩, e1, e⟩ := Option.bind_eq_some_iff.mp e
    obtain ⟨⟨y, ρ2, δ2⟩, e2, e⟩ := Option.bind_eq_some_iff.mp e
    obtain ⟨z, e3, e⟩ := Option.map_eq_some_iff.mp e
    cases e
    exact ⟨x, _, e1, y, _, _, e2, _, e3, p⟩
  · rintro ⟨x, δ1, e1, y, ρ2, δ2, e2, z, e3, p⟩
    exact ⟨_, _, _, by unfold xBin; simp only [e1, e2, Option.bind_some, e3, Option.map_some], p⟩
theorem ws_hid {r ml m P} : WS (sHid r ml m) ρ δ P ↔ r < ρ.length ∧ WL ml (ρ.set r .no) δ [] fun f ρ1 δ1 dss1 => match f with
    | .nx => WS m (ρ1.set r (.val (.list (dss1.map .list)))) δ1 P
    | .rt d => P (.rt d) ρ1 δ1
    | _ => False := by
  constructor
  · rintro ⟨f, ρ', δ', e, p⟩
    unfold sHid at e
    split at e
    · rename_i hz
      obtain ⟨⟨g, ρ1, δ1, dss1⟩, e1, e⟩ := Option.bind_eq_some_iff.mp e
      refine ⟨hz, g, ρ1, δ1, dss1, e1, ?_⟩
      cases g with
      | nx => exact ⟨f, ρ', δ', e, p⟩
      | rt d => cases e; exact p
      | bk => cases e
      | ct => cases e
    · cases e
  · rintro ⟨hz, g, ρ1, δ1, dss1, e1, p⟩
    cases g with
    | nx =>
      obtain ⟨f, ρ', δ', e, p⟩ := p
      exact ⟨f, ρ', δ', by unfold sHid; rw [if_pos hz, e1]; exact e, p⟩
    | rt d => exact ⟨_, _, _, by unfold sHid; rw [if_pos hz, e1]; rfl, p⟩
    | bk => exact p.elim
    | ct => exact p.elim
theorem wl_gen {m P} : WL (lGen m) ρ δ dss P ↔ WS m ρ δ fun f ρ1 δ1 => P f ρ1 δ1 dss := by
  constructor
  · rintro ⟨f, ρ', δ', dss', e, p⟩
    obtain ⟨⟨g, ρ1, δ1⟩, e1, e⟩ := Option.map_eq_some_iff.mp e
    cases e
    exact ⟨_, _, _, e1, p⟩
  · rintro ⟨f, ρ1, δ1, e1, p⟩
    exact ⟨_, _, _, _, by unfold lGen; simp only [e1, Option.map_some], p⟩
theorem wl_seq {a b P} : WL (lSeq a b) ρ δ dss P ↔ WL a ρ δ dss fun f ρ1 δ1 dss1 => match f with
    | .nx => WL b ρ1 δ1 dss1 P
    | f => P f ρ1 δ1 dss1 := by
  constructor
  · rintro ⟨f, ρ', δ', dss', e, p⟩
    obtain ⟨⟨g, ρ1, δ1, dss1⟩, e1, e⟩ := Option.bind_eq_some_iff.mp e
    refine ⟨g, ρ1, δ1, dss1, e1, ?_⟩
    cases g with
    | nx => exact ⟨_, _, _, _, e, p⟩
    | _ => cases e; exact p
  · rintro ⟨g, ρ1, δ1, dss1, e1, p⟩
    cases g with
    | nx =>
      obtain ⟨f, ρ', δ', dss', e, p⟩ := p
      exact ⟨_, _, _, _, by unfold lSeq; rw [e1]; exact e, p⟩
    | _ => exact ⟨_, _, _, _, by unfold lSeq; rw [e1]; rfl, p⟩
theorem wl_ifAnd {c a b P} : WL (lIf (tAndL c) a b) ρ δ dss P ↔ if dss = [] then WL b ρ δ dss P else WT c ρ δ fun x δ1 => if x = true then WL a ρ δ1 dss P else WL b ρ δ1 dss P := by
  by_cases h : dss = []
  · rw [if_pos h]
    have : lIf (tAndL c) a b ρ δ dss = b ρ δ dss := by unfold lIf tAndL; rw [if_pos h]; rfl
    unfold WL
    rw [this]
  · rw [if_neg h]
    constructor
    · rintro ⟨f, ρ', δ', dss', e, p⟩
      unfold lIf tAndL at e
      rw [if_neg h] at e
      obtain ⟨⟨x, δ1⟩, e1, e⟩ := Option.bind_eq_some_iff.mp e
      refine ⟨x, δ1, e1, ?_⟩
      cases x with
      | true => rw [if_pos rfl]; exact ⟨_, _, _, _, e, p⟩
      | false => rw [if_neg Bool.false_ne_true]; exact ⟨_, _, _, _, e, p⟩
    · rintro ⟨x, δ1, e1, p⟩
      cases x with
      | true =>
        rw [if_pos rfl] at p
        obtain ⟨f, ρ', δ', dss', e, p⟩ := p
        exact ⟨_, _, _, _, by unfold lIf tAndL; rw [if_neg h, e1]; exact e, p⟩
      | false =>
        rw [if_neg Bool.false_ne_true] at p
        obtain ⟨f, ρ', δ', dss', e, p⟩ := p
        exact ⟨_, _, _, _, by unfold lIf tAndL; rw [if_neg h, e1]; exact e, p⟩
theorem wl_app {m P} : WL (lApp m) ρ δ dss P ↔ WE m ρ δ fun x δ1 => dss.length < sizeLine ∧ P .nx ρ δ1 (dss ++ [[x]]) := by
  constructor
  · rintro ⟨f, ρ', δ', dss', e, p⟩
    obtain ⟨⟨x, δ1⟩, e1, e⟩ := Option.bind_eq_some_iff.mp e
    dsimp only at e
    split at e
    · rename_i hz; cases e; exact ⟨x, _, e1, hz, p⟩
    · cases e
  · rintro ⟨x, δ1, e1, hz, p⟩
    exact ⟨_, _, _, _, by unfold lApp; rw [e1]; exact if_pos hz, p⟩
theorem wl_at {mi m P} : WL (lAt mi m) ρ δ dss P ↔ WE mi ρ δ fun j δ1 => ∃ k n, j = .int k ∧ ixN dss.length k = some n ∧ WE m ρ δ1 fun x δ2 => (dss.getD n []).length < sizeLine ∧ P .nx ρ δ2 (dss.set n (dss.getD n [] ++ [x])) := by
  constructor
  · rintro ⟨f, ρ', δ', dss', e, p⟩
    obtain ⟨⟨j, δ1⟩, e1, e⟩ := Option.bind_eq_some_iff.mp e
    dsimp only at e
    split at e
    · rename_i k
      obtain ⟨n, e2, e⟩ := Option.bind_eq_some_iff.mp e
      obtain ⟨⟨x, δ2⟩, e3, e⟩ := Option.bind_eq_some_iff.mp e
      dsimp only at e
      split at e
      · rename_i hz; cases e; exact ⟨_, _, e1, k, n, rfl, e2, x, _, e3, hz, p⟩
      · cases e
    · cases e
  · rintro ⟨j, δ1, e1, k, n, rfl, e2, x, δ2, e3, hz, p⟩
    exact ⟨_, _, _, _, by unfold lAt; simp only [e1, Option.bind_some, e2, e3, if_pos hz], p⟩
theorem wl_for {mi g s P} : WL (lFor mi g s) ρ δ dss P ↔ WA mi ρ δ fun ds δ1 => WL (forLL g s ds) ρ δ1 dss P := by
  constructor
  · rintro ⟨f, ρ', δ', dss', e, p⟩
    obtain ⟨⟨ds, δ1⟩, e1, e⟩ := Option.bind_eq_some_iff.mp e
    exact ⟨_, _, e1, _, _, _, _, e, p⟩
  · rintro ⟨ds, δ1, e1, f, ρ', δ', dss', e, p⟩
    exact ⟨_, _, _, _, by unfold lFor; rw [e1]; exact e, p⟩
theorem wl_forI {g s P} (I : List D → List Sl → Dk → List (List D) → Prop) (hs : ∀ d ds ρ δ dss, I (d :: ds) ρ δ dss → WG g d ρ fun ρ1 => WL s ρ1 δ dss fun f ρ2 δ2 dss2 => match f with
    | .nx => I ds ρ2 δ2 dss2
    | .ct => I ds ρ2 δ2 dss2
    | .bk => P .nx ρ2 δ2 dss2
    | .rt d => P (.rt d) ρ2 δ2 dss2) (h0 : ∀ ρ δ dss, I [] ρ δ dss → P .nx ρ δ dss) : ∀ (ds : List D) (ρ : List Sl) (δ : Dk) (dss : List (List D)), I ds ρ δ dss → WL (forLL g s ds) ρ δ dss P
  | [], ρ, δ, dss, h => ⟨_, _, _, _, rfl, h0 _ _ _ h⟩
  | d :: ds, ρ, δ, dss, h => by
    obtain ⟨ρ1, e1, f, ρ2, δ2, dss2, e2, p⟩ := hs d ds ρ δ dss h
    cases f with
    | nx =>
      obtain ⟨f3, ρ3, δ3, dss3, e3, p3⟩ := wl_forI I hs h0 ds ρ2 δ2 dss2 p
      exact ⟨_, _, _, _, by unfold forLL; simp only [e1, Option.bind_some, e2]; exact e3, p3⟩
    | ct =>
      obtain ⟨f3, ρ3, δ3, dss3, e3, p3⟩ := wl_forI I hs h0 ds ρ2 δ2 dss2 p
      exact ⟨_, _, _, _, by unfold forLL; simp only [e1, Option.bind_some, e2]; exact e3, p3⟩
    | bk => exact ⟨_, _, _, _, by unfold forLL; simp only [e1, Option.bind_some, e2], p⟩
    | rt z => exact ⟨_, _, _, _, by unfold forLL; simp only [e1, Option.bind_some, e2], p⟩
end
end PD

namespace PD
open PySem PySem.Spec PyProof.Rows L2
/-! ### defs that are called where no repr is under way -/
structure FnG (P : Program) (ω : World) (K : PySem.W.Frag) (μ : Str → Option Value) (B : Heap) (n : Nat) (g : Addr) (D : FuncData) (par : List Str) (π : Sp) : Prop where
  ln : ∀ xs H Q E, π xs H Q E → xs.length = par.length
  go : ∀ (A : Around) (out : List Env) (z : Shared) (H : Hp) (ar : Args) (ys : List Value) (xs : List V) (Q : VK) (E : XK), Room n A → A.guards = some [] → Env0 P ω K μ B A out z H → BindsTo z D ar (par.zip ys) → Vals xs ys → π xs H Q E →
    codeAny (model P ω) A (.call (.ref g) ar) (CR CX0 out P ω H z Q E) z
section
variable {P : Program} {ω : World} {K : PySem.W.Frag} {μ : Str → Option Value} {B : Heap}
theorem fn_okG {nm ql : Str} {st : Stmt} {g : Addr} {D : FuncData} {N par : List Str} {n : Nat} {π : Sp} (F : Fun K nm ql st g D) (S : FnScope N par (defScope st)) (hl : ∀ xs H Q E, π xs H Q E → xs.length = par.length)
    (hb : ∀ (cv : Value) (A : Around) (out : List Env) (z : Shared) (H : Hp) (xs : List V) (Q : VK) (E : XK), Room n (A.deeper (envOfC ql (defScope st) z.heap.objs.size g cv)) → A.guards = some [] → π xs H Q E →
      ∃ t, PSs (cxOf CX0 P ω K μ B N ql (defScope st) g cv A out z H E).nox (defBody st) t ∧ t { nx := fun _ H' => Q .non H', rt := Q } (start N xs) H) : FnG P ω K μ B (n + 1) g D par π := by
  obtain ⟨oc, od, kv, dc, pm, an, cv, ct, sl, rfl, lk, hc⟩ := F.ex
  constructor
  · exact hl
  · intro A out z H ar ys xs Q E room gd env bind vals hp
    have hn := hl xs H Q E hp
    have inK : K.In z.heap := env.mod.kin.keeps fun i u q => (env.bs i u q).1
    have nol : z.heap.NoLimit := env.mod.nolimit.keeps fun i u q => (env.bs i u q).1
    have kinds : ∀ q ∈ par.zip ys, (defScope st).names.lookup q.1 = some .local ∨ ((defScope st).names.lookup q.1 = some .cell ∧ ((cellsFrom (z.heap.objs.size + 1) (defScope st).names []).lookup q.1).isSome = true) := by
      rintro ⟨i, v⟩ hq
      cases S.par i (List.of_mem_zip hq).1 with
      | inl q => exact Or.inl q
      | inr q => exact Or.inr ⟨q, PySem.W.cellsFrom_some _ _ _ (Or.inl q)⟩
    apply codeAny_call_function room.depth (inK _ _ lk) rfl S.co S.gen rfl (PySem.W.codeRec_of inK hc)
    apply bind
    apply wpAny_newFunctionEnv_cells S.kind kinds
    intro ev hev z1 ic
    subst hev
    obtain ⟨t, ht, ht2⟩ := hb cv A out z H xs Q E (room.deeper _) gd hp
    have J : Inv (cxOf CX0 P ω K μ B N ql (defScope st) g cv A out z H E) [] (start N xs) H z1 := inv_start S room.hd env hn vals ic
    refine ⟨nol.keeps ic.toInCall.keep, codeAny_func (wpAny_mono (ht.nox.run [] z1 (start N xs) H _ J ht2) ?_ fun _ _ q => q)⟩
    intro fl z2 h2
    cases fl with
    | brk => obtain ⟨_, _, _, no⟩ := h2; exact no.elim
    | cont => obtain ⟨_, _, _, no⟩ := h2; exact no.elim
    | next => obtain ⟨_, H2, J2, q2⟩ := h2; exact ⟨.non, H2, J2.os, J2.bare, J2.base, J2.hok, rfl, q2⟩
    | ret u => obtain ⟨v2, _, H2, J2, r2, q2⟩ := h2; exact ⟨v2, H2, J2.os, J2.bare, J2.base, J2.hok, r2, q2⟩
end
end PD

namespace PD
open PySem PySem.Spec PyProof.Rows L2
/-- from an abstract heap that holds the script at most -/
theorem lawCore {P : Program} {ω : World} {K : PySem.W.Frag} {μ β : Str → Option Value} {n : Nat} {g i : Addr} {D : FuncData} {nm : Str} {π : Sp} {z : Shared} {vs : List Value} {H : Hp}
    (inK : K.In z.heap) (gl : z.heap.Ns mainGlobals μ) (bl : z.heap.Ns builtinsNs β) (bb : ∀ q : Str, q ≠ "__name__" → β q = bootBuiltins q) (nol : z.heap.NoLimit) (ng : z.gens = #[])
    (hi : z.heap.get? i = some { cls := .type "list", data := .seq vs.toArray }) (room : Room n callerA)
    (F : ∀ B : Heap, K.In B → B.Ns mainGlobals μ → FnG P ω K μ B n g D [nm] π) (bind : ∀ (t : Shared) (u : Value), BindsTo t D ⟨[u], []⟩ [(nm, u)])
    (hp : π [.ref i] H (fun v _ => v = .bl true) fun _ _ _ => False) (hO : Only H) (hok : HOk P ω H z.heap) (one : ∀ c, H c ≠ none → c = i) (own : H i ≠ none → K.lookup i = none) :
    codeAny (model P ω) callerA (.call (.ref g) ⟨[.ref i], []⟩) (fun r t => r = .ok (.ret (.bool true)) ∧ OldK z.heap t.heap ∧ t.os = z.os ∧ AllBare t.gens) z := by
  have hid : ∀ {c : Addr} {o : Obj}, z.heap.get? c = some o → H c = none → (hidT z.heap H).get? c = some o := fun e q => hidT_get e q
  have dictFree : ∀ {c : Addr} {o : Obj} {es : Array DictEntry} {ep : Nat}, z.heap.get? c = some o → o.data = .dict es ep → H c = none := by
    intro c o es ep e d
    by_cases q : H c = none
    · exact q
    · have ec := one c q
      subst ec
      rw [hi] at e
      cases e
      exact absurd d (by intro y; cases y)
  have nsOf : ∀ {c : Addr} {m : Str → Option Value}, z.heap.Ns c m → (hidT z.heap H).Ns c m := by
    rintro c m ⟨o, es, ep, e, d, r⟩
    exact ⟨o, es, ep, hid e (dictFree e d), d, r⟩
  have inB : K.In (hidT z.heap H) := by
    intro c o e
    refine hid (inK c o e) ?_
    by_cases q : H c = none
    · exact q
    · have ec := one c q
      subst ec
      rw [own q] at e
      cases e
  have M : Mod K μ (hidT z.heap H) := ⟨inB, nsOf gl, ⟨β, nsOf bl, bb⟩, by obtain ⟨m, a1, a2⟩ := nol; exact ⟨m, nsOf a1, a2⟩⟩
  have E : Env0 P ω K μ (hidT z.heap H) callerA [] z H := ⟨rfl, M, fun c o e => of_hidT e, Nat.le_of_eq (hidT_size _ _), trivial, by intro c hc; exact absurd (show c ∈ ([] : List Addr) from hc) (by simp), hok, .of_eq ng⟩
  refine codeAny_mono ((F _ inB (nsOf gl)).go callerA [] z H ⟨[.ref i], []⟩ [.ref i] [.ref i] _ _ room rfl E (bind z (.ref i)) (.cons rfl .nil) hp) ?_
  intro r t ht
  match r, ht with
  | .error e, ht => exact ht.elim
  | .ok .next, ht => exact ht.elim
  | .ok .brk, ht => exact ht.elim
  | .ok .cont, ht => exact ht.elim
  | .ok (.ret u), ht =>
    obtain ⟨v, H2, os, bare, un, hok2, rv, qv⟩ := ht
    have qv : v = .bl true := qv
    subst qv
    obtain rfl : u = Value.bool true := rv
    refine ⟨rfl, OldK.of_keep ?_, os, bare⟩
    intro c o e
    by_cases q : H c = none
    · exact un.keep c o e q (by intro y; exact absurd (show c ∈ ([] : List Addr) from y) (by simp)) (by simp)
    · rcases hO c with y | ⟨ob, xs, y⟩
      · exact absurd y q
      · obtain ⟨f1, _⟩ := hok c _ y
        obtain ⟨f2, _⟩ := hok2 c _ (un.frzs c ob _ y)
        rw [e] at f1
        cases f1
        exact f2
/-- the end: the law's def, called where no repr is under way -/
theorem walkG {l : PySem.W.OpenLaw} {m n : Nat} {q : Program} {loose : List Str} {XP : (Str → Option Value) → Heap → Prop} {YP : World → Heap → Prop} {d : DefRec} {K : Params → PySem.W.Frag} {π : World → Sp} {nm : Str}
    (h1 : l.most = some m) (h2 : m ≤ sizeLine) (h3 : d.params.defaults = []) (room : Room n callerA)
    (hY : ∀ (ω : World) (h : Heap), YP ω h → (K ω.params).In h)
    (F : ∀ (ω : World) (μ : Str → Option Value) (g : Addr) (h : Heap), (K ω.params).In h → h.Ns mainGlobals μ → μ d.name = some (.ref g) →
      ∃ D : FuncData, (∀ (t : Shared) (u : Value), BindsTo t D ⟨[u], []⟩ [(nm, u)]) ∧ ∀ B : Heap, (K ω.params).In B → B.Ns mainGlobals μ → FnG l.prog ω (K ω.params) μ B n g D [nm] (π ω))
    (hp : ∀ (ω : World) (H : Hp) (i : Addr) (ns : List Int), ns.length ≤ m → Only H → SqL (K ω.params) H i (ns.map V.int) → π ω [.ref i] H (fun v _ => v = .bl true) fun _ _ _ => False) :
    PySem.W.WalkO q loose XP YP l.row.toRowW d [] (fun f vs => PySem.call f vs) := by
  refine Att.attach_call h1 h3 ?_
  intro ω z0 z μ β g o pm cd doc i vs ns G Y ho hd hcd hmg hobj hints hlen hg
  have inK := hY ω _ Y
  obtain ⟨D, bind, F2⟩ := F ω μ g _ inK G.T.g hmg
  have hl : ns.length ≤ sizeLine := Nat.le_trans hlen h2
  have rv := vals_ints hints
  have lv := hints.length
  cases hk : (K ω.params).lookup i with
  | some ob =>
    have e := inK i ob hk
    rw [hobj] at e
    cases e
    have hS : SqL (K ω.params) (fun _ => none) i (ns.map V.int) := .inr ⟨_, vs.toArray, _, hk, rfl, rfl, rfl, by rw [List.size_toArray, lv]; exact hl, by simpa using rv⟩
    exact lawCore inK G.T.g G.T.b G.T.builtins G.T.nolimit hg hobj room F2 bind (hp ω _ i ns hlen (fun _ => .inl rfl) hS) (fun _ => .inl rfl) (fun c u y => nomatch (show (none : Option HO) = some u from y)) (fun c y => absurd rfl y) (fun y => absurd rfl y)
  | none =>
    let ob : Obj := { cls := .type "list", data := .seq vs.toArray }
    let H : Hp := fun c => if c = i then some (.frz ob (.lst (ns.map V.int))) else none
    have e1 : H i = some (.frz ob (.lst (ns.map V.int))) := if_pos rfl
    have e2 : ∀ c, c ≠ i → H c = none := fun c hc => if_neg hc
    have hO : Only H := fun c => by
      by_cases hc : c = i
      · rw [hc]; exact .inr ⟨_, _, e1⟩
      · exact .inl (e2 c hc)
    have hS : SqL (K ω.params) H i (ns.map V.int) := .inl (.inr ⟨ob, e1⟩)
    refine lawCore inK G.T.g G.T.b G.T.builtins G.T.nolimit hg hobj room F2 bind (hp ω H i ns hlen hO hS) hO (fun c u y => ?_) (fun c y => ?_) (fun _ => hk)
    · by_cases hc : c = i
      · subst hc
        rw [e1] at y
        cases y
        exact ⟨hobj, by rw [List.length_map]; exact hl, vs, _, rv, hobj⟩
      · rw [e2 c hc] at y; cases y
    · by_cases hc : c = i
      · exact hc
      · exact absurd (e2 c hc) y
end PD

namespace PD
open PySem PySem.Spec PyProof.Rows L2
/-! ### repr of data -/
mutual
theorem Rep.reads {X : Cx} {pins : List (Addr × Obj)} {σ : L2.St} {H : Hp} {s : Shared} {M : Addr → Prop} (I : Inv X pins σ H s) : ∀ {v : V} {d : D} {u : Value}, Rep X.K M H v d → d.hasDict = false → RelV v u → ∃ as, Reads s.heap u d as
  | _, _, _, .non, _, r => ⟨[], by cases r; exact .none⟩
  | _, _, _, .bl b, _, r => ⟨[], by cases r; exact .bool b⟩
  | _, _, _, .int i, _, r => ⟨[], by obtain ⟨t, rfl⟩ := r; exact .int i t⟩
  | _, _, _, .str x, _, r => ⟨[], by obtain ⟨t, rfl⟩ := r; exact .str x t⟩
  | _, _, _, .lst (a := a) (xs := xs) (ds := ds) ha rs, hd, r => by
    cases r
    obtain ⟨its, rv, ⟨o, n, e1, e2, _, e3⟩, _⟩ := I.list ha.sq
    obtain ⟨as, ra⟩ := Reps.reads I rs (by simpa [PyData.hasDict] using hd) rv
    exact ⟨_, .list e1 e2 e3 (by simpa using ra)⟩
  | _, _, _, .tup (a := a) (xs := xs) (ds := ds) ha rs, hd, r => by
    cases r
    obtain ⟨its, rv, ⟨o, e1, e2, n, e3⟩, _⟩ := I.tuple ha.sq
    obtain ⟨as, ra⟩ := Reps.reads I rs (by simpa [PyData.hasDict] using hd) rv
    exact ⟨_, .tuple e1 e2 e3 (by simpa using ra)⟩
  | _, _, _, .dic _ _ _, hd, _ => by simp [PyData.hasDict] at hd
theorem Reps.reads {X : Cx} {pins : List (Addr × Obj)} {σ : L2.St} {H : Hp} {s : Shared} {M : Addr → Prop} (I : Inv X pins σ H s) : ∀ {vs : List V} {ds : List D} {us : List Value}, Reps X.K M H vs ds → PyData.hasDictAll ds = false → Vals vs us → ∃ as, ReadsAll s.heap us ds as
  | _, _, _, .nil, _, .nil => ⟨[], .nil⟩
  | _, _, _, .cons r t, hd, .cons rv tv => by
    simp only [PyData.hasDictAll, Bool.or_eq_false_iff] at hd
    obtain ⟨as, ra⟩ := Rep.reads I r hd.1 rv
    obtain ⟨bs, rb⟩ := Reps.reads I t hd.2 tv
    exact ⟨_, .cons ra rb⟩
end
/-- what can be shown -/
structure ShowOk (d : D) : Prop where
  s : d.showable = true
  n : d.hasDict = false
  p : d.depth ≤ 60
  z : d.shown.length ≤ sizeLine
def rRepr (K : PySem.W.Frag) : List V → Hp → VK → Prop := fun xs H Q => ∃ (M : Addr → Prop) (d : D) (x : V), xs = [x] ∧ Rep K M H x d ∧ ShowOk d ∧ Q (.str d.shown) H
theorem call_reprD {X : Cx} (hg : X.A.guards = some []) (hu : X.A.units + 65 < cLine) : CallR X (.builtin "repr") (rRepr X.K) := by
  intro pins s σ H xs us Q I r h
  obtain ⟨M, d, x, rfl, rp, ok, q⟩ := h
  obtain ⟨u, rfl, rv⟩ := vals1 r
  have hq : ∀ (h' : Heap) (t : Tok) (tk : Nat), (∀ b o, s.heap.get? b = some o → h'.get? b = some o) → EP X pins σ Q (.str d.shown t) { s with heap := h', toks := tk } := fun h' t tk k => ⟨.str d.shown, H, I.kept k, ⟨t, rfl⟩, q⟩
  obtain ⟨as, rd⟩ := rp.reads I ok.n rv
  have byRef : ∀ a, u = .ref a → wpAny (model X.prog X.w) X.A (call (.builtin "repr") [u]) (EP X pins σ Q) X.xe s := fun a e => by
    subst e
    exact PySem.repr_of_reads' rd ok.s (PyData.noDict_hsm ok.n) hg (by have := ok.p; omega) (fun _ _ e => e) hq ok.z
  cases rp with
  | non =>
    cases rv
    exact PySem.P.repr_of_none (hq _ _ _ fun _ _ e => e)
  | bl b =>
    cases rv
    have := hq s.heap s.toks (s.toks + 1) fun _ _ e => e
    cases b <;> exact PySem.P.repr_of_bool this
  | int i =>
    obtain ⟨t, rfl⟩ := rv
    exact PySem.P.repr_of_int (of_decide_eq_true (by simpa [PyData.showable] using ok.s)) (hq _ _ _ fun _ _ e => e)
  | str y =>
    obtain ⟨t, rfl⟩ := rv
    exact PySem.P.repr_of_str (hq _ _ _ fun _ _ e => e) ok.z
  | lst ha rs => exact byRef _ rv
  | tup ha rs => exact byRef _ rv
  | dic a b c => exact byRef _ rv
instance (d : D) : Decidable (ShowOk d) := decidable_of_iff (d.showable = true ∧ d.hasDict = false ∧ d.depth ≤ 60 ∧ d.shown.length ≤ sizeLine) ⟨fun h => ⟨h.1, h.2.1, h.2.2.1, h.2.2.2⟩, fun h => ⟨h.1, h.2, h.3, h.4⟩⟩
def reprD : List D → Option D
  | [d] => if ShowOk d then some (.str d.shown) else none
  | _ => none
theorem cs_repr {K} : CallS K (rRepr K) reprD := fun F σ H ρ δ xs ds z G R hz Q q => by
  unfold reprD at hz
  split at hz
  · rename_i d
    split at hz
    · rename_i ok
      cases hz
      obtain ⟨v, rfl, r⟩ := reps1 R
      exact ⟨_, d, v, rfl, r, ok, q _ _ (fun _ _ e => e) (.str _)⟩
    · cases hz
  · cases hz
section
variable {X : Cx} {e : Expr} {es : List Expr} {r : MA} {p pos : Pos}
theorem pd_repr (hm : X.mg "repr" = none) (hgd : X.A.guards = some []) (hu : X.A.units + 65 < cLine) (ha : PDA X (e :: es) r) (hg : Gl X "repr" := by rfl) (he : starEach (e :: es) X.env = (false, eval e X.env) :: starEach es X.env := by rfl) (hpl : (backTo pos (starEach es X.env)).any (·.1) = false := by rfl) : PD X (.Call (.Name "repr" p) (e :: es) [] pos) (mCall reprD r) :=
  pd_cb (by decide +kernel) (call_reprD hgd hu) cs_repr ha hg hm (by decide) (by decide) he hpl
/-- what is never reached -/
def sNone : MS := fun _ _ => none
theorem pds_none {st : Stmt} : PDS X st sNone := ⟨fun _ _ _ => False, ⟨fun _ _ _ _ _ _ h => h.elim⟩, fun F σ H ρ δ fl ρ' δ' G e => nomatch (show (none : Option (Fl × List Sl × Dk)) = some _ from e)⟩
end
end PD

namespace PD
open PySem PySem.Spec PyProof.Rows L2
section
variable {P : Program} {w : World} {K : PySem.W.Frag} {mg : Str → Option Value} {base : Heap}
theorem okLawG {x qual : Str} {st : Stmt} {f : Addr} {fd : FuncData} {N : List Str} {k : Nat} {s : MS} {rest : List Stmt} {p1 p2 p3 p4 p5 : Pos} {xs xd xf : Str} {mk : List Int → Dk} (F : Fun K x qual st f fd) (S : FnScope N [xs] (defScope st)) (hl : 2 ≤ N.length)
    (hbd : defBody st = .Assign [.Name xd p1] (.Call (.Name xf p2) [.Name xs p3] [] p4) p5 :: rest)
    (h1 : ∀ (cdv : Value) (A : Around) (outer : List Env) (s0 : Shared) (H : Hp) (E : XK), Room k (A.deeper (envOfC qual (defScope st) s0.heap.objs.size f cdv)) → A.guards = some [] → PS (cxOf CX0 P w K mg base N qual (defScope st) f cdv A outer s0 H E).nox (.Assign [.Name xd p1] (.Call (.Name xf p2) [.Name xs p3] [] p4) p5) (tAsg (tCall (spDeck K mk) [] E0 (tCons (tVar 0) tNil)) (gName 1)))
    (h2 : ∀ (cdv : Value) (A : Around) (outer : List Env) (s0 : Shared) (H : Hp) (E : XK), Room k (A.deeper (envOfC qual (defScope st) s0.heap.objs.size f cdv)) → A.guards = some [] → PDSs (cxOf CX0 P w K mg base N qual (defScope st) f cdv A outer s0 H E).nox rest s)
    (hm : ∀ ns : List Int, ns.length ≤ 63 → ∃ ρ' δ', s (slots N.length [.no, .deck]) (mk ns) = some (.rt (.bool true), ρ', δ')) :
    FnG P w K mg base (k + 1) f fd [xs] (spLaw K) := by
  refine fn_okG F S (fun vs H Q E h => ?_) (fun cdv A outer s0 H vs Q E hr gd h => ?_)
  · obtain ⟨a, ns, rfl, _⟩ := h
    rfl
  · obtain ⟨a, ns, rfl, hS, hn, q⟩ := h
    obtain ⟨t, w2, s2⟩ := (h2 cdv A outer s0 H E hr gd).ex
    rw [hbd]
    refine ⟨_, pss_cons (h1 cdv A outer s0 H E hr gd) w2, ?_⟩
    refine ⟨.ref a, start_get rfl, a, ns, rfl, hS, fun p H' sm dk => ?_⟩
    obtain ⟨ρ', δ', hm⟩ := hm ns hn
    have hge : ∀ (i : Nat) x, (slots N.length [Sl.no, Sl.deck])[i]? = some x → x = .no ∨ (i = 1 ∧ x = .deck) := fun i x h => by
      rcases slots_get h with h | h
      · match i, h with
        | 0, h => cases h; exact .inl rfl
        | 1, h => cases h; exact .inr ⟨rfl, rfl⟩
        | i + 2, h => cases h
      · exact .inl h
    have G : Good K ⟨fun a => a = p.1 ∨ a = p.2 ∨ a = p.3, some p, H'⟩ ((L2.start N [.ref a]).set 1 (some (.ref p.1))) H' (slots N.length [.no, .deck]) (mk ns) := by
      refine ⟨?_, fun i d h => ?_, fun i ds h => ?_, fun i j ds _ _ h => ?_, fun b hb => ?_, fun i h => ?_, fun p' h => ?_, fun _ _ e _ => e⟩
      · unfold L2.start slots
        simp only [List.length_set, List.length_append, List.length_map, List.length_replicate, List.length_cons, List.length_nil]
        omega
      · rcases hge i _ h with h | ⟨_, h⟩ <;> cases h
      · rcases hge i _ h with h | ⟨_, h⟩ <;> cases h
      · rcases hge i _ h with h | ⟨_, h⟩ <;> cases h
      · rcases hb with rfl | rfl | rfl
        · rw [dk.one]; exact fun z => nomatch z
        · rw [dk.two]; exact fun z => nomatch z
        · rw [dk.tri]; exact fun z => nomatch z
      · rcases hge i _ h with h | ⟨rfl, hk⟩
        · cases h
        · cases hk
          exact ⟨p, rfl, List.getElem?_set_self (by unfold L2.start; simp only [List.length_append, List.length_map, List.length_replicate, List.length_cons, List.length_nil]; omega)⟩
      · cases h
        exact ⟨.inl rfl, .inr (.inl rfl), .inr (.inr rfl), dk⟩
    refine s2 _ _ H' _ _ _ ρ' δ' G hm _ fun σ' H2 G2 M2 v R => ?_
    cases R
    exact q H2
end
end PD

namespace PD
open PySem PySem.Spec PyProof.Rows L2
theorem cells_len (ns : List Int) : 0 < (cellsOf ns).length ∧ (cellsOf ns).length ≤ 64 := by
  unfold cellsOf
  cases ns with
  | nil => decide
  | cons n r =>
    rw [if_neg (by simp), List.append_nil, List.length_take, List.length_cons]
    omega
theorem cells_eq {ns : List Int} {bb : Bool} (h : decide ((ns.length : Int) = 0) = bb) : ns.take 63 ++ (if bb = true then [0] else []) = cellsOf ns := by
  unfold cellsOf
  subst h
  cases ns with
  | nil => rfl
  | cons n t =>
    rw [decide_eq_false (by rw [List.length_cons]; omega), if_neg Bool.false_ne_true, if_neg (by simp)]
theorem rep0 (b : Bool) : (List.replicate ((if b = true then 1 else 0 : Int)).toNat [V.int 0]).flatten = (if b = true then [0] else []).map V.int := by cases b <;> rfl
/-! ### the second draw -/
def nextOk (δ : Dk) (many : Int) : Bool := decide (0 < many ∧ many ≤ 10000000000000 ∧ 0 < δ.cells.length ∧ δ.rests.length = δ.cells.length ∧ 0 ≤ δ.k ∧ δ.k ≤ 1000000000)
def atOf (δ : Dk) : Nat := (δ.k % (δ.cells.length : Int)).toNat
/-- what is told, by what is mixed of a cell and the turn -/
def nextOf (mix : Int → Int → Int) (δ : Dk) (many : Int) : Int × Dk :=
  let r := δ.rests.getD (atOf δ) 0
  if 0 < r then (r % many, ⟨δ.cells, δ.k + 1, δ.rests.set (atOf δ) (r / many), δ.lft⟩) else (mix (δ.cells.getD (atOf δ) 0) δ.k % many, ⟨δ.cells, δ.k + 1, δ.rests, δ.lft⟩)
def fNext (mix : Int → Int → Int) : List D → Dk → Option (D × Dk)
  | [.int many], δ => if nextOk δ many then some (.int (nextOf mix δ many).1, (nextOf mix δ many).2) else none
  | _, _ => none
structure DkOk (b : Nat) (δ : Dk) : Prop where
  k0 : 0 ≤ δ.k
  k1 : δ.k ≤ b
  c0 : 0 < δ.cells.length
  r0 : δ.rests.length = δ.cells.length
theorem DkOk.mono {b c : Nat} {δ : Dk} (h : DkOk b δ) (hb : b ≤ c) : DkOk c δ := ⟨h.k0, by have := h.k1; omega, h.c0, h.r0⟩
theorem DkOk.start (ns : List Int) : DkOk 0 (deckOf ns) := ⟨Int.le_refl 0, Int.le_refl 0, (cells_len ns).1, by unfold deckOf; simp⟩
theorem next_wp {mix : Int → Int → Int} {b : Nat} {δ : Dk} {many : Int} {P : D → Dk → Prop} (h : DkOk b δ) (hb : b ≤ 1000000000) (h0 : 0 < many) (h1 : many ≤ 10000000000000) (p : ∀ r δ', 0 ≤ r → r < many → DkOk (b + 1) δ' → P (.int r) δ') : WK (fNext mix) [.int many] δ P := by
  have hk := h.k1
  have ok : nextOk δ many = true := decide_eq_true ⟨h0, h1, h.c0, h.r0, h.k0, by omega⟩
  have rd : ∀ x : Int, 0 ≤ x % many ∧ x % many < many := fun x => ⟨Int.emod_nonneg _ (by omega), Int.emod_lt_of_pos _ h0⟩
  refine ⟨_, _, if_pos ok, ?_⟩
  have hk0 := h.k0
  unfold nextOf
  dsimp only
  split
  · exact p _ _ (rd _).1 (rd _).2 ⟨show 0 ≤ δ.k + 1 by omega, show δ.k + 1 ≤ ((b + 1 : Nat) : Int) by omega, h.c0, by show (δ.rests.set _ _).length = _; rw [List.length_set]; exact h.r0⟩
  · exact p _ _ (rd _).1 (rd _).2 ⟨show 0 ≤ δ.k + 1 by omega, show δ.k + 1 ≤ ((b + 1 : Nat) : Int) by omega, h.c0, h.r0⟩
end PD
namespace PD
open PySem PySem.Spec PyProof.Rows L2
theorem atI_getD {xs : List Int} {i : Int} (h0 : 0 ≤ i) (h1 : i < xs.length) : atI (xs.map V.int) i = some (.int (xs.getD i.toNat 0)) := by
  obtain ⟨x, _, e2, _⟩ := atI_in h0 h1
  rw [atI_map]
  unfold atI
  rw [ixN_in h0 h1]
  show (xs[i.toNat]?).map V.int = _
  rw [e2, List.getD_eq_getElem?_getD, e2]
  rfl
theorem log_many {many : Int} (h0 : 0 < many) (h1 : many ≤ 10000000000000) : many.natAbs.log2 < 9000 := log_ok h0 h1
theorem mod_small (c k : Int) {p a b : Int} (hp : 0 < p) (hp2 : p ≤ 4000000000) (ha : 0 ≤ a) (ha2 : a ≤ 1000000) (hb : 0 ≤ b) (hb2 : b ≤ 1000000) (h0 : 0 ≤ k) (h1 : k ≤ 1000000000) : (c % p + a * k + b).natAbs < 2 ^ 64 := by
  have a1 := Int.emod_nonneg c (show p ≠ 0 by omega)
  have a2 := Int.emod_lt_of_pos c hp
  have a3 : 0 ≤ a * k := Int.mul_nonneg ha h0
  have a4 : a * k ≤ 1000000 * 1000000000 := Int.mul_le_mul ha2 h1 h0 (by decide)
  rw [show (2 : Nat) ^ 64 = 18446744073709551616 by decide]
  omega
theorem mod_small2 (c k : Int) {p a : Int} (hp : 0 < p) (hp2 : p ≤ 4000000000) (ha : 0 ≤ a) (ha2 : a ≤ 1000000) (h0 : 0 ≤ k) (h1 : k ≤ 1000000000) : (c % p + a * k).natAbs < 2 ^ 64 := by
  have := mod_small c k hp hp2 ha ha2 (Int.le_refl 0) (by decide) h0 h1
  rwa [Int.add_zero] at this
end PD

namespace PD
open PySem PySem.Spec PyProof.Rows L2
section
variable {X : Cx} {pos : Pos}
/-- x, y = e where e is a list -/
def gLstM (n : Nat) (m : MGs) : MG := fun d ρ => match d with
  | .list ds => if ds.length = n then m ds ρ else none
  | _ => none
theorem pdg_lst {es : List Expr} {k n : Nat} {sl : List Nat} {m : MGs} (hc : X.calm = true) (h : PDGs X es sl m) (hn : (assignEach es X.env).length = n := by rfl) (hst : (assignEach es X.env).findIdx? (·.1) = none := by rfl) : PDG X (.Tuple es k pos) sl (gLstM n m) := by
  obtain ⟨g, p1, s1⟩ := h.ex
  refine ⟨_, L2.pg_lst hc p1 hn hst, fun F σ H ρ δ v d ρ' G r e Q q => ?_⟩
  unfold gLstM at e
  split at e
  · split at e
    · rename_i hl
      cases r with
      | lst ha r => exact ⟨_, _, rfl, ha.sq, by rw [r.length]; exact hl, s1 F σ H ρ δ _ _ ρ' G r e _ q⟩
    · cases e
  · cases e
theorem wg_lst {ρ : List Sl} {n : Nat} {m d P} : WG (gLstM n m) d ρ P ↔ ∃ ds, d = .list ds ∧ ds.length = n ∧ WGs m ds ρ P := by
  constructor
  · rintro ⟨ρ', e, p⟩
    unfold gLstM at e
    split at e
    · split at e
      · rename_i hl; exact ⟨_, rfl, hl, _, e, p⟩
      · cases e
    · cases e
  · rintro ⟨ds, rfl, hl, ρ', e, p⟩
    exact ⟨ρ', by unfold gLstM; simp only; rw [if_pos hl]; exact e, p⟩
/-- x, y = e, f -/
theorem wg_swap {ρ : List Sl} {i j : Nat} {a b : D} {P} : WG (gSwapM i j) (.tuple [a, b]) ρ P ↔ WG (gSwapM i j) (.tuple [a, b]) ρ P := Iff.rfl
end
end PD

namespace PD
open PySem PySem.Spec PyProof.Rows L2
/-! ### texts compared -/
def eqS : D → D → Option D := onS (fun _ _ => true) fun i j => .bool (decide (i = j))
def neS : D → D → Option D := onS (fun _ _ => true) fun i j => .bool (!decide (i = j))
section
variable {X : Cx}
theorem cs_eqS : CmpS X .Eq eqS := ⟨fun x y H Q => ∃ i j, x = .str i ∧ y = .str j ∧ Q (.bl (decide (i = j))) H, by
  intro pins s σ H x y v u Q I rx ry h
  obtain ⟨i, j, rfl, rfl, q⟩ := h
  refine op_eq pins s σ H _ _ v u Q I rx ry ⟨rfl, ?_⟩
  have e : decide (V.str i = V.str j) = decide (i = j) := by rw [Bool.eq_iff_iff]; simp
  rw [e]; exact q, ops_cmpS⟩
theorem cs_neS : CmpS X .NotEq neS := ⟨fun x y H Q => ∃ i j, x = .str i ∧ y = .str j ∧ Q (.bl (!decide (i = j))) H, by
  intro pins s σ H x y v u Q I rx ry h
  obtain ⟨i, j, rfl, rfl, q⟩ := h
  refine op_ne pins s σ H _ _ v u Q I rx ry ⟨rfl, ?_⟩
  have e : decide (V.str i = V.str j) = decide (i = j) := by rw [Bool.eq_iff_iff]; simp
  rw [e]; exact q, ops_cmpS (c := fun i j => !decide (i = j))⟩
end
theorem w_eqS {x y : Str} {P : D → Prop} : W1 (eqS (.str x) (.str y)) P ↔ P (.bool (decide (x = y))) := ⟨fun ⟨_, h, p⟩ => by cases h; exact p, fun p => ⟨_, rfl, p⟩⟩
theorem w_neS {x y : Str} {P : D → Prop} : W1 (neS (.str x) (.str y)) P ↔ P (.bool (!decide (x = y))) := ⟨fun ⟨_, h, p⟩ => by cases h; exact p, fun p => ⟨_, rfl, p⟩⟩
/-! ### a while by a measure -/
theorem ws_whileI {c : MT} {s : MS} {P : Fl → List Sl → Dk → Prop} (I : Nat → List Sl → Dk → Prop) (hs : ∀ n ρ δ, I n ρ δ → WT c ρ δ fun b δ1 => if b = true then WS s ρ δ1 fun f ρ2 δ2 => match f with
    | .nx => ∃ m, m < n ∧ I m ρ2 δ2
    | .ct => ∃ m, m < n ∧ I m ρ2 δ2
    | .bk => P .nx ρ2 δ2
    | .rt d => P (.rt d) ρ2 δ2 else P .nx ρ δ1) : ∀ (fuel n : Nat) (ρ : List Sl) (δ : Dk), n < fuel → I n ρ δ → WS (whileL c s fuel) ρ δ P
  | 0, n, ρ, δ, h, _ => absurd h (Nat.not_lt_zero _)
  | fuel + 1, n, ρ, δ, h, hI => by
    refine ws_while.mpr ?_
    obtain ⟨b, δ1, e, p⟩ := hs n ρ δ hI
    refine ⟨b, δ1, e, ?_⟩
    split at p
    · rename_i hb
      rw [if_pos hb]
      obtain ⟨f, ρ2, δ2, e2, p⟩ := p
      refine ⟨f, ρ2, δ2, e2, ?_⟩
      cases f with
      | nx => obtain ⟨m, hm, i⟩ := p; exact ws_whileI I hs fuel m ρ2 δ2 (by omega) i
      | ct => obtain ⟨m, hm, i⟩ := p; exact ws_whileI I hs fuel m ρ2 δ2 (by omega) i
      | bk => exact p
      | rt d => exact p
    · rename_i hb
      rw [if_neg hb]; exact p
/-! ### how long a shown thing is at most -/
/-- dicts that a law's odd things hold: {} and {'a': 1} -/
def oddE : List (D × D) → Bool
  | [] => true
  | [(.str x, .int i)] => decide (x = Str.ofString "a") && decide (i = 1)
  | _ => false
mutual
def shB : D → Nat
  | .none => 4
  | .bool _ => 5
  | .int i => (Str.ofString (toString i)).length
  | .str x => 10 * x.length + 2
  | .list ds => shBs ds + 3
  | .tuple ds => shBs ds + 3
  | .dict _ => 8
def shBs : List D → Nat
  | [] => 0
  | d :: ds => shB d + 2 + shBs ds
end
theorem shBs_app : ∀ a b : List D, shBs (a ++ b) = shBs a + shBs b
  | [], b => by simp [shBs]
  | d :: a, b => by rw [List.cons_append, shBs, shBs, shBs_app a b]; omega
theorem shBs_le {k : Nat} : ∀ {ds : List D}, (∀ d ∈ ds, shB d ≤ k) → shBs ds ≤ (k + 2) * ds.length
  | [], _ => by simp [shBs]
  | d :: ds, h => by
    have h1 := h d (.head _)
    have h2 := shBs_le fun x hx => h x (.tail _ hx)
    rw [shBs, List.length_cons, Nat.mul_succ]
    omega
theorem textFrom_le : ∀ (ts : List Str) (k : Nat) (acc : Str), (textFrom k acc ts).length ≤ acc.length + (ts.map fun t => t.length + 2).sum
  | [], k, acc => by simp [textFrom]
  | t :: r, k, acc => by
    have ih := textFrom_le r (k + 1) (acc ++ (if k > 0 then ", " else "" : String) ++ t)
    have e : (acc ++ (if k > 0 then ", " else "" : String) ++ t).length ≤ acc.length + 2 + t.length := by
      rw [TL.len_tl, TL.tl_append, TL.tl_append, List.length_append, List.length_append, ← TL.len_tl, ← TL.len_tl, ← TL.len_tl]
      have : ((if k > 0 then ", " else "" : String) : Str).length ≤ 2 := by split <;> decide
      omega
    rw [List.map_cons, List.sum_cons]
    show (textFrom (k + 1) (acc ++ (if k > 0 then ", " else "" : String) ++ t) r).length ≤ _
    omega
theorem join_le (ts : List Str) : (Str.join ", " ts).length ≤ (ts.map fun t => t.length + 2).sum := by
  have := StrLaws.join_length_le (Str.ofString ", ") ts
  have e : (Str.ofString ", ").length = 2 := by decide
  rw [e] at this
  have e2 : ∀ l : List Str, (l.map fun t => t.length + 2).sum = (l.map (·.length)).sum + l.length * 2 := fun l => by
    induction l with
    | nil => rfl
    | cons a l ih => simp only [List.map_cons, List.sum_cons, List.length_cons, ih]; omega
  rw [e2]
  exact this
mutual
/-- texts of signs -/
def ascD : D → Bool
  | .str x => x.cps.toList.all (· < 16 ^ 8)
  | .list ds => ascDs ds
  | .tuple ds => ascDs ds
  | .dict es => oddE es
  | _ => true
def ascDs : List D → Bool
  | [] => true
  | d :: ds => ascD d && ascDs ds
end
mutual
theorem shown_le : ∀ d : D, ascD d = true → d.shown.length ≤ shB d
  | .none, _ => by simp only [PyData.shown, shB]; decide
  | .bool b, _ => by simp only [PyData.shown, shB]; cases b <;> decide
  | .int i, _ => by simp only [PyData.shown, shB]; exact Nat.le_refl _
  | .str x, h => by
    simp only [PyData.shown, shB]
    refine StrLaws.reprText_len x fun c hc => ?_
    have := List.all_eq_true.mp (show x.cps.toList.all (· < 16 ^ 8) = true by simpa [ascD] using h) c hc
    exact of_decide_eq_true this
  | .list ds, h => by
    have ih := showns_le ds (by simpa [ascD] using h)
    have := textFrom_le (PyData.shownAll ds) 0 (Str.ofString "[")
    simp only [PyData.shown, shB, listText]
    rw [TL.len_tl, TL.tl_append, List.length_append, ← TL.len_tl, ← TL.len_tl]
    have e1 : (Str.ofString "[").length = 1 := by decide
    have e2 : (Str.ofString "]").length = 1 := by decide
    rw [e1] at this
    rw [e2]
    omega
  | .tuple ds, h => by
    have ih := showns_le ds (by simpa [ascD] using h)
    have := join_le (PyData.shownAll ds)
    simp only [PyData.shown, shB, tupleText]
    rw [TL.len_tl, TL.tl_append, TL.tl_append, List.length_append, List.length_append, ← TL.len_tl, ← TL.len_tl, ← TL.len_tl]
    have e1 : (Str.ofString "(").length = 1 := by decide
    have e2 : ((if (PyData.shownAll ds).length == 1 then ",)" else ")" : String) : Str).length ≤ 2 := by split <;> decide
    rw [e1]
    omega
  | .dict es, h => by
    have h : oddE es = true := by simpa [ascD] using h
    unfold oddE at h
    split at h
    · decide +kernel
    · simp only [Bool.and_eq_true, decide_eq_true_eq] at h
      obtain ⟨rfl, rfl⟩ := h
      decide +kernel
    · cases h
theorem showns_le : ∀ ds : List D, ascDs ds = true → ((PyData.shownAll ds).map fun t => t.length + 2).sum ≤ shBs ds
  | [], _ => by simp [PyData.shownAll, shBs]
  | d :: ds, h => by
    simp only [ascDs, Bool.and_eq_true] at h
    have h1 := shown_le d h.1
    have h2 := showns_le ds h.2
    simp only [PyData.shownAll, shBs, List.map_cons, List.sum_cons]
    omega
end
end PD

namespace PD
open PySem PySem.Spec PyProof.Rows L2
/-! ### a comprehension whose element changes a list of the def's own -/
def noV (ρ : List Sl) (vs : List Nat) : Bool := vs.all fun i => match ρ[i]? with
  | some .no => true
  | _ => false
theorem noV_get {ρ : List Sl} {vs : List Nat} (h : noV ρ vs = true) {i : Nat} (hi : i ∈ vs) : ρ[i]? = some .no := by
  have := List.all_eq_true.mp h i hi
  split at this
  · assumption
  · cases this
theorem noV_noU {ρ : List Sl} {vs : List Nat} (h : noV ρ vs = true) : noU ρ vs = true := List.all_eq_true.mpr fun i hi => by
  rw [noV_get h hi]
theorem noV_wipe {ρ : List Sl} {vs : List Nat} (h : noV ρ vs = true) : wipeR ρ vs = ρ := list_ext fun i => by
  rw [wipeR_get]
  split
  · rename_i hi
    have := noV_get h hi
    have hl : i < ρ.length := (List.getElem?_eq_some_iff.mp this).1
    rw [if_pos hl, this]
  · rfl
theorem wipe_noV {ρ : List Sl} {vs : List Nat} (h : ∀ i ∈ vs, i < ρ.length) : noV (wipeR ρ vs) vs = true := List.all_eq_true.mpr fun i hi => by
  rw [wipeR_get, if_pos hi, if_pos (h i hi)]
def compX (g : MG) (mx : MX) (vs : List Nat) : List D → List Sl → Dk → Option (List D × List Sl × Dk)
  | [], ρ, δ => some ([], ρ, δ)
  | d :: ds, ρ, δ => (g d ρ).bind fun ρ2 => (mx ρ2 δ).bind fun q => if noU q.2.1 vs = true then (compX g mx vs ds (wipeR q.2.1 vs) q.2.2).map fun r => (q.1 :: r.1, r.2) else none
def xLc (mi : MA) (vs : List Nat) (g : MG) (mx : MX) : MX := fun ρ δ => (mi ρ δ).bind fun p => if noV ρ vs = true then (compX g mx vs p.1 ρ p.2).bind fun q => if q.1.length ≤ sizeLine ∧ noV q.2.1 vs = true then some (.list q.1, q.2) else none else none
/-- back from the block, whose lists have changed -/
theorem Good.backX {K F σ H H1 ρ1 ρ δ δ1 D vs} (G1 : Good K F σ H1 ρ1 δ1) (hu : noV ρ vs = true) (hD : H1 D = none) (G : Good K (F.plus D) (L2.wipe σ vs) H ρ δ) : Good K F σ H ρ δ := by
  have an : Mv (Mm (F.plus D) (L2.wipe σ vs) ρ) H (Mm F σ ρ) H := fun a o e n => ⟨e, fun z => n (by
    have : Mm (F.plus D) (L2.wipe σ vs) (wipeR ρ vs) a := by rw [Mm_wipe (noV_noU hu), Mm_plus]; exact .inl z
    rw [noV_wipe hu] at this; exact this)⟩
  have ni : ∀ {i : Nat} {x : Sl}, ρ[i]? = some x → x ≠ .no → i ∉ vs := fun {i x} e n hi => by
    rw [noV_get hu hi] at e
    exact n (Option.some.inj e).symm
  refine ⟨by have := G.len; rw [wipe_length] at this; exact this, fun i d e => ?_, fun i ds e => ?_, fun i j ds es a e1 e2 e3 e4 => ?_, fun a ha => G.m0 a (.inl ha), fun i e => ?_, fun p e => ?_, G.fr⟩
  · obtain ⟨v, e1, r⟩ := G.val i d e
    rw [wipe_get, if_neg (ni e (fun z => nomatch z))] at e1
    exact ⟨v, e1, r.mv an⟩
  · obtain ⟨a, xs, e1, e2, r, n⟩ := G.own i ds e
    rw [wipe_get, if_neg (ni e (fun z => nomatch z))] at e1
    exact ⟨a, xs, e1, e2, r.mv an, fun z => n.1 (.inl z), n.2⟩
  · refine G.inj i j ds es a e1 e2 ?_ ?_
    · rw [wipe_get, if_neg (ni e1 (fun z => nomatch z))]; exact e3
    · rw [wipe_get, if_neg (ni e2 (fun z => nomatch z))]; exact e4
  · have hs := G.dsl i e
    rw [wipe_get, if_neg (ni e (fun z => nomatch z))] at hs
    exact hs
  · obtain ⟨_, _, _, d3⟩ := G.dck p e
    obtain ⟨d1, d2, d4, _⟩ := G1.dck p e
    exact ⟨d1, d2, d4, d3⟩
theorem lc_inX {K : PySem.W.Frag} {g : TG} {te : TE} {vs : List Nat} {mg : MG} {mx : MX} {sl : List Nat} {F : Fr} {σ : L2.St} {H1 : Hp} {ρ ρe : List Sl} {δ1 δ2 : Dk} {J : It} {ds out : List D} {Q : VK}
    (hg : ∀ F σ H ρ δ v d ρ', Good K F σ H ρ δ → Rep K (Mm F σ ρ) H v d → mg d ρ = some ρ' → ∀ Q : L2.St → Hp → Prop, (∀ σ', Good K F σ' H ρ' δ → Mv (Mm F σ ρ) H (Mm F σ' ρ') H → Set1 sl σ σ' ρ ρ' → Q σ' H) → g v σ H Q)
    (he : SndX K te mx) (hs : ∀ i ∈ sl, i ∈ vs) (hv : noV ρ vs = true) (e2 : compX mg mx vs ds ρ δ1 = some (out, ρe, δ2)) (hve : noV ρe vs = true) (hz : out.length ≤ sizeLine) (G1 : Good K F σ H1 ρ δ1) (Wk : Walks K (Mm F σ ρ) H1 J ds)
    (q : ∀ v H', Good K F σ H' ρe δ2 → Mv (Mm F σ ρ) H1 (Mm F σ ρe) H' → Rep K (Mm F σ ρe) H' v (.list out) → Q v H') : ∀ D, H1 D = none → ∃ W : Nat → Nat → Hp → Prop, (∃ m, W 0 m (upd H1 D (.lst []))) ∧ ∀ i m H, W i m H →
      (J.stop i H ∧ Q (.ref D) H) ∨ (J.go i H ∧ ∃ Nx : Hp → Prop, (∀ H', Nx H' → ∃ m', m' < m ∧ W (i + 1) m' H') ∧ ∀ x H', J.yld i H x H' → g x (L2.wipe σ vs) H' fun σ2 H2 => L2.wipe σ2 vs = L2.wipe σ vs ∧ tYes σ2 H2 fun b H3 =>
        if b = true then te σ2 H3 fun y H4 => ∃ acc, H4 D = some (.lst acc) ∧ acc.length < sizeLine ∧ Nx (upd H4 D (.lst (acc ++ [y]))) else Nx H3) := fun D hD => by
  have GW := G1.wipe (vs := vs) (noV_noU hv)
  rw [noV_wipe hv] at GW
  obtain ⟨GP, MP⟩ := GW.plus (o := .lst []) hD
  have eM0 : Mm F (L2.wipe σ vs) ρ = Mm F σ ρ := by have := Mm_wipe (F := F) (σ := σ) (noV_noU hv); rwa [noV_wipe hv] at this
  rw [eM0] at MP
  have nDk : ∀ p, F.dk = some p → D ≠ p.1 ∧ D ≠ p.2 ∧ D ≠ p.3 := fun p hp => ⟨(ne_of_none (G1.dck p hp).2.2.2.one hD).symm, (ne_of_none (G1.dck p hp).2.2.2.two hD).symm, (ne_of_none (G1.dck p hp).2.2.2.tri hD).symm⟩
  have hD0 : (F.plus D).H0 D = none := G1.fresh0 hD
  refine ⟨fun i m H => m = ds.length - i ∧ i ≤ ds.length ∧ ∃ ρ3 δ3 done rest acc, noU ρ3 vs = true ∧ wipeR ρ3 vs = ρ3 ∧ Good K (F.plus D) (L2.wipe σ vs) H ρ3 δ3 ∧ Mv (Mm F σ ρ) H1 (Mm (F.plus D) (L2.wipe σ vs) ρ3) H ∧ H D = some (.lst acc) ∧ Reps K (Mm (F.plus D) (L2.wipe σ vs) ρ3) H acc done ∧
    compX mg mx vs (ds.drop i) ρ3 δ3 = some (rest, ρe, δ2) ∧ done ++ rest = out, ⟨_, rfl, Nat.zero_le _, ρ, δ1, [], out, [], noV_noU hv, noV_wipe hv, GP, MP, upd_same, .nil, e2, rfl⟩, ?_⟩
  rintro i m H2 ⟨rfl, hile, ρ3, δ3, done, rest, acc, hu3, hw3, G2, M2, hacc, racc, ec, eo⟩
  by_cases hlt : i < ds.length
  · obtain ⟨go, yl⟩ := (Wk _ H2 M2 G2.mm i).1 hlt
    have hld : i < ds.length := hlt
    rw [List.drop_eq_getElem_cons hld] at ec
    refine .inr ⟨go, fun H' => ∃ ρ3 δ3 done rest acc, noU ρ3 vs = true ∧ wipeR ρ3 vs = ρ3 ∧ Good K (F.plus D) (L2.wipe σ vs) H' ρ3 δ3 ∧ Mv (Mm F σ ρ) H1 (Mm (F.plus D) (L2.wipe σ vs) ρ3) H' ∧ H' D = some (.lst acc) ∧ Reps K (Mm (F.plus D) (L2.wipe σ vs) ρ3) H' acc done ∧
      compX mg mx vs (ds.drop (i + 1)) ρ3 δ3 = some (rest, ρe, δ2) ∧ done ++ rest = out, fun H' h => ⟨ds.length - (i + 1), by omega, rfl, hlt, h⟩, fun x H3 hy => ?_⟩
    obtain ⟨kp, dx, edx, rdx⟩ := yl x H3 hy
    rw [List.getElem?_eq_getElem hld] at edx
    cases edx
    replace G2 := G2.keep kp
    replace M2 := M2.trans (Mv.same kp)
    replace hacc := kp _ _ hacc
    replace racc := racc.mv (Mv.same kp)
    unfold compX at ec
    obtain ⟨ρ4, f1, ec⟩ := Option.bind_eq_some_iff.mp ec
    obtain ⟨⟨y, ρ5, δ5⟩, f3, ec⟩ := Option.bind_eq_some_iff.mp ec
    dsimp only at ec
    split at ec
    · rename_i hu5
      obtain ⟨⟨more, ρ6, δ6⟩, f4, ec⟩ := Option.map_eq_some_iff.mp ec
      cases ec
      refine hg ((F.plus D).pin D (.lst acc)) (L2.wipe σ vs) H3 ρ3 δ3 x _ ρ4 (G2.pin (.inr rfl) hacc) (by rw [Mm_pin]; exact rdx) f1 _ fun σ2 G3 M3 T3 => ?_
      obtain ⟨w1, w2⟩ := T3.wipes hs
      rw [wipe_wipe] at w1
      refine ⟨w1, ?_⟩
      simp only [tYes, ↓reduceIte]
      refine he ((F.plus D).pin D (.lst acc)) σ2 H3 ρ4 δ3 y ρ5 δ5 G3 f3 _ fun v H5 G5 M5 R5 => ?_
      rw [Mm_pin, Mm_pin] at M5
      rw [Mm_pin, Mm_pin] at M3
      rw [Mm_pin] at R5
      have hD5 := G5.fr D _ upd_same nDk
      have GB := (Good.unpin hD0 (.inr rfl) G5).wipe hu5
      rw [w1] at GB
      obtain ⟨GC, MC⟩ := GB.write ⟨_, _, _, G1⟩ hD (o := .lst (acc ++ [v]))
      have eM5 : Mm (F.plus D) (L2.wipe σ vs) (wipeR ρ5 vs) = Mm (F.plus D) σ2 ρ5 := by rw [← w1]; exact Mm_wipe hu5
      rw [eM5] at MC
      refine ⟨acc, hD5, ?_, wipeR ρ5 vs, δ5, done ++ [y], more, acc ++ [v], noU_wipe ρ5 vs, wipeR_wipeR ρ5 vs, GC, ?_, upd_same, ?_, f4, by rw [← eo]; simp⟩
      · have : out.length = done.length + (more.length + 1) := by rw [← eo]; simp
        rw [racc.length]
        omega
      · rw [eM5]; exact ((M2.trans M3).trans M5).trans MC
      · rw [eM5]; exact ((racc.mv (M3.trans M5)).append (.cons R5 .nil)).mv MC
    · cases ec
  · have hi' : i = ds.length := by omega
    subst hi'
    refine .inl ⟨(Wk _ H2 M2 G2.mm ds.length).2 (Nat.le_refl _), ?_⟩
    rw [List.drop_of_length_le (Nat.le_refl _)] at ec
    cases ec
    rw [List.append_nil] at eo
    subst eo
    have an : Mv (Mm (F.plus D) (L2.wipe σ vs) ρe) H2 (Mm F σ ρe) H2 := fun a o e n => ⟨e, fun z => n (by
      have : Mm (F.plus D) (L2.wipe σ vs) (wipeR ρe vs) a := by rw [Mm_wipe hu3, Mm_plus]; exact .inl z
      rw [hw3] at this; exact this)⟩
    have GE := G1.backX hve hD G2
    exact q _ _ GE (M2.trans an) (.lst ⟨fun z => by
      rcases z with z | ⟨j, es, z1, z2⟩
      · exact G1.m0 D z hD
      · obtain ⟨a', xs', y1, y2, y3, y4⟩ := G2.own j es z1
        rw [wipe_get] at y1
        split at y1
        · split at y1 <;> cases y1
        · rw [z2] at y1; cases y1
          exact y4.1 (.inr rfl), hacc⟩ (racc.mv an))
theorem snd_lcX {K wi g te vs mi mg mx} {sl : List Nat} (hi : ∀ F σ H ρ δ ds δ', Good K F σ H ρ δ → mi ρ δ = some (ds, δ') → ∀ R : It → Hp → Prop, (∀ J H', Good K F σ H' ρ δ' → Mv (Mm F σ ρ) H (Mm F σ ρ) H' → Walks K (Mm F σ ρ) H' J ds → R J H') → wi σ H R)
    (hg : ∀ F σ H ρ δ v d ρ', Good K F σ H ρ δ → Rep K (Mm F σ ρ) H v d → mg d ρ = some ρ' → ∀ Q : L2.St → Hp → Prop, (∀ σ', Good K F σ' H ρ' δ → Mv (Mm F σ ρ) H (Mm F σ' ρ') H → Set1 sl σ σ' ρ ρ' → Q σ' H) → g v σ H Q)
    (he : SndX K te mx) (hs : ∀ i ∈ sl, i ∈ vs) : SndX K (tLc wi g tYes te vs) (xLc mi vs mg mx) := fun F σ H ρ δ d ρ' δ' G e Q q => by
  unfold xLc at e
  obtain ⟨⟨ds, δ1⟩, e1, e⟩ := Option.bind_eq_some_iff.mp e
  dsimp only at e
  split at e
  · rename_i hv
    obtain ⟨⟨out, ρe, δ2⟩, e2, e⟩ := Option.bind_eq_some_iff.mp e
    dsimp only at e
    split at e
    · rename_i hz
      have e := Option.some.inj e
      have ea := congrArg Prod.fst e
      have eb := congrArg (fun p => p.2.1) e
      have ec := congrArg (fun p => p.2.2) e
      dsimp only at ea eb ec
      subst ea; subst eb; subst ec
      exact hi F σ H ρ δ ds δ1 G e1 _ fun J H1 G1 M1 Wk => lc_inX hg he hs hv e2 hz.2 hz.1 G1 Wk fun v H' G' M' R => q v H' G' (M1.trans M') R
    · cases e
  · cases e
section
variable {X : Cx} {a b e tg iter elt : Expr} {ma mb : ME} {mi : MA} {mx : MX} {pos : Pos} {scope : Scope} {own : List (Str × Nat)} {sl : List Nat} {mg : MG}
structure BlkX (X : Cx) (scope : Scope) (own : List (Str × Nat)) (tg : Expr) (elt : Expr) (sl : List Nat) (mg : MG) (mx : MX) : Prop where
  g : ∀ (s : Shared) (H : Hp) (C : Addr) (cl : List (Str × Addr)) (fp : List Addr), PDG (X.blk s H scope (compEnvC scope cl C X.env) fp) tg sl mg
  e : ∀ (s : Shared) (H : Hp) (C : Addr) (cl : List (Str × Addr)) (fp : List Addr), PDX (X.blk s H scope (compEnvC scope cl C X.env) fp) elt mx
  o : ∀ i ∈ sl, i ∈ own.map (·.2)
theorem pdx_lc (hc : X.calm = true) (hN : X.N.Nodup) (hi : PDI X tg iter mi) (ok : BlkOk X.N X.env.scope scope own) (B : BlkX X scope own tg elt sl mg mx) (hs : ∀ x, foldedSetIterable iter X.env x = pure x := by intro _; rfl) :
    PDX X (.ListComp elt [⟨tg, iter, [], 0⟩] scope pos) (xLc mi (own.map (·.2)) mg mx) := by
  obtain ⟨wi, h1, s1⟩ := hi.ex
  have p1 : ∀ (s : Shared) (H : Hp) (C : Addr) (cl : List (Str × Addr)) (fp : List Addr), PG (X.blk s H scope (compEnvC scope cl C X.env) fp) tg (fun v σ H Q => ∀ s h C cl fp, (B.g s h C cl fp).ex.choose v σ H Q) := fun s h C cl fp => ⟨fun pins s' σ H v u Q I r q => (B.g s h C cl fp).ex.choose_spec.1.run pins s' σ H v u Q I r (q s h C cl fp)⟩
  have p3 : ∀ (s : Shared) (H : Hp) (C : Addr) (cl : List (Str × Addr)) (fp : List Addr), PE (X.blk s H scope (compEnvC scope cl C X.env) fp) elt (fun σ H Q => ∀ s h C cl fp, (B.e s h C cl fp).ex.choose σ H Q) := fun s h C cl fp => ⟨fun pins s' σ H Q I q => (B.e s h C cl fp).ex.choose_spec.1.run pins s' σ H Q I (q s h C cl fp)⟩
  refine ⟨_, pe_lc hc hN h1 ok p1 (fun _ _ _ _ _ => pts_nil) p3 hs, snd_lcX s1 (fun F σ H ρ δ v d ρ' G r e Q q s h C cl fp => (B.g s h C cl fp).ex.choose_spec.2 F σ H ρ δ v d ρ' G r e Q q) (fun F σ H ρ δ d ρ' δ' G e Q q s h C cl fp => (B.e s h C cl fp).ex.choose_spec.2 F σ H ρ δ d ρ' δ' G e Q q) B.o⟩
/-- an operator whose left side changes the slots -/
def xBinL (f : D → D → Option D) (mx : MX) (m : ME) : MX := fun ρ δ => (mx ρ δ).bind fun p => (m p.2.1 p.2.2).bind fun q => (f p.1 q.1).map fun z => (z, p.2.1, q.2)
theorem pdx_addL (ha : PDX X a mx) (hb : PD X b mb) : PDX X (.BinOp a .Add b pos) (xBinL addD mx mb) := by
  obtain ⟨ta, h1, s1⟩ := ha.ex
  obtain ⟨tb, h2, s2⟩ := hb.ex
  refine ⟨_, pe_op (OpR.or op_add (OpR.or op_add_str (OpR.or op_cat op_catA))) h1 h2, fun F σ H ρ δ d ρ' δ' G e Q q => ?_⟩
  obtain ⟨⟨y, ρ1, δ1⟩, e1, e⟩ := Option.bind_eq_some_iff.mp e
  obtain ⟨⟨z, δ2⟩, e2, e⟩ := Option.bind_eq_some_iff.mp e
  obtain ⟨w, e3, e⟩ := Option.map_eq_some_iff.mp e
  cases e
  refine s1 F σ H ρ δ _ _ _ G e1 _ fun u H1 G1 M1 R1 => s2 F σ H1 ρ1 δ1 _ _ G1 e2 _ fun v H2 G2 M2 R2 => ?_
  exact (OpS.or (ops_I0 fun _ _ _ _ => .int _) (OpS.or ops_addS (OpS.or ops_catL ops_catT))) F σ H2 _ _ u v y z _ G2 (R1.mv M2) R2 e3 _ fun w' H3 kp R3 => q _ _ (G2.keep kp) ((M1.trans M2).trans (Mv.same kp)) R3
def sRetX (mx : MX) : MS := fun ρ δ => (mx ρ δ).map fun p => (.rt p.1, p.2.1, p.2.2)
theorem pds_retX (he : PDX X e mx) : PDS X (.Return (some e) pos) (sRetX mx) := by
  obtain ⟨t, p1, s1⟩ := he.ex
  refine ⟨_, ps_ret p1, fun F σ H ρ δ fl ρ' δ' G e D q => ?_⟩
  obtain ⟨⟨x, ρ1, δ1⟩, e1, e⟩ := Option.map_eq_some_iff.mp e
  cases e
  exact s1 F σ H ρ δ x _ _ G e1 _ fun v H1 G1 M1 R1 => q σ H1 G1 M1 v R1
end
end PD

namespace PD
open PySem PySem.Spec PyProof.Rows L2
/-! ### sorted texts -/
def leS (a b : Str) : Bool := decide (a.cps.toList ≤ b.cps.toList)
def srt (xs : List Str) : List Str := xs.mergeSort leS
theorem leS_trans (a b c : Str) (h : leS a b = true) (g : leS b c = true) : leS a c = true := decide_eq_true (List.le_trans (of_decide_eq_true h) (of_decide_eq_true g))
theorem leS_total (a b : Str) : (leS a b || leS b a) = true := by
  rcases List.le_total a.cps.toList b.cps.toList with h | h
  · rw [show leS a b = true from decide_eq_true h]; rfl
  · rw [show leS b a = true from decide_eq_true h, Bool.or_true]
theorem leS_anti {a b : Str} (h : leS a b = true) (g : leS b a = true) : a = b := TL.ext_tl (List.le_antisymm (of_decide_eq_true h) (of_decide_eq_true g))
theorem srt_perm (xs : List Str) : (srt xs).Perm xs := List.mergeSort_perm xs leS
theorem srt_pw (xs : List Str) : (srt xs).Pairwise fun a b => leS a b = true := List.pairwise_mergeSort leS_trans leS_total xs
theorem ltCps_le (a b : List Nat) (h : ltCps a b = false) : b ≤ a := by
  rw [ltCps_eq] at h
  exact of_decide_eq_false h
theorem rising_pw : ∀ (xs : List Str) (x : Str), risingS x xs = true → (x :: xs).Pairwise fun a b => leS a b = true
  | [], x, _ => by simp
  | y :: ys, x, h => by
    simp only [risingS, Bool.and_eq_true, Bool.not_eq_true'] at h
    have ih := rising_pw ys y h.2
    have hxy : leS x y = true := decide_eq_true (ltCps_le _ _ h.1)
    refine List.pairwise_cons.mpr ⟨fun z hz => ?_, ih⟩
    rcases List.mem_cons.mp hz with rfl | hz
    · exact hxy
    · exact leS_trans _ _ _ hxy ((List.pairwise_cons.mp ih).1 z hz)
theorem sorted_srt {xs ys : List Str} (hp : ys.Perm xs) (h : sortedS ys = true) : ys = srt xs := by
  refine List.Perm.eq_of_pairwise (le := fun a b => leS a b = true) (fun a b _ _ h g => leS_anti h g) ?_ (srt_pw xs) (hp.trans (srt_perm xs).symm)
  cases ys with
  | nil => simp
  | cons y ys => exact rising_pw ys y h
def sortedD : List D → Option D
  | [.list ds] => (strsD ds).bind fun xs => if xs.length < 64 then some (.list ((srt xs).map .str)) else none
  | _ => none
theorem cs_sorted {K} : CallS K (rSortedS K) sortedD := fun F σ H ρ δ xs ds z G R hz Q q => by
  unfold sortedD at hz
  split at hz
  · obtain ⟨ys, e1, hz⟩ := Option.bind_eq_some_iff.mp hz
    split at hz
    · rename_i hl
      cases hz
      obtain ⟨v, rfl, r⟩ := reps1 R
      cases r with
      | @lst a vs _ ha rs =>
        have ev := rs.strs e1
        subst ev
        refine ⟨a, ys, rfl, ha.sq, hl, fun zs p hp hs hn => ?_⟩
        rw [sorted_srt hp hs]
        exact q _ _ (upd_keeps hn) (.lst ⟨G.mfree hn, upd_same⟩ (Reps.strsOf _))
    · cases hz
  · cases hz
section
variable {X : Cx} {e : Expr} {es : List Expr} {r : MA} {p pos : Pos}
theorem pd_sorted (hm : X.mg "sorted" = none) (ha : PDA X (e :: es) r) (hg : Gl X "sorted" := by rfl) (he : starEach (e :: es) X.env = (false, eval e X.env) :: starEach es X.env := by rfl) (hpl : (backTo pos (starEach es X.env)).any (·.1) = false := by rfl) : PD X (.Call (.Name "sorted" p) (e :: es) [] pos) (mCall sortedD r) :=
  pd_cb (by decide +kernel) cr_sortedS cs_sorted ha hg hm (by decide) (by decide) he hpl
end
/-! ### x = list(text): a list of the def's own -/
def signs (x : Str) : List Str := x.cps.toList.map fun c => ⟨#[c]⟩
theorem call_listS {X : Cx} (hc : X.calm = true) : CallR X (.type "list") (fun xs H Q => ∃ x : Str, xs = [.str x] ∧ x.length ≤ sizeLine ∧ ∀ l, H l = none → Q (.ref l) (upd H l (.lst ((signs x).map V.str)))) := by
  intro pins s σ H xs us Q I r h
  obtain ⟨x, rfl, hl, q⟩ := h
  obtain ⟨u, rfl, t, rfl⟩ := vals1 r
  refine PySem.call_list_str (I.ok.hd hc) x t (fun h' tk acc c' kp e hit => ?_) hl
  have hv : Vals ((signs x).map V.str) acc.toList := by
    have hsz := hit.1
    have key : ∀ (n : Nat) (l : List Nat) (vs : List Value), l.length = n → vs.length = n → (∀ (j : Nat) (v : Value), vs[j]? = some v → ∃ c u, l[j]? = some c ∧ v = Value.str ⟨#[c]⟩ u) → Vals ((l.map fun c => (⟨#[c]⟩ : Str)).map V.str) vs := fun n => by
      induction n with
      | zero => intro l vs h1 h2 _; rw [List.length_eq_zero_iff.mp h1, List.length_eq_zero_iff.mp h2]; exact .nil
      | succ n ih =>
        intro l vs h1 h2 h3
        match l, vs, h1, h2 with
        | c :: l, v :: vs, h1, h2 =>
          obtain ⟨c', u', g1, g2⟩ := h3 0 v rfl
          simp at g1
          subst g1
          exact .cons ⟨u', g2⟩ (ih l vs (by simpa using h1) (by simpa using h2) fun j w hw => by simpa using h3 (j + 1) w (by simpa using hw))
    refine key x.cps.size x.cps.toList acc.toList (by simp) (by simp [hsz]) fun j v hv => ?_
    obtain ⟨c, u', g1, g2⟩ := hit.2 j v (by simpa using hv)
    exact ⟨c, u', by simpa using g1, g2⟩
  have hz : ((signs x).map V.str).length ≤ sizeLine := by
    unfold signs; simp; exact hl
  exact ⟨.ref s.heap.objs.size, _, I.laid (t' := tk) kp (Nat.le_refl _) (show ObjOk X.prog X.w _ h' _ (.lst ((signs x).map V.str)) from ⟨hz, acc.toList, c', hv, by simpa using e⟩), rfl, q _ (I.hok.fresh (Nat.le_refl _))⟩
section
variable {X : Cx} {e : Expr} {ma : ME} {pos : Pos}
def sUniS (i : Nat) (m : ME) : MS := fun ρ δ => (m ρ δ).bind fun p => match p.1 with
  | .str x => if x.length ≤ sizeLine ∧ i < ρ.length then some (.nx, ρ.set i (.uni ((signs x).map .str)), p.2) else none
  | _ => none
theorem pds_uniS (i : Nat) {x : Str} {pos' p2 p3 : Pos} (hc : X.calm = true) (hN : X.N.Nodup) (hm : X.mg "list" = none) (he : PD X e ma) (hi : X.N[i]? = some x := by rfl) (hx : Loc X.env.scope x := by first | exact Or.inl rfl | exact Or.inr rfl) (hs : swapsWith (.Call (.Name "list" p2) [e] [] p3) (some (.Name x pos')) pos.line X.env = pure false := by rfl) (hf : X.fn x = true ∨ X.env.scope.names.lookup x = some .local := by first | exact .inl rfl | exact .inr rfl)
    (hg : Gl X "list" := by rfl) (hst : starEach [e] X.env = (false, eval e X.env) :: starEach [] X.env := by rfl) (hpl : (backTo p3 (starEach [] X.env)).any (·.1) = false := by rfl) :
    PDS X (.Assign [.Name x pos'] (.Call (.Name "list" p2) [e] [] p3) pos) (sUniS i ma) := by
  obtain ⟨t, p1, s1⟩ := he.ex
  refine ⟨_, ps_set hN hi hx (pe_callTy (call_listS hc) hg hm (by decide +kernel) (pa_cons p1 pa_nil hst) (by decide) (by decide) hst hpl) hs hf, fun F σ H ρ δ fl ρ' δ' G e D q => ?_⟩
  obtain ⟨⟨d, δ1⟩, e1, e⟩ := Option.bind_eq_some_iff.mp e
  dsimp only at e
  split at e
  · rename_i y
    split at e
    · rename_i hz
      cases e
      refine s1 F σ H ρ δ _ _ G e1 _ fun v H1 G1 M1 R1 => ?_
      cases R1
      refine ⟨y, rfl, hz.1, fun l hl => ?_⟩
      obtain ⟨G2, M2⟩ := G1.uniNew i hz.2 hl (Reps.strsOf (signs y))
      exact q _ _ G2 (M1.trans M2)
    · cases e
  · cases e
end
/-! ### [elt for k in NAME ..], NAME a dict -/
theorem walk_keys {K M H A o kvs es} (n : ¬ M A) (hA : H A = some (.frz o (.dK kvs))) (r : RepK K M H kvs es) : Walks K M H (Itk A o kvs) (es.map (·.1)) := fun M2 H2 mv wf i => by
  have hl : ∀ {kvs : List (Key × V)} {es : List (D × D)}, RepK K M H kvs es → kvs.map (fun p => keyD p.1) = es.map (·.1) := @fun kvs => by
    induction kvs with
    | nil => intro es r; cases r; rfl
    | cons x xs ih => intro es r; cases r with | cons _ t => simp [ih t]
  have hk := hl r
  have hlen : kvs.length = (es.map (·.1)).length := by rw [← hk]; simp
  have hA2 := (mv A _ hA n).1
  refine ⟨fun hi => ⟨⟨hA2, by rw [hlen]; exact hi⟩, fun x H3 y => ?_⟩, fun hi => ⟨hA2, by rw [hlen]; exact hi⟩⟩
  obtain ⟨rfl, k, v, e1, rfl⟩ := y
  refine ⟨fun _ _ h => h, keyD k, by rw [← hk, List.getElem?_map, e1]; rfl, ?_⟩
  cases k with
  | inl i => exact .int i
  | inr i => exact .str i
def mLcKeys (r : Nat) (vs : List Nat) (g : MG) (tt : MT) (te : ME) : ME := fun ρ δ => match ρ[r]? with
  | some (.val (.dict es)) => if noU ρ vs = true then (compL g tt te (wipeR ρ vs) (es.map (·.1)) δ).bind fun q => if q.1.length ≤ sizeLine then some (.list q.1, q.2) else none else none
  | _ => none
theorem snd_lcKeys {K g tt te vs mg mt me r} {sl : List Nat} (hg : ∀ F σ H ρ δ v d ρ', Good K F σ H ρ δ → Rep K (Mm F σ ρ) H v d → mg d ρ = some ρ' → ∀ Q : L2.St → Hp → Prop, (∀ σ', Good K F σ' H ρ' δ → Mv (Mm F σ ρ) H (Mm F σ' ρ') H → Set1 sl σ σ' ρ ρ' → Q σ' H) → g v σ H Q)
    (ht : SndT K tt mt) (he : Snd K te me) (hs : ∀ i ∈ sl, i ∈ vs) : Snd K (fun σ H Q => tLockE (tLc (iKeys (tVar r)) g tt te vs) σ H Q ∨ tLc (iKeys (tVar r)) g tt te vs σ H Q) (mLcKeys r vs mg mt me) := fun F σ H ρ δ d δ' G e Q q => by
  unfold mLcKeys at e
  split at e
  · rename_i es hr
    split at e
    · rename_i hu
      obtain ⟨⟨out, δ2⟩, e2, e⟩ := Option.bind_eq_some_iff.mp e
      dsimp only at e
      split at e
      · rename_i hz
        obtain ⟨rfl, rfl⟩ : PyData.list out = d ∧ δ2 = δ' := by
          have := Option.some.inj e
          exact ⟨congrArg Prod.fst this, congrArg Prod.snd this⟩
        obtain ⟨v, hv, R⟩ := G.val r _ hr
        cases R with
        | @dic A kvs _ n hA rk =>
          rcases hA with hA | ⟨o, hA⟩
          · refine .inl ⟨A, .dK kvs, hA, trivial, fun od => ?_⟩
            have GL : Good K (F.lock A) σ (upd H A (.frz od (.dK kvs))) ρ δ := G.lock n hA
            refine ⟨_, hv, A, od, rfl, .inl ⟨kvs, upd_same, ?_⟩⟩
            refine lc_in (Q := fun w H' => H' A = some (.frz od (.dK kvs)) ∧ Q w (upd H' A (.dK kvs))) hg ht he hs hu e2 hz GL (walk_keys (by rw [Mm_lock]; exact n) upd_same (rk.lock hA)) fun w H' G' M' R' => ?_
            rw [Mm_lock] at M' R'
            have hA' : H' A = some (.frz od (.dK kvs)) := (M' A _ upd_same n).1
            refine ⟨hA', q w _ (G.unlock hA G' hA' fun _ _ h => h) (fun a o' e' n' => ?_) (R'.unlock hA')⟩
            by_cases haz : a = A
            · subst haz
              rw [hA] at e'; cases e'
              exact ⟨upd_same, n'⟩
            · rw [upd_ne haz]
              exact ⟨(M' a o' (by rw [upd_ne haz]; exact e') n').1, n'⟩
          · exact .inr ⟨_, hv, A, o, rfl, .inl ⟨kvs, hA, lc_in hg ht he hs hu e2 hz G (walk_keys n hA rk) q⟩⟩
      · cases e
    · cases e
  · cases e
section
variable {X : Cx} {elt tg : Expr} {p0 pos : Pos} {ifs : List Expr} {scope : Scope} {own : List (Str × Nat)} {mg : MG} {mt : MT} {me : ME} {sl : List Nat} {x : Str}
theorem pd_lcKeys (r : Nat) (hc : X.calm = true) (hN : X.N.Nodup) (ok : BlkOk X.N X.env.scope scope own) (B : Blk X scope own tg ifs elt sl mg mt me) (hNr : X.N[r]? = some x := by rfl) (hv : Vis X.env.scope x := by first | exact Or.inl rfl | exact Or.inr (Or.inl rfl) | exact Or.inr (Or.inr rfl)) (hd : (x == ("__debug__" : Str)) = false := by decide)
    (hcd : (x == ("__classdict__" : Str)) = false := by decide) (hs : ∀ y, foldedSetIterable (.Name x p0) X.env y = pure y := by intro _; rfl) :
    PD X (.ListComp elt [⟨tg, .Name x p0, ifs, 0⟩] scope pos) (mLcKeys r (own.map (·.2)) mg mt me) := by
  obtain ⟨g, tt, te, p1, p2, p3, s2, s3, s4⟩ := B.all
  have P := pe_lc (pos := pos) hc hN (pi_keys (pe_var hNr hv hd hcd)) ok p1 p2 p3 hs
  have PL := pe_lock P
  exact ⟨_, ⟨fun pins s σ H Q I h => h.elim (fun h => PL.run pins s σ H Q I h) (fun h => P.run pins s σ H Q I h)⟩, snd_lcKeys s2 s3 s4 B.o⟩
end
end PD

namespace PD
open PySem PySem.Spec PyProof.Rows L2
section
variable {X : Cx} {elt tg : Expr} {p0 pos : Pos} {ifs : List Expr} {scope : Scope} {own : List (Str × Nat)} {mg : MG} {mt : MT} {me : ME} {sl : List Nat} {x : Str}
/-- y = [elt for k in NAME ..], NAME a dict -/
theorem pds_setLcKeys (i r : Nat) {y : Str} {py spos : Pos} (hc : X.calm = true) (hN : X.N.Nodup) (ok : BlkOk X.N X.env.scope scope own) (B : Blk X scope own tg ifs elt sl mg mt me) (hsw : swapsWith (.ListComp elt [⟨tg, .Name x p0, ifs, 0⟩] scope pos) (some (.Name y py)) spos.line X.env = pure true)
    (hNr : X.N[r]? = some x := by rfl) (hv : Vis X.env.scope x := by first | exact Or.inl rfl | exact Or.inr (Or.inl rfl) | exact Or.inr (Or.inr rfl)) (hd : (x == ("__debug__" : Str)) = false := by decide)
    (hcd : (x == ("__classdict__" : Str)) = false := by decide) (hy : X.N[i]? = some y := by rfl) (hyl : X.env.scope.names.lookup y = some .local := by rfl) (hs : ∀ z, foldedSetIterable (.Name x p0) X.env z = pure z := by intro _; rfl) :
    PDS X (.Assign [.Name y py] (.ListComp elt [⟨tg, .Name x p0, ifs, 0⟩] scope pos) spos) (sAsg (mLcKeys r (own.map (·.2)) mg mt me) (gSet i)) := by
  obtain ⟨g, tt, te, p1, p2, p3, s2, s3, s4⟩ := B.all
  have P := ps_setLc (py := py) (spos := spos) hc hN hy hyl hsw (pi_keys (pe_var hNr hv hd hcd)) ok p1 p2 p3 hs
  have PL := ps_lock P
  refine ⟨fun D σ H => tLock (tAsg (tLc (iKeys (tVar r)) g tt te (own.map (·.2))) (gName i)) D σ H ∨ tAsg (tLc (iKeys (tVar r)) g tt te (own.map (·.2))) (gName i) D σ H, ⟨fun pins s σ H D I h => h.elim (fun h => PL.run pins s σ H D I h) (fun h => P.run pins s σ H D I h)⟩, fun F σ H ρ δ fl ρ' δ' G e D q => ?_⟩
  obtain ⟨⟨d, δ1⟩, e1, e⟩ := Option.bind_eq_some_iff.mp e
  obtain ⟨ρ1, e2, e⟩ := Option.map_eq_some_iff.mp e
  cases e
  exact snd_lcKeys s2 s3 s4 B.o F σ H ρ δ d _ G e1 (fun v H' => D.nx (σ.set i (some v)) H') fun v H' G' M' R' => pg_set i F σ H' ρ _ v d _ G' R' e2 (fun σ' H'' => D.nx σ' H'') fun σ2 G2 M2 T2 => q σ2 H' G2 (M'.trans M2)
end
end PD

namespace PD
open PySem PySem.Spec PyProof.Rows L2
section
variable {ρ : List Sl} {δ : Dk}
theorem ws_retX {mx : MX} {P} : WS (sRetX mx) ρ δ P ↔ WX mx ρ δ fun d ρ1 δ1 => P (.rt d) ρ1 δ1 := by
  constructor
  · rintro ⟨f, ρ', δ', e, p⟩
    obtain ⟨⟨x, ρ1, δ1⟩, e1, e⟩ := Option.map_eq_some_iff.mp e
    cases e
    exact ⟨x, _, _, e1, p⟩
  · rintro ⟨x, ρ1, δ1, e1, p⟩
    exact ⟨_, _, _, by unfold sRetX; rw [e1]; rfl, p⟩
theorem wx_binL {f : D → D → Option D} {m : ME} {mx : MX} {P} : WX (xBinL f mx m) ρ δ P ↔ WX mx ρ δ fun x ρ1 δ1 => WE m ρ1 δ1 fun y δ2 => W1 (f x y) fun z => P z ρ1 δ2 := by
  constructor
  · rintro ⟨d, ρ', δ', e, p⟩
    obtain ⟨⟨x, ρ1, δ1⟩, e1, e⟩ := Option.bind_eq_some_iff.mp e
    obtain ⟨⟨y, δ2⟩, e2, e⟩ := Option.bind_eq_some_iff.mp e
    obtain ⟨z, e3, e⟩ := Option.map_eq_some_iff.mp e
    cases e
    exact ⟨x, _, _, e1, y, _, e2, _, e3, p⟩
  · rintro ⟨x, ρ1, δ1, e1, y, δ2, e2, z, e3, p⟩
    exact ⟨_, _, _, by unfold xBinL; simp only [e1, e2, Option.bind_some, e3, Option.map_some], p⟩
theorem ws_uniS {i : Nat} {m : ME} {P} : WS (sUniS i m) ρ δ P ↔ WE m ρ δ fun d δ1 => ∃ x, d = .str x ∧ (x.length ≤ sizeLine ∧ i < ρ.length) ∧ P .nx (ρ.set i (.uni ((signs x).map .str))) δ1 := by
  constructor
  · rintro ⟨f, ρ', δ', e, p⟩
    obtain ⟨⟨d, δ1⟩, e1, e⟩ := Option.bind_eq_some_iff.mp e
    dsimp only at e
    split at e
    · split at e
      · rename_i hz; cases e; exact ⟨_, _, e1, _, rfl, hz, p⟩
      · cases e
    · cases e
  · rintro ⟨d, δ1, e1, x, rfl, hz, p⟩
    exact ⟨_, _, _, by unfold sUniS; rw [e1]; exact if_pos hz, p⟩
theorem wx_lc {mi : MA} {vs : List Nat} {g : MG} {mx : MX} {P} (h : WA mi ρ δ fun ds δ1 => noV ρ vs = true ∧ ∃ out ρe δ2, compX g mx vs ds ρ δ1 = some (out, ρe, δ2) ∧ (out.length ≤ sizeLine ∧ noV ρe vs = true) ∧ P (.list out) ρe δ2) : WX (xLc mi vs g mx) ρ δ P := by
  obtain ⟨ds, δ1, e1, hv, out, ρe, δ2, e2, hz, p⟩ := h
  refine ⟨_, _, _, ?_, p⟩
  unfold xLc
  rw [e1]
  simp only [Option.bind_some]
  rw [if_pos hv, e2]
  simp only [Option.bind_some]
  rw [if_pos hz]
end
theorem compX_inv {g : MG} {mx : MX} {vs : List Nat} (I : List D → List D → List Sl → Dk → Prop) (hs : ∀ d ds out ρ δ, I (d :: ds) out ρ δ → WG g d ρ fun ρ2 => WX mx ρ2 δ fun y ρ3 δ3 => noU ρ3 vs = true ∧ I ds (out ++ [y]) (wipeR ρ3 vs) δ3) : ∀ (ds out : List D) (ρ : List Sl) (δ : Dk), I ds out ρ δ → ∃ r ρe δe, compX g mx vs ds ρ δ = some (r, ρe, δe) ∧ I [] (out ++ r) ρe δe
  | [], out, ρ, δ, h => ⟨[], ρ, δ, rfl, by rw [List.append_nil]; exact h⟩
  | d :: ds, out, ρ, δ, h => by
    obtain ⟨ρ2, e1, y, ρ3, δ3, e2, hu, i⟩ := hs d ds out ρ δ h
    obtain ⟨r, ρe, δe, e3, i2⟩ := compX_inv I hs ds (out ++ [y]) (wipeR ρ3 vs) δ3 i
    refine ⟨y :: r, ρe, δe, ?_, by rw [List.append_assoc] at i2; exact i2⟩
    unfold compX
    rw [e1]
    simp only [Option.bind_some]
    rw [e2]
    simp only [Option.bind_some]
    rw [if_pos hu, e3]
    rfl
/-- a comprehension over the keys of a dict -/
theorem we_lcKeys {ρ : List Sl} {δ : Dk} {r : Nat} {vs : List Nat} {g : MG} {tt : MT} {te : ME} {P} : WE (mLcKeys r vs g tt te) ρ δ P ↔ ∃ es, ρ[r]? = some (.val (.dict es)) ∧ noU ρ vs = true ∧ WC g tt te (wipeR ρ vs) (es.map (·.1)) δ fun out δ2 => out.length ≤ sizeLine ∧ P (.list out) δ2 := by
  constructor
  · rintro ⟨d, δ', e, p⟩
    unfold mLcKeys at e
    split at e
    · rename_i es hr
      split at e
      · rename_i hu
        obtain ⟨⟨out, δ2⟩, e2, e⟩ := Option.bind_eq_some_iff.mp e
        dsimp only at e
        split at e
        · rename_i hz; cases e; exact ⟨es, hr, hu, out, _, e2, hz, p⟩
        · cases e
      · cases e
    · cases e
  · rintro ⟨es, hr, hu, out, δ2, e2, hz, p⟩
    refine ⟨_, _, ?_, p⟩
    unfold mLcKeys
    rw [hr]
    simp only
    rw [if_pos hu, e2]
    simp only [Option.bind_some]
    rw [if_pos hz]
end PD

namespace PD
open PySem PySem.Spec PyProof.Rows L2
/-! ### a def that calls itself: by how deep it may; at none it tells nothing -/
section
variable {P : Program} {w : World} {K : PySem.W.Frag} {mg : Str → Option Value} {base : Heap}
theorem noneP {x qual : Str} {st : Stmt} {f : Addr} {fd : FuncData} {N ps : List Str} (k : Nat) (F : Fun K x qual st f fd) (S : FnScope N ps (defScope st)) : FnOk P w K mg base CX0 (k + 1) f fd ps (spP K fun _ => none) := by
  refine F.ok S (fun vs H Q E h => ?_) (fun cdv A outer s0 H vs Q E hr h => ?_)
  · obtain ⟨M, ds, r, hM, R, hm, q⟩ := h
    cases hm
  · obtain ⟨M, ds, r, hM, R, hm, q⟩ := h
    cases hm
theorem noneK {x qual : Str} {st : Stmt} {f : Addr} {fd : FuncData} {N ps : List Str} (k : Nat) (F : Fun K x qual st f fd) (S : FnScope N ps (defScope st)) : FnOk P w K mg base CX0 (k + 1) f fd ps (spK K fun _ _ => none) := by
  refine F.ok S (fun vs H Q E h => ?_) (fun cdv A outer s0 H vs Q E hr h => ?_)
  · obtain ⟨M, p, ws, ds, δ, r, δ', rfl, hM, _, _, _, _, R, hm, q⟩ := h
    cases hm
  · obtain ⟨M, p, ws, ds, δ, r, δ', rfl, hM, m1, m2, m3, dk, R, hm, q⟩ := h
    cases hm
end
end PD

set_option maxHeartbeats 4000000
namespace PD
open PySem PySem.Spec PyProof.Rows L2
/-! ### a tuple taken once, or not at all -/
theorem tuple_mul1 (l : Addr) (items : Array Value) (n : Nat) (dd : Option Addr) (sl : Array (Option Value)) (u : Tok) :
    Meets (Builtin.«tuple.__mul__» ⟨[.ref l, .int 1 u], []⟩) (fun _ R s => s.heap.get? l = some { cls := .type "tuple", dict := dd, data := .seq items n, slots := sl } ∧
      R (.ok (.ret (Value.ref l))) s) :=
  .of_wp fun prog w A R s h => by
    obtain ⟨hp, g, d, tk, os⟩ := s
    obtain ⟨hl, h⟩ := h
    have f1 := AutoSeq1.idx_int
    wp_walk using wpAny_loadPart' hl
    exact ⟨_, rfl, h⟩
theorem tuple_mul0 (l : Addr) (items : Array Value) (n : Nat) (dd : Option Addr) (sl : Array (Option Value)) (u : Tok) (c1 : (items.isEmpty || (0 : Int) == 1) = false) :
    Meets (Builtin.«tuple.__mul__» ⟨[.ref l, .int 0 u], []⟩) (fun _ R s => s.heap.get? l = some { cls := .type "tuple", dict := dd, data := .seq items n, slots := sl } ∧
      R (.ok (.ret (Value.ref s.heap.objs.size))) { s with heap := s.heap.push { cls := Value.type "tuple", data := Data.seq #[] }, toks := s.toks }) :=
  .of_wp fun prog w A R s h => by
    obtain ⟨hp, g, d, tk, os⟩ := s
    obtain ⟨hl, h⟩ := h
    have f1 := AutoSeq1.idx_int
    wp_walk using wpAny_loadPart' hl
    refine wpAny_ite_false (decide_eq_false (by rw [c1]; exact Bool.false_ne_true)) ?_
    wp_walk using wpAny_loadPart' hl
    exact ⟨_, rfl, h⟩
def rRep01 (K : PySem.W.Frag) : R2 := fun x y H Q => ∃ l xs, x = .ref l ∧ SqT K H l xs ∧ ((y = .int 1 ∧ Q (.ref l) H) ∨ (y = .int 0 ∧ xs ≠ [] ∧ ∀ p, H p = none → Q (.ref p) (upd H p (.tup []))))
section
variable {X : Cx}
theorem op_rep01 : OpR X (binaryOp .Mult) (rRep01 X.K) := by
  intro pins s σ H x y v u Q I rx ry h
  obtain ⟨l, xs, rfl, hT, h⟩ := h
  cases rx
  obtain ⟨its, r, ⟨⟨cls, dd, data, sl⟩, ho, hc, n, hd⟩, hs⟩ := I.tuple hT
  simp only at hc hd
  subst hc hd
  rcases h with ⟨rfl, q⟩ | ⟨rfl, hne, q⟩
  · obtain ⟨t, rfl⟩ := ry
    exact wpAny_binaryOp_repeat_ref (T := "tuple") (U := "int") (by decide) ⟨_, ho, rfl⟩ (fun s' => typeIs_int s' 1 t) noFill_tuple_mul F.fills_int_mul F.slot_int_rmul repeat_tuple F.slot_int_index.lookup
      (call_meets F.slot_int_rmul (typeIs_int s 1 t) F.entry_int_rmul (F.args_int_rmul_2 _ _) (int_rmul_tuple 1 t l its.toArray n dd sl)
        ⟨ho, rfl, ⟨_, ho, rfl⟩, call_meets F.slot_tuple_mul ⟨_, ho, rfl⟩ F.entry_tuple_mul (F.args_tuple_mul_2 _ _) (tuple_mul1 l its.toArray n dd sl t) ⟨ho, ⟨.ref l, H, I, rfl, q⟩⟩⟩)
  · obtain ⟨t, rfl⟩ := ry
    have hle : its.length = xs.length := r.length.symm
    have hi : its.toArray.isEmpty = false := by
      cases its with
      | nil => exact absurd (List.eq_nil_of_length_eq_zero hle.symm) hne
      | cons a b => rfl
    refine wpAny_binaryOp_repeat_ref (T := "tuple") (U := "int") (by decide) ⟨_, ho, rfl⟩ (fun s' => typeIs_int s' 0 t) noFill_tuple_mul F.fills_int_mul F.slot_int_rmul repeat_tuple F.slot_int_index.lookup
      (call_meets F.slot_int_rmul (typeIs_int s 0 t) F.entry_int_rmul (F.args_int_rmul_2 _ _) (int_rmul_tuple 0 t l its.toArray n dd sl)
        ⟨ho, rfl, ⟨_, ho, rfl⟩, call_meets F.slot_tuple_mul ⟨_, ho, rfl⟩ F.entry_tuple_mul (F.args_tuple_mul_2 _ _) (tuple_mul0 l its.toArray n dd sl t (by rw [hi]; rfl)) ⟨ho, ?_⟩⟩)
    refine ⟨.ref s.heap.objs.size, _, I.laid (t' := s.toks) (o := .tup []) (fun b ob q => Heap.get?_push_of_some _ q) (Nat.le_refl _) ?_, rfl, q _ (I.hok.fresh (Nat.le_refl _))⟩
    exact ⟨Nat.zero_le _, [], .nil, IsTup.new _ _⟩
end
def mul01 : D → D → Option D
  | .tuple xs, .int 1 => some (.tuple xs)
  | .tuple xs, .int 0 => if xs ≠ [] then some (.tuple []) else none
  | _, _ => none
theorem ops_mul01 {K} : OpS K (rRep01 K) mul01 := fun F σ H ρ δ x y d e z G rx ry hz Q q => by
  unfold mul01 at hz
  split at hz
  · rename_i xs
    cases hz
    cases ry
    cases rx with
    | @tup a vs _ ha r1 => exact ⟨_, _, rfl, ha.sq, .inl ⟨rfl, q _ H (fun _ _ h => h) (.tup ha r1)⟩⟩
  · rename_i xs
    split at hz
    · rename_i h
      cases hz
      cases ry
      cases rx with
      | @tup a vs _ ha r1 =>
        refine ⟨_, _, rfl, ha.sq, .inr ⟨rfl, fun e => h (by subst e; cases r1; rfl), fun p hp => ?_⟩⟩
        have kk := upd_keeps (o := .tup []) hp
        exact q _ _ kk (.tup (.inl ⟨G.mfree hp, .inl upd_same⟩) .nil)
    · cases hz
  · cases hz
def mulD2 : D → D → Option D := fun d e => (mulI d e).orElse fun _ => (mulT d e).orElse fun _ => mul01 d e
section
variable {X : Cx} {a b : Expr} {ma mb : ME} {pos : Pos}
theorem pd_mul2 (ha : PD X a ma) (hb : PD X b mb) : PD X (.BinOp a .Mult b pos) (mBin mulD2 ma mb) :=
  PD.op (OpR.or op_mul (OpR.or op_repT op_rep01)) (OpS.or (ops_I (fun _ _ h => mulOk_of h) fun _ _ _ _ => .int _) (OpS.or ops_mulT ops_mul01)) ha hb
end
end PD

namespace PD
open PySem PySem.Spec PyProof.Rows L2
/-! ### a dict of the def's own -/
def keyIs : D → Key → Bool
  | .int i, .inl j => decide (i = j)
  | .str x, .inr y => decide (x = y)
  | _, _ => false
theorem keyIs_key (k j : Key) : keyIs (keyD k) j = decide (k = j) := by
  cases k <;> cases j <;> simp [keyD, keyIs]
def hasE (es : List (D × D)) (k : Key) : Bool := es.any fun e => keyIs e.1 k
def putE (es : List (D × D)) (k : Key) (d : D) : List (D × D) := if hasE es k = true then es.map (fun e => if keyIs e.1 k = true then (e.1, d) else e) else es ++ [(keyD k, d)]
def dropE (es : List (D × D)) (k : Key) : List (D × D) := es.filter fun e => !keyIs e.1 k
theorem RepK.has {K M H} (k : Key) : ∀ {ps es}, RepK K M H ps es → (ps.any fun kv => decide (kv.1 = k)) = hasE es k
  | _, _, .nil => rfl
  | _, _, .cons (k := k') r t => by
    have := RepK.has k t
    unfold hasE at this ⊢
    rw [List.any_cons, List.any_cons, this, keyIs_key]
theorem RepK.rep {K M H v d} (k : Key) (r : Rep K M H v d) : ∀ {ps es}, RepK K M H ps es → RepK K M H (ps.map fun kv => if kv.1 = k then (kv.1, v) else kv) (es.map fun e => if keyIs e.1 k = true then (e.1, d) else e)
  | _, _, .nil => .nil
  | _, _, .cons (k := k') r' t => by
    rw [List.map_cons, List.map_cons]
    dsimp only
    rw [keyIs_key]
    by_cases h : k' = k
    · rw [if_pos h, if_pos (decide_eq_true h)]
      exact .cons r (RepK.rep k r t)
    · rw [if_neg h, if_neg (by rw [decide_eq_false h]; exact Bool.false_ne_true)]
      exact .cons r' (RepK.rep k r t)
theorem RepK.app {K M H v d} (k : Key) (r : Rep K M H v d) : ∀ {ps es}, RepK K M H ps es → RepK K M H (ps ++ [(k, v)]) (es ++ [(keyD k, d)])
  | _, _, .nil => .cons r .nil
  | _, _, .cons r' t => .cons r' (RepK.app k r t)
theorem RepK.put {K M H ps es v d} (R : RepK K M H ps es) (k : Key) (r : Rep K M H v d) : RepK K M H (putK ps k v) (putE es k d) := by
  unfold putK putE
  rw [R.has k]
  split
  · exact RepK.rep k r R
  · exact R.app k r
theorem RepK.len {K M H} : ∀ {ps es}, RepK K M H ps es → ps.length = es.length
  | _, _, .nil => rfl
  | _, _, .cons _ t => by simp [RepK.len t]
section
variable {X : Cx} {e b : Expr} {ma mb : ME} {x : Str} {p0 pos : Pos}
/-- x = {} -/
def sNewD (i : Nat) : MS := fun ρ δ => if i < ρ.length then some (.nx, ρ.set i (.dic []), δ) else none
theorem pds_newD (i : Nat) {pos' p2 : Pos} (hN : X.N.Nodup) (hi : X.N[i]? = some x := by rfl) (hx : Loc X.env.scope x := by first | exact Or.inl rfl | exact Or.inr rfl) (hs : swapsWith (.Dict [] [] p2) (some (.Name x pos')) pos.line X.env = pure false := by rfl) (hf : X.fn x = true ∨ X.env.scope.names.lookup x = some .local := by first | exact .inl rfl | exact .inr rfl | assumption) :
    PDS X (.Assign [.Name x pos'] (.Dict [] [] p2) pos) (sNewD i) := by
  refine ⟨_, ps_set hN hi hx pe_dnewK hs hf, fun F σ H ρ δ fl ρ' δ' G e D q => ?_⟩
  unfold sNewD at e
  split at e
  · rename_i hz
    cases e
    intro p hp
    obtain ⟨G2, M2⟩ := G.ownNew i hz hp (.dic .nil)
    exact q _ _ G2 M2
  · cases e
/-- x[key] = e -/
def sPutD (i : Nat) (m mk : ME) : MS := fun ρ δ => match ρ[i]? with
  | some (.own (.dic es)) => (m ρ δ).bind fun p => (mk ρ p.2).bind fun q => (keyOf q.1).bind fun k => if es.length < sizeLine then some (.nx, ρ.set i (.dic (putE es k p.1)), q.2) else none
  | _ => none
theorem pds_putD (i : Nat) {p1 p3 : Pos} (hu : X.A.units + 1 < cLine) (he : PD X e ma) (hb : PD X b mb) (hN : X.N[i]? = some x := by rfl) (hv : Vis X.env.scope x := by first | exact Or.inl rfl | exact Or.inr (Or.inl rfl) | exact Or.inr (Or.inr rfl)) (hd : (x == ("__debug__" : Str)) = false := by decide)
    (hcd : (x == ("__classdict__" : Str)) = false := by decide) (hs : swapsWith e (some (.Subscript (.Name x p1) b p3)) pos.line X.env = pure false := by rfl) :
    PDS X (.Assign [.Subscript (.Name x p1) b p3] e pos) (sPutD i ma mb) := by
  obtain ⟨t, q1, s1⟩ := he.ex
  obtain ⟨tb, q2, s2⟩ := hb.ex
  refine ⟨_, ps_dput hu (pe_var hN hv hd hcd) q2 q1 hs, fun F σ H ρ δ fl ρ' δ' G e D q => ?_⟩
  unfold sPutD at e
  split at e
  · rename_i es hi
    obtain ⟨⟨y, δ1⟩, e1, e⟩ := Option.bind_eq_some_iff.mp e
    obtain ⟨⟨z, δ2⟩, e2, e⟩ := Option.bind_eq_some_iff.mp e
    obtain ⟨k, e3, e⟩ := Option.bind_eq_some_iff.mp e
    dsimp only at e
    split at e
    · rename_i hz
      cases e
      refine s1 F σ H ρ δ _ _ G e1 _ fun u H1 G1 M1 R1 => ?_
      obtain ⟨a1, kvs, f1, f2, f3, f4⟩ := G1.dic i es hi
      refine ⟨_, f1, s2 F σ H1 ρ δ1 _ _ G1 e2 _ fun w H2 G2 M2 R2 => ?_⟩
      have ek := keyOf_rep R2 e3
      obtain ⟨a', kvs', g1, g2, g3, g4⟩ := G2.dic i es hi
      rw [f1] at g1
      cases g1
      obtain ⟨G3, M3⟩ := G2.ownWrite (ys := .dK (putK kvs' k u)) (es := .dic (putE es k y)) i hi f1 (.dic (g3.put k (R1.mv M2)))
      exact ⟨_, _, rfl, .inl ⟨kvs', k, g2, ek, by rw [g3.len]; exact hz, rfl⟩, q _ _ G3 ((M1.trans M2).trans M3)⟩
    · cases e
  · cases e
/-- x[key], read -/
def mGetO (i : Nat) (mk : ME) : ME := fun ρ δ => match ρ[i]? with
  | some (.own (.dic es)) => (mk ρ δ).bind fun q => (keyOf q.1).bind fun k => (lookD es (keyD k)).map fun z => (z, q.2)
  | _ => none
theorem pd_getO (i : Nat) (hu : X.A.units + 1 < cLine) (hb : PD X b mb) (hN : X.N[i]? = some x := by rfl) (hv : Vis X.env.scope x := by first | exact Or.inl rfl | exact Or.inr (Or.inl rfl) | exact Or.inr (Or.inr rfl)) (hyd : (x == ("__debug__" : Str)) = false := by decide) (hcd : (x == ("__classdict__" : Str)) = false := by decide) (hs : PlainIx b := by exact fun _ _ => rfl) :
    PD X (.Subscript (.Name x p0) b pos) (mGetO i mb) := by
  obtain ⟨tb, h2, s2⟩ := hb.ex
  refine ⟨_, pe_dget hu (pe_var hN hv hyd hcd) h2 hs, fun F σ H ρ δ d δ' G e Q q => ?_⟩
  unfold mGetO at e
  split at e
  · rename_i es hi
    obtain ⟨⟨y, δ1⟩, e1, e⟩ := Option.bind_eq_some_iff.mp e
    obtain ⟨k, e2, e⟩ := Option.bind_eq_some_iff.mp e
    obtain ⟨z, e3, e⟩ := Option.map_eq_some_iff.mp e
    cases e
    obtain ⟨a1, xs, f1, f2, f3, f4⟩ := G.dic i es hi
    refine ⟨_, f1, s2 F σ H ρ δ _ _ G e1 _ fun u H1 G1 M1 R1 => ?_⟩
    obtain ⟨a', xs', g1, g2, g3, g4⟩ := G1.dic i es hi
    rw [f1] at g1
    cases g1
    have ek := keyOf_rep R1 e2
    obtain ⟨v, ev, rv⟩ := g3.look e3
    exact ⟨_, v, rfl, .inl ⟨xs', k, .inl g2, ek, ev.symm⟩, q _ _ G1 M1 rv⟩
  · cases e
/-- key in x, key not in x -/
def tInO (neg : Bool) (i : Nat) (mk : ME) : MT := fun ρ δ => match ρ[i]? with
  | some (.own (.dic es)) => (mk ρ δ).bind fun q => (keyOf q.1).map fun k => (neg ^^ (lookD es (keyD k)).isSome, q.2)
  | _ => none
theorem pdt_inO (i : Nat) (hu : X.A.units + 1 < cLine) (hb : PD X b mb) (hN : X.N[i]? = some x := by rfl) (hv : Vis X.env.scope x := by first | exact Or.inl rfl | exact Or.inr (Or.inl rfl) | exact Or.inr (Or.inr rfl)) (hyd : (x == ("__debug__" : Str)) = false := by decide) (hcd : (x == ("__classdict__" : Str)) = false := by decide) :
    PDT X (.Compare b [.In] [.Name x p0] pos) (tInO false i mb) := by
  obtain ⟨tb, h2, s2⟩ := hb.ex
  refine ⟨_, pt_cmp (pc_din hu h2 (pe_var hN hv hyd hcd)), fun F σ H ρ δ d δ' G e Q q => ?_⟩
  unfold tInO at e
  split at e
  · rename_i es hi
    obtain ⟨⟨y, δ1⟩, e1, e⟩ := Option.bind_eq_some_iff.mp e
    obtain ⟨k, e2, e⟩ := Option.map_eq_some_iff.mp e
    cases e
    refine s2 F σ H ρ δ _ _ G e1 _ fun u H1 G1 M1 R1 => ?_
    obtain ⟨a', xs', g1, g2, g3, g4⟩ := G1.dic i es hi
    have ek := keyOf_rep R1 e2
    refine ⟨_, g1, _, valV xs' k, rfl, .inl ⟨xs', k, .inl g2, ek, rfl⟩, _, rfl, ?_⟩
    rw [Bool.false_xor] at q
    cases hl : lookD es (keyD k) with
    | none => rw [g3.lookN hl]; rw [hl] at q; exact q _ G1 M1
    | some d1 =>
      obtain ⟨v1, ev, rv⟩ := g3.look hl
      rw [ev]; rw [hl] at q; exact q _ G1 M1
  · cases e
theorem pdt_notInO (i : Nat) (hu : X.A.units + 1 < cLine) (hb : PD X b mb) (hN : X.N[i]? = some x := by rfl) (hv : Vis X.env.scope x := by first | exact Or.inl rfl | exact Or.inr (Or.inl rfl) | exact Or.inr (Or.inr rfl)) (hyd : (x == ("__debug__" : Str)) = false := by decide) (hcd : (x == ("__classdict__" : Str)) = false := by decide) :
    PDT X (.Compare b [.NotIn] [.Name x p0] pos) (tInO true i mb) := by
  obtain ⟨tb, h2, s2⟩ := hb.ex
  refine ⟨_, pt_cmp (pc_dnotin hu h2 (pe_var hN hv hyd hcd)), fun F σ H ρ δ d δ' G e Q q => ?_⟩
  unfold tInO at e
  split at e
  · rename_i es hi
    obtain ⟨⟨y, δ1⟩, e1, e⟩ := Option.bind_eq_some_iff.mp e
    obtain ⟨k, e2, e⟩ := Option.map_eq_some_iff.mp e
    cases e
    refine s2 F σ H ρ δ _ _ G e1 _ fun u H1 G1 M1 R1 => ?_
    obtain ⟨a', xs', g1, g2, g3, g4⟩ := G1.dic i es hi
    have ek := keyOf_rep R1 e2
    refine ⟨_, g1, _, valV xs' k, rfl, .inl ⟨xs', k, .inl g2, ek, rfl⟩, _, rfl, ?_⟩
    rw [Bool.true_xor] at q
    cases hl : lookD es (keyD k) with
    | none => rw [g3.lookN hl]; rw [hl] at q; exact q _ G1 M1
    | some d1 =>
      obtain ⟨v1, ev, rv⟩ := g3.look hl
      rw [ev]; rw [hl] at q; exact q _ G1 M1
  · cases e
end
end PD

namespace PD
open PySem PySem.Spec PyProof.Rows L2
theorem RepK.drop {K M H} (k : Key) : ∀ {ps es}, RepK K M H ps es → RepK K M H (dropK ps k) (dropE es k)
  | _, _, .nil => .nil
  | _, _, .cons (k := k') r t => by
    have ih := RepK.drop k t
    unfold dropK dropE at ih ⊢
    rw [List.filter_cons, List.filter_cons]
    dsimp only
    rw [keyIs_key]
    by_cases h : k' = k
    · rw [if_neg (by simpa using h), if_neg (by simp [h])]
      exact ih
    · rw [if_pos (by simpa using h), if_pos (by simp [h])]
      exact .cons r ih
section
variable {X : Cx} {e b : Expr} {es : List Expr} {ma mb : ME} {x : Str} {p0 pos : Pos}
/-- del x[key] -/
def sDelD (i : Nat) (mk : ME) : MS := fun ρ δ => match ρ[i]? with
  | some (.own (.dic es)) => (mk ρ δ).bind fun q => (keyOf q.1).bind fun k => if (lookD es (keyD k)).isSome = true then some (.nx, ρ.set i (.dic (dropE es k)), q.2) else none
  | _ => none
theorem pds_delD (i : Nat) {p1 p3 : Pos} (hb : PD X b mb) (hN : X.N[i]? = some x := by rfl) (hv : Vis X.env.scope x := by first | exact Or.inl rfl | exact Or.inr (Or.inl rfl) | exact Or.inr (Or.inr rfl)) (hd : (x == ("__debug__" : Str)) = false := by decide)
    (hcd : (x == ("__classdict__" : Str)) = false := by decide) :
    PDS X (.Delete [.Subscript (.Name x p1) b p3] pos) (sDelD i mb) := by
  obtain ⟨tb, q2, s2⟩ := hb.ex
  refine ⟨_, ps_ddel (pe_var hN hv hd hcd) q2, fun F σ H ρ δ fl ρ' δ' G e D q => ?_⟩
  unfold sDelD at e
  split at e
  · rename_i es hi
    obtain ⟨⟨z, δ2⟩, e2, e⟩ := Option.bind_eq_some_iff.mp e
    obtain ⟨k, e3, e⟩ := Option.bind_eq_some_iff.mp e
    dsimp only at e
    split at e
    · rename_i hz
      cases e
      obtain ⟨a1, kvs, f1, f2, f3, f4⟩ := G.dic i es hi
      refine ⟨_, f1, s2 F σ H ρ δ _ _ G e2 _ fun w H2 G2 M2 R2 => ?_⟩
      have ek := keyOf_rep R2 e3
      obtain ⟨a', kvs', g1, g2, g3, g4⟩ := G2.dic i es hi
      rw [f1] at g1
      cases g1
      obtain ⟨G3, M3⟩ := G2.ownWrite (ys := .dK (dropK kvs' k)) (es := .dic (dropE es k)) i hi f1 (.dic (g3.drop k))
      refine ⟨_, kvs', k, rfl, g2, ek, ?_, q _ _ G3 (M2.trans M3)⟩
      obtain ⟨d1, hd1⟩ := Option.isSome_iff_exists.mp hz
      obtain ⟨v1, ev, _⟩ := g3.look hd1
      rw [ev]
      rfl
    · cases e
  · cases e
/-- sorted(x), x a dict of the def's own with keys that are texts -/
def keysS (es : List (D × D)) : Option (List Str) := strsD (es.map (·.1))
def mSortO (i : Nat) : ME := fun ρ δ => match ρ[i]? with
  | some (.own (.dic es)) => (keysS es).bind fun ks => if ks.length < 64 then some (.list ((srt ks).map .str), δ) else none
  | _ => none
theorem RepK.keysS {K M H} : ∀ {kvs es} {ks : List Str}, RepK K M H kvs es → keysS es = some ks → kvs.map (·.1) = ks.map Sum.inr
  | _, _, ks, .nil, h => by
    cases h
    rfl
  | _, _, ks, .cons (k := k) (es := es) r t, h => by
    unfold PD.keysS at h
    rw [List.map_cons] at h
    cases k with
    | inl i => simp [keyD, strsD] at h
    | inr y =>
      simp only [keyD, strsD] at h
      cases hs : strsD (es.map (·.1)) with
      | none => rw [hs] at h; cases h
      | some l =>
        rw [hs] at h
        cases h
        rw [List.map_cons, List.map_cons, RepK.keysS t hs]
theorem pd_sortO (i : Nat) {p p1 : Pos} (hc : X.calm = true) (hm : X.mg "sorted" = none) (hg : Gl X "sorted" := by rfl) (hN : X.N[i]? = some x := by rfl) (hv : Vis X.env.scope x := by first | exact Or.inl rfl | exact Or.inr (Or.inl rfl) | exact Or.inr (Or.inr rfl)) (hyd : (x == ("__debug__" : Str)) = false := by decide) (hcd : (x == ("__classdict__" : Str)) = false := by decide)
    (he : starEach [.Name x p1] X.env = (false, eval (.Name x p1) X.env) :: starEach [] X.env := by rfl) (hpl : (backTo pos (starEach [] X.env)).any (·.1) = false := by rfl) : PD X (.Call (.Name "sorted" p) [.Name x p1] [] pos) (mSortO i) := by
  refine ⟨_, pe_callB (call_sortedD hc) hg hm (by decide +kernel) (pa_cons (pe_var hN hv hyd hcd) pa_nil he) , fun F σ H ρ δ d δ' G e Q q => ?_⟩
  unfold mSortO at e
  split at e
  · rename_i es hi
    obtain ⟨ks, e1, e⟩ := Option.bind_eq_some_iff.mp e
    split at e
    · rename_i hl
      cases e
      obtain ⟨a1, kvs, f1, f2, f3, f4⟩ := G.dic i es hi
      refine ⟨_, f1, a1, kvs, ks, rfl, .inl f2, f3.keysS e1, hl, fun zs p hp hs hn => ?_⟩
      rw [sorted_srt hp hs]
      exact q _ _ (G.new hn) (Mv.same (upd_keeps hn)) (.lst ⟨G.mfree hn, upd_same⟩ (Reps.strsOf _))
    · cases e
  · cases e
end
end PD

namespace PD
open PySem PySem.Spec PyProof.Rows L2
/-! ### x.update(e) -/
def tDUpd (td ty : TE) : TE := fun σ H Q => td σ H fun x H1 => ∃ a, x = .ref a ∧ IsD H1 a ∧ ty σ H1 fun y H2 => ∃ b kvs more, y = .ref b ∧ H2 a = some (.dK kvs) ∧ Rd H2 b (.dK more) ∧ a ≠ b ∧ kvs.length + more.length ≤ sizeLine ∧ Q .non (upd H2 a (.dK (mergeK kvs more)))
section
variable {X : Cx} {o e : Expr} {apos cpos : Pos} {td ty : TE}
theorem d_update {pins : List (Addr × Obj)} {σ : L2.St} {H : Hp} {s : Shared} {a b : Addr} {kvs more : List (Key × V)} {A : Around} {E : Value → Shared → Prop} {Q : Value → Shared → Prop} (I : Inv X pins σ H s) (ea : H a = some (.dK kvs)) (eb : Rd H b (.dK more)) (hab : a ≠ b) (hz : kvs.length + more.length ≤ sizeLine)
    (h : ∀ s', Inv X pins σ (upd H a (.dK (mergeK kvs more))) s' → Q .none s') : wpAny (model X.prog X.w) A (call (.builtin "dict.update") [.ref a, .ref b]) Q E s := by
  obtain ⟨z, hd, vs, rel, dd⟩ := dk_of I.hok ea
  obtain ⟨z2, hd2, ws, rel2, dd2⟩ := dk_rd I.hok eb
  refine call_meetsIn PySem.F.slot_dict_update dd.typeIs PySem.F.entry_dict_update (PySem.F.args_dict_update_2 _ _) (meets_dict_update (mixKind X.prog X.w) a b hab hd2)
    ⟨vs, ws, dd, dd2, by rw [← rel.length, ← rel2.length]; exact hz, fun h' dd' _ hs => h _ ?_⟩
  have he : ∃ q, h'.get? a = some q := let ⟨q, _, _, hq, _⟩ := dd'; ⟨q, hq⟩
  exact d_write I (by rw [ea]; exact True.intro) hs he (dk_new (Nat.le_trans (length_mergeK more kvs) hz) hd (rel2.merge rel) dd')
theorem pe_dupd (ho : PE X o td) (he : PE X e ty) (m : M1 X o "update" apos e cpos) : PE X (.Call (.Attribute o "update" apos) [e] [] cpos) (tDUpd td ty) := by
  refine ⟨fun pins s σ H Q I h => ?_⟩
  refine wpAny_Call_method m.base m.few m.line PySem.F.plainAttrs_dict PySem.F.slot_dict_update PySem.F.type_dict_update (thn (ho.run pins s σ H _ I h) fun u s1 ⟨x, H1, I1, rx, a, ex, d, q1⟩ => ?_)
  subst ex
  obtain rfl : u = Value.ref a := rx
  obtain ⟨t1, t2, _⟩ := isD_at I1 d
  refine ⟨t1, t2, ?_⟩
  rw [m.trees]
  refine Calls.callWith_builtin rfl (Calls.evalArgs_plain (Calls.spliced_cons (thn (he.run pins s1 σ H1 _ I1 q1) fun iv s2 ⟨y, H2, I2, ry, b, kvs, more, ey, ea, eb, hab, hz, q2⟩ => Calls.spliced_nil ?_)))
  subst ey
  obtain rfl : iv = Value.ref b := ry
  exact d_update I2 ea eb hab hz fun s3 I3 => ⟨.non, _, I3, rfl, q2⟩
end
def mergeE (es fs : List (D × D)) : List (D × D) := fs.foldl (fun acc kv => match keyOf kv.1 with
  | some k => putE acc k kv.2
  | none => acc) es
theorem keyOf_key (k : Key) : keyOf (keyD k) = some k := by cases k <;> rfl
theorem RepK.merge {K M H} : ∀ {more fs kvs es}, RepK K M H more fs → RepK K M H kvs es → RepK K M H (mergeK kvs more) (mergeE es fs)
  | _, _, _, _, .nil, s => s
  | _, _, _, _, .cons (k := k) r t, s => by
    unfold mergeK mergeE
    rw [List.foldl_cons, List.foldl_cons]
    dsimp only
    rw [keyOf_key]
    exact RepK.merge t (s.put k r)
section
variable {X : Cx} {e b : Expr} {ma mb : ME} {x : Str} {p0 pos : Pos}
def sUpdD (i : Nat) (m : ME) : MS := fun ρ δ => match ρ[i]? with
  | some (.own (.dic es)) => (m ρ δ).bind fun p => match p.1 with
    | .dict fs => if es.length + fs.length ≤ sizeLine then some (.nx, ρ.set i (.dic (mergeE es fs)), p.2) else none
    | _ => none
  | _ => none
theorem pds_updD (i : Nat) {apos cpos : Pos} (he : PD X e ma) (hN : X.N[i]? = some x := by rfl) (hv : Vis X.env.scope x := by first | exact Or.inl rfl | exact Or.inr (Or.inl rfl) | exact Or.inr (Or.inr rfl)) (hd : (x == ("__debug__" : Str)) = false := by decide)
    (hcd : (x == ("__classdict__" : Str)) = false := by decide) (m : M1 X (.Name x p0) "update" apos e cpos := by exact ⟨rfl, rfl, rfl, rfl⟩)
    (hsw : swapsWith (.Call (.Attribute (.Name x p0) "update" apos) [e] [] cpos) none pos.line X.env = pure false := by rfl) :
    PDS X (.Expr (.Call (.Attribute (.Name x p0) "update" apos) [e] [] cpos) pos) (sUpdD i ma) := by
  obtain ⟨t, p1, s1⟩ := he.ex
  refine ⟨_, ps_expr (pe_dupd (pe_var hN hv hd hcd) p1 m) hsw, fun F σ H ρ δ fl ρ' δ' G e D q => ?_⟩
  unfold sUpdD at e
  split at e
  · rename_i es hi
    obtain ⟨⟨y, δ1⟩, e1, e⟩ := Option.bind_eq_some_iff.mp e
    dsimp only at e
    split at e
    · rename_i fs
      split at e
      · rename_i hz
        cases e
        obtain ⟨a, xs, f1, f2, f3, f4⟩ := G.dic i es hi
        refine ⟨_, f1, a, rfl, .inl ⟨xs, .inl f2⟩, s1 F σ H ρ δ _ _ G e1 _ fun v H1 G1 M1 R1 => ?_⟩
        obtain ⟨a', xs', g1, g2, g3, g4⟩ := G1.dic i es hi
        rw [f1] at g1
        cases g1
        cases R1 with
        | @dic b more _ n hb rk =>
          obtain ⟨G2, M2⟩ := G1.ownWrite (ys := .dK (mergeK xs' more)) (es := .dic (mergeE es fs)) i hi f1 (.dic (rk.merge g3))
          exact ⟨b, xs', more, rfl, g2, hb, fun z => n (by rw [← z]; exact .inr ⟨i, _, hi, f1⟩), by rw [g3.len, rk.len]; exact hz, q _ _ G2 (M1.trans M2)⟩
      · cases e
    · cases e
  · cases e
end
end PD

namespace PD
open PySem PySem.Spec PyProof.Rows L2
/-! ### a dict that a call makes anew: the def's own -/
theorem Good.ownGot {K F σ H H' ρ δ p vs ds} (G : Good K F σ H ρ δ) (i : Nat) (hi : i < ρ.length) (hp : H p = none) (kp : ∀ a o, H a = some o → H' a = some o) (hp' : H' p = some vs) (r : OwR K (fun a => Mm F σ ρ a ∨ a = p) H' vs ds) :
    Good K F (σ.set i (some (.ref p))) H' (ρ.set i (.own ds)) δ ∧ Mv (Mm F σ ρ) H (Mm F (σ.set i (some (.ref p))) (ρ.set i (.own ds))) H' := by
  have hiσ : i < σ.length := by rw [G.len]; exact hi
  have un : ∀ (j : Nat) es, i ≠ j → (ρ.set i (.own ds))[j]? = some (.own es) → ρ[j]? = some (.own es) := fun j es hj e => by
    rw [List.getElem?_set_ne hj] at e; exact e
  have hM : ∀ a, Mm F (σ.set i (some (.ref p))) (ρ.set i (.own ds)) a → Mm F σ ρ a ∨ a = p := fun a z => by
    rcases z with z | ⟨j, es, e1, e2⟩
    · exact .inl (.inl z)
    · by_cases hj : i = j
      · subst hj
        have := get_set_self e2
        cases this
        exact .inr rfl
      · rw [List.getElem?_set_ne hj] at e1 e2
        exact .inl (.inr ⟨j, es, e1, e2⟩)
  have mv : Mv (Mm F σ ρ) H (Mm F (σ.set i (some (.ref p))) (ρ.set i (.own ds))) H' := fun a o e n => ⟨kp a o e, fun z => (hM a z).elim n (ne_of_none e hp)⟩
  refine ⟨⟨by rw [List.length_set, List.length_set]; exact G.len, fun j d e => ?_, fun j es e => ?_, fun j k es fs a e1 e2 e3 e4 => ?_, fun a ha => ?_, fun j e => ?_, fun q e => ?_, fun a o e n => kp _ _ (G.fr a o e n)⟩, mv⟩
  · by_cases hj : i = j
    · subst hj; rw [List.getElem?_set_self hi] at e; cases e
    · rw [List.getElem?_set_ne hj] at e ⊢
      obtain ⟨v, e1, r1⟩ := G.val j d e
      exact ⟨v, e1, r1.mv mv⟩
  · by_cases hj : i = j
    · subst hj
      rw [List.getElem?_set_self hi] at e
      cases e
      exact ⟨p, vs, List.getElem?_set_self hiσ, hp', r.mv (fun a o e n => ⟨e, fun z => n (hM a z)⟩), fun z => G.m0 p z hp, G.fresh0 hp⟩
    · rw [List.getElem?_set_ne hj] at e ⊢
      obtain ⟨a, xs, e1, e2, r1, n⟩ := G.own j es e
      exact ⟨a, xs, e1, kp _ _ e2, r1.mv mv, n⟩
  · by_cases hj : i = j
    · by_cases hk : i = k
      · exact hj.symm.trans hk
      · subst hj
        have z := get_set_self e3
        cases z
        rw [List.getElem?_set_ne hk] at e2 e4
        obtain ⟨b, xs, f1, f2, _⟩ := G.own k fs e2
        rw [e4] at f1; cases f1
        rw [hp] at f2; cases f2
    · by_cases hk : i = k
      · subst hk
        have z := get_set_self e4
        cases z
        rw [List.getElem?_set_ne hj] at e1 e3
        obtain ⟨b, xs, f1, f2, _⟩ := G.own j es e1
        rw [e3] at f1; cases f1
        rw [hp] at f2; cases f2
      · rw [List.getElem?_set_ne hj] at e1 e3
        rw [List.getElem?_set_ne hk] at e2 e4
        exact G.inj j k es fs a e1 e2 e3 e4
  · cases e : H a with
    | none => exact absurd e (G.m0 a ha)
    | some o => rw [kp a o e]; exact fun z => nomatch z
  · by_cases hj : i = j
    · subst hj; rw [List.getElem?_set_self hi] at e; cases e
    · rw [List.getElem?_set_ne hj] at e ⊢
      exact G.dsl j e
  · obtain ⟨d1, d2, d4, d3⟩ := G.dck q e
    exact ⟨d1, d2, d4, d3.ne, d3.ne2, d3.ne3, kp _ _ d3.one, kp _ _ d3.two, kp _ _ d3.tri⟩

abbrev MN := List Sl → Dk → Option (List (D × D) × Dk)
def SndN (K : PySem.W.Frag) (t : TE) (m : MN) : Prop := ∀ F σ H ρ δ es δ', Good K F σ H ρ δ → m ρ δ = some (es, δ') → ∀ Q : VK,
  (∀ p kvs H', H p = none → Good K F σ H' ρ δ' → Mv (Mm F σ ρ) H (Mm F σ ρ) H' → H' p = some (.dK kvs) → RepK K (fun a => Mm F σ ρ a ∨ a = p) H' kvs es → Q (.ref p) H') → t σ H Q
structure PDN (X : Cx) (e : Expr) (m : MN) : Prop where
  ex : ∃ t, PE X e t ∧ SndN X.K t m
def mDcE (mr : MP) : MN := fun ρ δ => (mr ρ δ).bind fun q => if q.1.length ≤ sizeLine then some ((putAll [] q.1).map fun e => (keyD e.1, e.2), q.2) else none
theorem snd_dcE {K tk tv mr wi g tt vs mi mg mt} {cs : List Cl} {sl : List Nat} (hr : ∀ A, SndRD K A (tInD A tk tv cs) mr) (hi : SndI K wi mi) (hg : SndG K sl g mg) (ht : SndT K tt mt) (hs : ∀ i ∈ sl, i ∈ vs) : SndN K (tDcN wi g tt vs cs tk tv) (mDcE (kFor mi vs mg mt mr)) := fun F σ H ρ δ d δ' G e Q q => by
  obtain ⟨⟨out, δ2⟩, e0, e⟩ := Option.bind_eq_some_iff.mp e
  obtain ⟨⟨ds, δ1⟩, e1, e0⟩ := Option.bind_eq_some_iff.mp e0
  dsimp only at e e0
  split at e
  · rename_i hz
    split at e0
    · rename_i hu
      cases e
      refine hi F σ H ρ δ ds δ1 G e1 _ fun J H1 G1 M1 Wk A hA => ?_
      obtain ⟨GP, MP⟩ := G1.plus (o := .dK []) hA
      have gr : Grows (F.plus A) A := ⟨.inr rfl, G1.fresh0 hA, fun p hp => ⟨(ne_of_none (G1.dck p hp).2.2.2.one hA).symm, (ne_of_none (G1.dck p hp).2.2.2.two hA).symm, (ne_of_none (G1.dck p hp).2.2.2.tri hA).symm⟩⟩
      refine snd_loopK (hr A) hg ht hs hu e0 GP gr upd_same .nil (by simpa using hz) (Wk.mv MP) fun H' xs G' M' hA' R' => ?_
      have an : Mv (Mm (F.plus A) σ ρ) H' (Mm F σ ρ) H' := fun a o e n => ⟨e, fun z => n (by rw [Mm_plus]; exact .inl z)⟩
      have M3 := (MP.trans M').trans an
      have h0 : H A = none := by
        cases hh : H A with
        | none => rfl
        | some o =>
          by_cases hm : Mm F σ ρ A
          · exact absurd hA (G1.mm A hm)
          · have := (M1 A o hh hm).1
            rw [hA] at this
            cases this
      refine q A _ _ h0 (Good.back (vs := []) G1 rfl hA G' M3) (M1.trans M3) hA' ?_
      have := R'.repK
      rw [Mm_plus] at this
      exact this
    · cases e0
  · cases e
section
variable {X : Cx} {kx vx tg iter : Expr} {ifs : List Expr} {gl : List Comprehension} {sc : Scope} {own : List (Str × Nat)} {ps : Pos} {mi : MA} {mg : MG} {mt : MT} {mk mv : ME} {mr : MP} {sl vs vs1 : List Nat}
theorem pdn_dc (hc : X.calm = true) (hN : X.N.Nodup) (hi : PDI X tg iter mi) (ok : BlkOk X.N X.env.scope sc own) (g : AllBlk X sc fun Y => PDG Y tg sl mg) (t : AllBlk X sc fun Y => PDTs Y ifs mt) (o : ∀ i ∈ sl, i ∈ own.map (·.2)) (B : BlkK X sc (own.map (·.2)) gl kx vx mr) (hs : ∀ x, foldedSetIterable iter X.env x = pure x := by intro _; rfl) :
    PDN X (.DictComp kx vx (⟨tg, iter, ifs, 0⟩ :: gl) sc ps) (mDcE (kFor mi (own.map (·.2)) mg mt mr)) := by
  obtain ⟨wi, h1, s1⟩ := hi.ex
  obtain ⟨cs, tk, tv, c1, c2, c4, c3⟩ := B.ex
  refine ⟨tDcN wi (fun v σ H Q => ∀ s h C cl fp, (g s h C cl fp).ex.choose v σ H Q) (fun σ H Q => ∀ s h C cl fp, (t s h C cl fp).ex.choose σ H Q) _ cs tk tv, pe_dcN hc hN h1 ok ?_ ?_ c2 c4 c1 hs, snd_dcE (sl := sl) c3 s1 ?_ ?_ o⟩
  · exact fun s h C cl fp => ⟨fun pins s' σ H v u Q I r q => (g s h C cl fp).ex.choose_spec.1.run pins s' σ H v u Q I r (q s h C cl fp)⟩
  · exact fun s h C cl fp => ⟨fun pins s' σ H Q I q => (t s h C cl fp).ex.choose_spec.1.run pins s' σ H Q I (q s h C cl fp)⟩
  · exact fun F σ H ρ δ v d ρ' G r e Q q s h C cl fp => (g s h C cl fp).ex.choose_spec.2 F σ H ρ δ v d ρ' G r e Q q
  · exact fun F σ H ρ δ d δ' G e Q q s h C cl fp => (t s h C cl fp).ex.choose_spec.2 F σ H ρ δ d δ' G e Q q
end
/-- a def that tells a dict made anew -/
def spN (K : PySem.W.Frag) (m : List D → Option (List (D × D))) : Sp := fun vs H Q _ => ∃ (M : Addr → Prop) (ds : List D) (es : List (D × D)), (∀ a, M a → H a ≠ none) ∧ Reps K M H vs ds ∧ m ds = some es ∧
  ∀ p kvs H', H p = none → (∀ a o, H a = some o → H' a = some o) → H' p = some (.dK kvs) → RepK K (fun a => M a ∨ a = p) H' kvs es → Q (.ref p) H'
def fnN (n np : Nat) (m : MN) : List D → Option (List (D × D)) := fun ds => if ds.length = np ∧ np ≤ n then (m (slots n (ds.map .val)) ⟨[], 0, [], none⟩).map (·.1) else none
section
variable {P : Program} {w : World} {K : PySem.W.Frag} {mg : Str → Option Value} {base : Heap}
theorem okN {x qual : Str} {st : Stmt} {f : Addr} {fd : FuncData} {N ps : List Str} {k : Nat} {m : MN} {e : Expr} {pos : Pos} (F : Fun K x qual st f fd) (S : FnScope N ps (defScope st)) (hn : ps.length ≤ N.length) (hbd : defBody st = [.Return (some e) pos])
    (hb : ∀ (cdv : Value) (A : Around) (outer : List Env) (s0 : Shared) (H : Hp) (E : XK), Room k (A.deeper (envOfC qual (defScope st) s0.heap.objs.size f cdv)) → PDN (cxOf CX0 P w K mg base N qual (defScope st) f cdv A outer s0 H E).nox e m) :
    FnOk P w K mg base CX0 (k + 1) f fd ps (spN K (fnN N.length ps.length m)) := by
  refine F.ok S (fun vs H Q E h => ?_) (fun cdv A outer s0 H vs Q E hr h => ?_)
  · obtain ⟨M, ds, r, hM, R, hm, q⟩ := h
    unfold fnN at hm
    split at hm
    · rename_i hz; rw [R.length]; exact hz.1
    · cases hm
  · obtain ⟨M, ds, r, hM, R, hm, q⟩ := h
    unfold fnN at hm
    split at hm
    · rename_i hz
      obtain ⟨t, p1, s1⟩ := (hb cdv A outer s0 H E hr).ex
      rw [hbd]
      refine ⟨_, pss_one (ps_ret p1), ?_⟩
      obtain ⟨⟨r', δ'⟩, e1, e2⟩ := Option.map_eq_some_iff.mp hm
      cases e2
      have nun : ∀ (i : Nat) es, (slots N.length (ds.map Sl.val))[i]? ≠ some (.own es) := fun i es h => by
        rcases slots_get h with h | h
        · rw [List.getElem?_map] at h
          obtain ⟨d, _, h⟩ := Option.map_eq_some_iff.mp h
          cases h
        · cases h
      let Fr0 : Fr := ⟨M, none, H⟩
      have eM : Mm Fr0 (start N vs) (slots N.length (ds.map Sl.val)) = M := by
        funext a
        refine propext ⟨fun z => ?_, .inl⟩
        rcases z with z | ⟨i, es, f1, _⟩
        · exact z
        · exact (nun i es f1).elim
      have G : Good K Fr0 (start N vs) H (slots N.length (ds.map Sl.val)) ⟨[], 0, [], none⟩ := by
        refine ⟨?_, fun i d h => ?_, fun i es h => (nun i es h).elim, fun i j es _ _ h => (nun i es h).elim, hM, fun i h => ?_, fun p h => (nomatch h), fun _ _ e _ => e⟩
        · unfold L2.start slots
          simp only [List.length_append, List.length_map, List.length_replicate, R.length]
        · rw [eM]
          rcases slots_get h with h | h
          · rw [List.getElem?_map] at h
            obtain ⟨d', h1, h2⟩ := Option.map_eq_some_iff.mp h
            cases h2
            obtain ⟨v, g1, g2⟩ := R.get' h1
            exact ⟨v, start_get g1, g2⟩
          · cases h
        · rcases slots_get h with h | h
          · rw [List.getElem?_map] at h
            obtain ⟨d', h1, h2⟩ := Option.map_eq_some_iff.mp h
            cases h2
          · cases h
      refine s1 Fr0 (start N vs) H _ ⟨[], 0, [], none⟩ r' δ' G e1 _ fun p kvs H' h0 G' M' hp R' => ?_
      rw [eM] at R'
      exact q p kvs H' h0 (fun a o e => G'.fr a o e fun p h => nomatch h) hp R'
    · cases hm
end
section
variable {X : Cx} {e : Expr} {es : List Expr} {r : MA} {p pos : Pos} {x : Str}
/-- y = f(..), a dict made anew -/
def sOwnC (i : Nat) (m : List D → Option (List (D × D))) (r : MA) : MS := fun ρ δ => (r ρ δ).bind fun p => (m p.1).bind fun es => if i < ρ.length then some (.nx, ρ.set i (.dic es), p.2) else none
theorem pds_ownC (i : Nat) {CX : CXT} {k : Nat} {f : Addr} {fd : FuncData} {ps : List Str} {m : List D → Option (List (D × D))} {y : Str} {E : XK} {py spos : Pos} (hNd : X.N.Nodup) (Fn : FnOk X.prog X.w X.K X.mg X.base CX k f fd ps (spN X.K m)) (hr : Room k X.A) (hm : X.mg x = some (.ref f)) (hk : PySem.W.keepIn X.K (.ref f) = true) (hb : Binds X.K fd ps []) (hx : Passes CX X E)
    (ha : PDA X (e :: es) r) (hi : X.N[i]? = some y := by rfl) (hl : Loc X.env.scope y := by first | exact Or.inl rfl | exact Or.inr rfl) (hs : swapsWith (.Call (.Name x p) (e :: es) [] pos) (some (.Name y py)) spos.line X.env = pure false := by rfl) (hf : X.fn y = true ∨ X.env.scope.names.lookup y = some .local := by first | exact .inl rfl | exact .inr rfl | assumption)
    (hg : Gl X x := by rfl) (hdb : (x == ("__debug__" : Str)) = false := by decide) (he : starEach (e :: es) X.env = (false, eval e X.env) :: starEach es X.env := by rfl) (hpl : (backTo pos (starEach es X.env)).any (·.1) = false := by rfl) :
    PDS X (.Assign [.Name y py] (.Call (.Name x p) (e :: es) [] pos) spos) (sOwnC i m r) := by
  obtain ⟨t, h1, s1⟩ := ha.ex
  refine ⟨_, ps_set hNd hi hl (pe_call Fn hr hg hm hk hb .nil hx h1 hdb he hpl) hs hf, fun F σ H ρ δ fl ρ' δ' G e D q => ?_⟩
  obtain ⟨⟨ds, δ1⟩, e1, e⟩ := Option.bind_eq_some_iff.mp e
  obtain ⟨fs, e3, e⟩ := Option.bind_eq_some_iff.mp e
  dsimp only at e
  split at e
  · rename_i hz
    cases e
    refine s1 F σ H ρ δ ds _ G e1 _ fun vs H1 G1 M1 R1 => ?_
    rw [List.append_nil]
    refine ⟨_, ds, fs, G1.mm, R1, e3, fun pp kvs H2 h0 kp hp R2 => ?_⟩
    obtain ⟨G2, M2⟩ := G1.ownGot i hz h0 kp hp (.dic R2)
    exact q _ _ G2 (M1.trans M2)
  · cases e
end
end PD

namespace PD
open PySem PySem.Spec PyProof.Rows L2
/-! ### own dicts: the walk's rules -/
section
variable {ρ : List Sl} {δ : Dk}
theorem ws_ownC {i : Nat} {m r} {P : Fl → List Sl → Dk → Prop} (h : WA r ρ δ fun ds δ1 => ∃ es, m ds = some es ∧ i < ρ.length ∧ P .nx (ρ.set i (.dic es)) δ1) : WS (sOwnC i m r) ρ δ P := by
  obtain ⟨ds, δ1, e1, es, e2, hl, p⟩ := h
  refine ⟨_, _, _, ?_, p⟩
  unfold sOwnC
  rw [e1]
  show ((m ds).bind _) = _
  rw [e2]
  exact if_pos hl
theorem wt_inO {neg : Bool} {i : Nat} {mk : ME} {es : List (D × D)} {P : Bool → Dk → Prop} (hi : ρ[i]? = some (.dic es)) (h : WE mk ρ δ fun x δ1 => ∃ k, keyOf x = some k ∧ P (neg ^^ (lookD es (keyD k)).isSome) δ1) : WT (tInO neg i mk) ρ δ P := by
  obtain ⟨x, δ1, e1, k, e2, p⟩ := h
  refine ⟨_, _, ?_, p⟩
  unfold tInO
  rw [hi]
  show ((mk ρ δ).bind _) = _
  rw [e1]
  show ((keyOf x).map _) = _
  rw [e2]
  rfl
theorem ws_delD {i : Nat} {mk : ME} {es : List (D × D)} {P : Fl → List Sl → Dk → Prop} (hi : ρ[i]? = some (.dic es)) (h : WE mk ρ δ fun x δ1 => ∃ k, keyOf x = some k ∧ (lookD es (keyD k)).isSome = true ∧ P .nx (ρ.set i (.dic (dropE es k))) δ1) : WS (sDelD i mk) ρ δ P := by
  obtain ⟨x, δ1, e1, k, e2, hl, p⟩ := h
  refine ⟨_, _, _, ?_, p⟩
  unfold sDelD
  rw [hi]
  show ((mk ρ δ).bind _) = _
  rw [e1]
  show ((keyOf x).bind _) = _
  rw [e2]
  exact if_pos hl
theorem ws_updD {i : Nat} {m : ME} {es : List (D × D)} {P : Fl → List Sl → Dk → Prop} (hi : ρ[i]? = some (.dic es)) (h : WE m ρ δ fun x δ1 => ∃ fs, x = .dict fs ∧ es.length + fs.length ≤ sizeLine ∧ P .nx (ρ.set i (.dic (mergeE es fs))) δ1) : WS (sUpdD i m) ρ δ P := by
  obtain ⟨x, δ1, e1, fs, rfl, hl, p⟩ := h
  refine ⟨_, _, _, ?_, p⟩
  unfold sUpdD
  rw [hi]
  show ((m ρ δ).bind _) = _
  rw [e1]
  exact if_pos hl
theorem we_sortO {i : Nat} {es : List (D × D)} {ks : List Str} {P : D → Dk → Prop} (hi : ρ[i]? = some (.dic es)) (hk : keysS es = some ks) (hl : ks.length < 64) (p : P (.list ((srt ks).map .str)) δ) : WE (mSortO i) ρ δ P := by
  refine ⟨_, _, ?_, p⟩
  unfold mSortO
  rw [hi]
  show ((keysS es).bind _) = _
  rw [hk]
  exact if_pos hl
theorem we_getO {i : Nat} {mk : ME} {es : List (D × D)} {P : D → Dk → Prop} (hi : ρ[i]? = some (.dic es)) (h : WE mk ρ δ fun x δ1 => ∃ k z, keyOf x = some k ∧ lookD es (keyD k) = some z ∧ P z δ1) : WE (mGetO i mk) ρ δ P := by
  obtain ⟨x, δ1, e1, k, z, e2, e3, p⟩ := h
  refine ⟨_, _, ?_, p⟩
  unfold mGetO
  rw [hi]
  show ((mk ρ δ).bind _) = _
  rw [e1]
  show ((keyOf x).bind _) = _
  rw [e2]
  show ((lookD es (keyD k)).map _) = _
  rw [e3]
  rfl
theorem ws_newD {i : Nat} {P : Fl → List Sl → Dk → Prop} (hl : i < ρ.length) (p : P .nx (ρ.set i (.dic [])) δ) : WS (sNewD i) ρ δ P := ⟨_, _, _, if_pos hl, p⟩
theorem ws_putD {i : Nat} {m mk : ME} {es : List (D × D)} {P : Fl → List Sl → Dk → Prop} (hi : ρ[i]? = some (.dic es)) (h : WE m ρ δ fun v δ1 => WE mk ρ δ1 fun x δ2 => ∃ k, keyOf x = some k ∧ es.length < sizeLine ∧ P .nx (ρ.set i (.dic (putE es k v))) δ2) : WS (sPutD i m mk) ρ δ P := by
  obtain ⟨v, δ1, e1, x, δ2, e2, k, e3, hl, p⟩ := h
  refine ⟨_, _, _, ?_, p⟩
  unfold sPutD
  rw [hi]
  show ((m ρ δ).bind _) = _
  rw [e1]
  show ((mk ρ δ1).bind _) = _
  rw [e2]
  show ((keyOf x).bind _) = _
  rw [e3]
  exact if_pos hl
end
end PD

namespace PD
open PySem PySem.Spec PyProof.Rows L2
/-! ### x, y = {}, {}; x, y = [], []; x == {}; e in x, x a list of the def's own -/
def rEqE : R2 := fun x y H Q => ∃ a b ks, x = .ref a ∧ y = .ref b ∧ H a = some (.dK ks) ∧ H b = some (.dK []) ∧ Q (.bl ks.isEmpty) H
theorem op_eqE {X : Cx} (hu : X.A.units + 1 < cLine) : OpR X (compareOp .Eq) rEqE := by
  intro pins s σ H x y v u Q I rx ry h
  obtain ⟨a, b, ks, rfl, rfl, ha, hb, q⟩ := h
  cases (show v = Value.ref a from rx)
  cases (show u = Value.ref b from ry)
  obtain ⟨_, ya, va, ra, da⟩ := (show ObjOk X.prog X.w H s.heap a (.dK ks) from I.hok a _ ha)
  obtain ⟨_, yb, vb, rb, db⟩ := (show ObjOk X.prog X.w H s.heap b (.dK []) from I.hok b _ hb)
  have hb0 : vb = [] := by
    have := rb.length
    exact List.eq_nil_of_length_eq_zero (by rw [← this]; rfl)
  subst hb0
  refine PySem.W.rcP_dicts (knd := mixKind X.prog X.w) (r := true) ya yb da db (by omega) (fun hl => ?_) _ _ ?_
  · have : va = [] := List.eq_nil_of_length_eq_zero hl
    subst this
    exact .nil
  · have e : (va.length == ([] : List (Key × Value)).length && true) = ks.isEmpty := by
      have := ra.length
      cases ks with
      | nil => rw [← this]; rfl
      | cons k ks =>
        rw [← this]
        rfl
    rw [e]
    exact ⟨.bl ks.isEmpty, H, I, rfl, q⟩
section
variable {X : Cx} {e b : Expr} {ma mb : ME} {x y : Str} {p0 p1 p2 p3 tp tq pos : Pos}
/-- x == {} -/
def mEqE (i : Nat) : ME := fun ρ δ => match ρ[i]? with
  | some (.own (.dic es)) => some (.bool es.isEmpty, δ)
  | _ => none
theorem RepK.empty {K M H kvs es} (r : RepK K M H kvs es) : kvs.isEmpty = es.isEmpty := by cases r <;> rfl
theorem snd_eqE {i : Nat} : Snd X.K (tOp rEqE (tVar i) tDNewK) (mEqE i) := fun F σ H ρ δ d δ' G e Q q => by
  unfold mEqE at e
  split at e
  · rename_i es hi
    cases e
    obtain ⟨a1, kvs, f1, f2, f3, f4⟩ := G.dic i es hi
    refine ⟨_, f1, fun p hp => ?_⟩
    refine ⟨_, _, kvs, rfl, rfl, upd_keeps hp _ _ f2, upd_same, ?_⟩
    rw [f3.empty]
    exact q _ _ (G.new hp) (Mv.same (upd_keeps hp)) (.bl _)
  · cases e
theorem pd_eqE (i : Nat) (hu : X.A.units + 1 < cLine) (hN : X.N[i]? = some x := by rfl) (hv : Vis X.env.scope x := by first | exact Or.inl rfl | exact Or.inr (Or.inl rfl) | exact Or.inr (Or.inr rfl)) (hyd : (x == ("__debug__" : Str)) = false := by decide) (hcd : (x == ("__classdict__" : Str)) = false := by decide) :
    PD X (.Compare (.Name x p0) [.Eq] [.Dict [] [] p1] pos) (mEqE i) :=
  ⟨_, pe_cmpR (op_eqE hu) (pe_var hN hv hyd hcd) pe_dnewK (nomark _), snd_eqE⟩
/-- e in x, e not in x -/
def mInU (neg : Bool) (i : Nat) (m : ME) : ME := fun ρ δ => match ρ[i]? with
  | some (.own (.lst ds)) => (m ρ δ).bind fun q => if flatD q.1 && ds.all flatD then some (.bool (neg ^^ ds.any fun z => PyData.eqv z q.1), q.2) else none
  | _ => none
theorem snd_inU {i : Nat} {neg : Bool} {tb : TE} (hb : Snd X.K tb mb) : Snd X.K (tOp (rIn X.K neg) tb (tVar i)) (mInU neg i mb) := fun F σ H ρ δ d δ' G e Q q => by
  unfold mInU at e
  split at e
  · rename_i ds hi
    obtain ⟨⟨y, δ1⟩, e1, e⟩ := Option.bind_eq_some_iff.mp e
    dsimp only at e
    split at e
    · rename_i h
      rw [Bool.and_eq_true] at h
      cases e
      refine hb F σ H ρ δ _ _ G e1 _ fun u H1 G1 M1 R1 => ?_
      obtain ⟨a1, xs, f1, f2, f3, f4⟩ := G1.uni i ds hi
      refine ⟨_, f1, _, _, rfl, .inl (SqL.of f2), R1.flat h.1, f3.flatAll h.2, ?_⟩
      rw [f3.inV R1 h.1 h.2]
      cases neg with
      | true => rw [Bool.true_xor] at q; exact q _ _ G1 M1 (.bl _)
      | false => rw [Bool.false_xor] at q; exact q _ _ G1 M1 (.bl _)
    · cases e
  · cases e
theorem pdt_inU (i : Nat) (hb : PD X b mb) (hN : X.N[i]? = some x := by rfl) (hv : Vis X.env.scope x := by first | exact Or.inl rfl | exact Or.inr (Or.inl rfl) | exact Or.inr (Or.inr rfl)) (hyd : (x == ("__debug__" : Str)) = false := by decide) (hcd : (x == ("__classdict__" : Str)) = false := by decide) :
    PDT X (.Compare b [.In] [.Name x p0] pos) (mB (mInU false i mb)) := by
  obtain ⟨tb, h2, s2⟩ := hb.ex
  exact ⟨_, pt_cmpR op_in_seq h2 (pe_var hN hv hyd hcd) (by with_unfolding_all rfl), snd_test (snd_inU s2)⟩
theorem pdt_notInU (i : Nat) (hb : PD X b mb) (hN : X.N[i]? = some x := by rfl) (hv : Vis X.env.scope x := by first | exact Or.inl rfl | exact Or.inr (Or.inl rfl) | exact Or.inr (Or.inr rfl)) (hyd : (x == ("__debug__" : Str)) = false := by decide) (hcd : (x == ("__classdict__" : Str)) = false := by decide) :
    PDT X (.Compare b [.NotIn] [.Name x p0] pos) (mB (mInU true i mb)) := by
  obtain ⟨tb, h2, s2⟩ := hb.ex
  exact ⟨_, pt_cmpR op_notIn_seq h2 (pe_var hN hv hyd hcd) (by with_unfolding_all rfl), snd_test (snd_inU s2)⟩
/-- x, y = {}, {} and x, y = [], [] -/
def sNew2 (i j : Nat) (o : Ow) : MS := fun ρ δ => if i < ρ.length ∧ j < ρ.length ∧ i ≠ j then some (.nx, (ρ.set i (.own o)).set j (.own o), δ) else none
theorem snd_new2 {F σ H ρ δ} {X : Cx} {o : Ow} {v : HO} {i j : Nat} (G : Good X.K F σ H ρ δ) (hi : i < ρ.length) (hj : j < ρ.length) (hn : i ≠ j) (r : ∀ K M H, OwR K M H v o) (N : L2.St → Hp → Prop) (q : ∀ σ' H', Good X.K F σ' H' ((ρ.set i (.own o)).set j (.own o)) δ → Mv (Mm F σ ρ) H (Mm F σ' ((ρ.set i (.own o)).set j (.own o))) H' → N σ' H')
    (p : Addr) (hp : H p = none) (p' : Addr) (hp' : upd H p v p' = none) (l : Addr) (hl : upd (upd H p v) p' v l = none) : gSwap X.K i j (.ref l) σ (upd (upd (upd H p v) p' v) l (.tup [.ref p, .ref p'])) N := by
  obtain ⟨G1, M1⟩ := G.ownNew i hi hp (r _ _ _)
  obtain ⟨G2, M2⟩ := G1.ownNew j (by rw [List.length_set]; exact hj) hp' (r _ _ _)
  have G3 := G2.new (o := .tup [.ref p, .ref p']) hl
  refine ⟨_, _, _, rfl, SqT.of upd_same, ?_⟩
  show N ((σ.set j (some (.ref p'))).set i (some (.ref p))) _
  rw [List.set_comm _ _ (Ne.symm hn)]
  exact q _ _ G3 ((M1.trans M2).trans (Mv.same (upd_keeps hl)))
theorem pds_newD2 (i j : Nat) {k k' : Nat} (hc : X.calm = true) (hN : X.N.Nodup) (hx : X.N[i]? = some x := by rfl) (hy : X.N[j]? = some y := by rfl) (lx : Loc X.env.scope x := by first | exact Or.inl rfl | exact Or.inr rfl) (ly : Loc X.env.scope y := by first | exact Or.inl rfl | exact Or.inr rfl)
    (fx : X.fn x = true ∨ X.env.scope.names.lookup x = some .local := by first | exact .inl rfl | exact .inr rfl) (fy : X.fn y = true ∨ X.env.scope.names.lookup y = some .local := by first | exact .inl rfl | exact .inr rfl)
    (hs : swapsWithSole [.Tuple [.Name x p1, .Name y p2] k tp] (.Tuple [.Dict [] [] p0, .Dict [] [] p3] k' tq) pos.line X.env = pure false := by rfl) (hw : swappedStores [.Tuple [.Name x p1, .Name y p2] k tp] (.Tuple [.Dict [] [] p0, .Dict [] [] p3] k' tq) X.env = pure (some [x, y]) := by rfl) :
    PDS X (.Assign [.Tuple [.Name x p1, .Name y p2] k tp] (.Tuple [.Dict [] [] p0, .Dict [] [] p3] k' tq) pos) (sNew2 i j (.dic [])) := by
  refine ⟨_, ps_swap hc hN (pe_tup (pa_cons pe_dnewK (pa_cons pe_dnewK pa_nil))) hx hy lx ly fx fy hs hw, fun F σ H ρ δ fl ρ' δ' G e D q => ?_⟩
  unfold sNew2 at e
  split at e
  · rename_i hz
    cases e
    intro p hp p' hp'
    refine ⟨by show 2 ≤ sizeLine; decide, fun l hl => ?_⟩
    exact snd_new2 G hz.1 hz.2.1 hz.2.2 (fun _ _ _ => .dic .nil) D.nx q p hp p' hp' l hl
  · cases e
/-- the same where one of the names is read in a comprehension: the stores go from the left -/
theorem pds_newD2c (i j : Nat) {k k' : Nat} (hc : X.calm = true) (hN : X.N.Nodup) (hx : X.N[i]? = some x := by rfl) (hy : X.N[j]? = some y := by rfl) (lx : Loc X.env.scope x := by first | exact Or.inl rfl | exact Or.inr rfl) (ly : Loc X.env.scope y := by first | exact Or.inl rfl | exact Or.inr rfl)
    (fx : X.fn x = true ∨ X.env.scope.names.lookup x = some .local := by first | exact .inl rfl | exact .inr rfl) (fy : X.fn y = true ∨ X.env.scope.names.lookup y = some .local := by first | exact .inl rfl | exact .inr rfl)
    (hs : swapsWithSole [.Tuple [.Name x p1, .Name y p2] k tp] (.Tuple [.Dict [] [] p0, .Dict [] [] p3] k' tq) pos.line X.env = pure false := by rfl) (hw : swappedStores [.Tuple [.Name x p1, .Name y p2] k tp] (.Tuple [.Dict [] [] p0, .Dict [] [] p3] k' tq) X.env = pure none := by rfl) :
    PDS X (.Assign [.Tuple [.Name x p1, .Name y p2] k tp] (.Tuple [.Dict [] [] p0, .Dict [] [] p3] k' tq) pos) (sNew2 i j (.dic [])) := by
  refine ⟨_, ps_asg (pe_tup (pa_cons pe_dnewK (pa_cons pe_dnewK pa_nil))) (pg_tup (n := 2) hc (pgs_cons (pg_name hN hx lx fx) (pgs_cons (pg_name hN hy ly fy) pgs_nil))) hs hw, fun F σ H ρ δ fl ρ' δ' G e D q => ?_⟩
  unfold sNew2 at e
  split at e
  · rename_i hz
    cases e
    intro p hp p' hp'
    refine ⟨by show 2 ≤ sizeLine; decide, fun l hl => ?_⟩
    obtain ⟨G1, M1⟩ := G.ownNew i hz.1 hp (.dic .nil)
    obtain ⟨G2, M2⟩ := G1.ownNew j (by rw [List.length_set]; exact hz.2.1) hp' (.dic .nil)
    have G3 := G2.new (o := .tup [.ref p, .ref p']) hl
    exact ⟨_, _, rfl, SqT.of upd_same, rfl, _, _, rfl, _, _, rfl, rfl, q _ _ G3 ((M1.trans M2).trans (Mv.same (upd_keeps hl)))⟩
  · cases e
theorem pds_newL2 (i j : Nat) {k k' : Nat} (hc : X.calm = true) (hN : X.N.Nodup) (hx : X.N[i]? = some x := by rfl) (hy : X.N[j]? = some y := by rfl) (lx : Loc X.env.scope x := by first | exact Or.inl rfl | exact Or.inr rfl) (ly : Loc X.env.scope y := by first | exact Or.inl rfl | exact Or.inr rfl)
    (fx : X.fn x = true ∨ X.env.scope.names.lookup x = some .local := by first | exact .inl rfl | exact .inr rfl) (fy : X.fn y = true ∨ X.env.scope.names.lookup y = some .local := by first | exact .inl rfl | exact .inr rfl)
    (hs : swapsWithSole [.Tuple [.Name x p1, .Name y p2] k tp] (.Tuple [.List [] p0, .List [] p3] k' tq) pos.line X.env = pure false := by rfl) (hw : swappedStores [.Tuple [.Name x p1, .Name y p2] k tp] (.Tuple [.List [] p0, .List [] p3] k' tq) X.env = pure (some [x, y]) := by rfl) :
    PDS X (.Assign [.Tuple [.Name x p1, .Name y p2] k tp] (.Tuple [.List [] p0, .List [] p3] k' tq) pos) (sNew2 i j (.lst [])) := by
  refine ⟨_, ps_swap hc hN (pe_tup (pa_cons (pe_lst pa_nil) (pa_cons (pe_lst pa_nil) pa_nil))) hx hy lx ly fx fy hs hw, fun F σ H ρ δ fl ρ' δ' G e D q => ?_⟩
  unfold sNew2 at e
  split at e
  · rename_i hz
    cases e
    refine ⟨Nat.zero_le _, fun p hp => ⟨Nat.zero_le _, fun p' hp' => ⟨by show 2 ≤ sizeLine; decide, fun l hl => ?_⟩⟩⟩
    exact snd_new2 G hz.1 hz.2.1 hz.2.2 (fun _ _ _ => .lst .nil) D.nx q p hp p' hp' l hl
  · cases e
end
/-! ### their walk rules -/
section
variable {ρ : List Sl} {δ : Dk}
theorem we_eqE {i : Nat} {es : List (D × D)} {P : D → Dk → Prop} (hi : ρ[i]? = some (.dic es)) (p : P (.bool es.isEmpty) δ) : WE (mEqE i) ρ δ P := by
  refine ⟨_, _, ?_, p⟩
  show (match ρ[i]? with | some (.own (.dic es)) => some (PyData.bool es.isEmpty, δ) | _ => none) = _
  simp only [hi]
theorem we_inU {neg : Bool} {i : Nat} {m : ME} {ds : List D} {P : D → Dk → Prop} (hi : ρ[i]? = some (.uni ds)) (h : WE m ρ δ fun x δ1 => flatD x = true ∧ ds.all flatD = true ∧ P (.bool (neg ^^ ds.any fun z => PyData.eqv z x)) δ1) : WE (mInU neg i m) ρ δ P := by
  obtain ⟨x, δ1, e1, h1, h2, p⟩ := h
  refine ⟨_, _, ?_, p⟩
  unfold mInU
  rw [hi]
  show ((m ρ δ).bind _) = _
  rw [e1]
  show (if (flatD x && ds.all flatD) = true then _ else _) = _
  rw [h1, h2]
  rfl
theorem ws_new2 {i j : Nat} {o : Ow} {P : Fl → List Sl → Dk → Prop} (hi : i < ρ.length) (hj : j < ρ.length) (hn : i ≠ j) (p : P .nx ((ρ.set i (.own o)).set j (.own o)) δ) : WS (sNew2 i j o) ρ δ P := ⟨_, _, _, if_pos ⟨hi, hj, hn⟩, p⟩
end
end PD

namespace PD
open PySem PySem.Spec PyProof.Rows L2
/-! ### a def that is handed in: the last parameter -/
def spPF (K : PySem.W.Frag) (a : Addr) (m : List D → Option D) : Sp := fun vs H Q _ => ∃ (M : Addr → Prop) (ws : List V) (ds : List D) (r : D), vs = ws ++ [.ref a] ∧ (∀ a, M a → H a ≠ none) ∧ Reps K M H ws ds ∧ m ds = some r ∧ ∀ v H', (∀ a o, H a = some o → H' a = some o) → Rep K M H' v r → Q v H'
def fnPF (n np : Nat) (a : Addr) (s : MS) : List D → Option D := fun ds => if ds.length + 1 = np ∧ np ≤ n then (outP (s (slots n (ds.map .val ++ [.fn a])) ⟨[], 0, [], none⟩)).map (·.1) else none
section
variable {P : Program} {w : World} {K : PySem.W.Frag} {mg : Str → Option Value} {base : Heap}
theorem okPF {x qual : Str} {st : Stmt} {f a : Addr} {fd : FuncData} {N ps : List Str} {k : Nat} {s : MS} {m : List D → Option D} (F : Fun K x qual st f fd) (S : FnScope N ps (defScope st)) (hn : ps.length ≤ N.length)
    (hf : ∀ ds r, m ds = some r → fnPF N.length ps.length a s ds = some r)
    (hb : ∀ (cdv : Value) (A : Around) (outer : List Env) (s0 : Shared) (H : Hp) (E : XK), Room k (A.deeper (envOfC qual (defScope st) s0.heap.objs.size f cdv)) → PDSs (cxOf CX0 P w K mg base N qual (defScope st) f cdv A outer s0 H E).nox (defBody st) s) :
    FnOk P w K mg base CX0 (k + 1) f fd ps (spPF K a m) := by
  refine F.ok S (fun vs H Q E h => ?_) (fun cdv A outer s0 H vs Q E hr h => ?_)
  · obtain ⟨M, ws, ds, r, rfl, hM, R, hm, q⟩ := h
    have hm := hf ds r hm
    unfold fnPF at hm
    split at hm
    · rename_i hz
      rw [List.length_append, R.length]
      exact hz.1
    · cases hm
  · obtain ⟨M, ws, ds, r, rfl, hM, R, hm, q⟩ := h
    have hm := hf ds r hm
    unfold fnPF at hm
    split at hm
    · rename_i hz
      obtain ⟨t, p1, s1⟩ := (hb cdv A outer s0 H E hr).ex
      refine ⟨t, p1, ?_⟩
      obtain ⟨⟨r', δ'⟩, e1, e2⟩ := Option.map_eq_some_iff.mp hm
      cases e2
      generalize hres : s (slots N.length (ds.map Sl.val ++ [.fn a])) ⟨[], 0, [], none⟩ = res at e1
      have get : ∀ (i : Nat) x, (ds.map Sl.val ++ [.fn a])[i]? = some x → (∃ d, ds[i]? = some d ∧ x = .val d) ∨ (i = ds.length ∧ x = .fn a) := fun i x h => by
        rcases Nat.lt_or_ge i (ds.map Sl.val).length with hl | hl
        · rw [List.getElem?_append_left hl, List.getElem?_map] at h
          obtain ⟨d, h1, h2⟩ := Option.map_eq_some_iff.mp h
          exact .inl ⟨d, h1, h2.symm⟩
        · rw [List.getElem?_append_right hl] at h
          rw [List.length_map] at hl h
          cases hi : i - ds.length with
          | zero =>
            rw [hi] at h
            exact .inr ⟨by omega, (Option.some.inj h).symm⟩
          | succ j => rw [hi] at h; cases h
      have nun : ∀ (i : Nat) es, (slots N.length (ds.map Sl.val ++ [.fn a]))[i]? ≠ some (.own es) := fun i es h => by
        rcases slots_get h with h | h
        · rcases get i _ h with ⟨d, _, h⟩ | ⟨_, h⟩ <;> cases h
        · cases h
      let Fr0 : Fr := ⟨M, none, H⟩
      have eM : Mm Fr0 (start N (ws ++ [.ref a])) (slots N.length (ds.map Sl.val ++ [.fn a])) = M := by
        funext b
        refine propext ⟨fun z => ?_, .inl⟩
        rcases z with z | ⟨i, es, f1, _⟩
        · exact z
        · exact (nun i es f1).elim
      have G : Good K Fr0 (start N (ws ++ [.ref a])) H (slots N.length (ds.map Sl.val ++ [.fn a])) ⟨[], 0, [], none⟩ := by
        refine ⟨?_, fun i d h => ?_, fun i es h => (nun i es h).elim, fun i j es _ _ h => (nun i es h).elim, hM, fun i h => ?_, fun p h => (nomatch h), fun _ _ e _ => e⟩
        · unfold L2.start slots
          simp only [List.length_append, List.length_map, List.length_replicate, R.length, List.length_cons, List.length_nil]
        · rw [eM]
          rcases slots_get h with h | h
          · rcases get i _ h with ⟨d', h1, h2⟩ | ⟨_, h2⟩
            · cases h2
              obtain ⟨v, g1, g2⟩ := R.get' h1
              have hl : i < ws.length := by
                rcases Nat.lt_or_ge i ws.length with h' | h'
                · exact h'
                · rw [List.getElem?_eq_none h'] at g1; cases g1
              exact ⟨v, start_get (by rw [List.getElem?_append_left hl]; exact g1), g2⟩
            · cases h2
          · cases h
        · rcases slots_get h with h | h
          · rcases get i _ h with ⟨d', h1, h2⟩ | ⟨hi, h2⟩
            · cases h2
            · cases h2
              exact start_get (by rw [hi, ← R.length, List.getElem?_append_right (Nat.le_refl _), Nat.sub_self]; rfl)
          · cases h
      cases res with
      | none => cases e1
      | some p =>
        obtain ⟨fl, ρ1, δ1⟩ := p
        refine s1 Fr0 (start N (ws ++ [V.ref a])) H _ ⟨[], 0, [], none⟩ fl ρ1 δ1 G hres _ fun σ' H' G' M' => ?_
        have an : Mv (Mm Fr0 σ' ρ1) H' M H' := fun a o e n => ⟨e, fun z => n (.inl z)⟩
        have kp : ∀ a o, H a = some o → H' a = some o := fun a o e => G'.fr a o e fun p h => nomatch h
        cases fl with
        | nx => cases e1; exact q _ _ kp .non
        | rt d => cases e1; exact fun v R1 => q _ _ kp (R1.mv an)
        | bk => cases e1
        | ct => cases e1
    · cases hm
end
section
variable {X : Cx} {e e1 e2 e3 : Expr} {es : List Expr} {r : MA} {m1 m2 m3 : ME} {p p4 pos : Pos}
/-- the call of a def that was handed in, at slot i -/
def mCallL (i : Nat) (a : Addr) (m : List D → Option D) (r : MA) : ME := fun ρ δ => match ρ[i]? with
  | some (.fix (.fn b)) => if b = a then (r ρ δ).bind fun p => (m p.1).map fun z => (z, p.2) else none
  | _ => none
theorem pd_callL (i : Nat) {k : Nat} {f : Addr} {fd : FuncData} {ps : List Str} {m : List D → Option D} {x : Str} {E : XK} (Fn : FnOk X.prog X.w X.K X.mg X.base CX0 k f fd ps (spP X.K m)) (hr : Room k X.A) (hk : PySem.W.keepIn X.K (.ref f) = true) (hb : Binds X.K fd ps []) (hx : Passes CX0 X E)
    (ha : PDA X (e :: es) r) (hN : X.N[i]? = some x := by rfl) (hv : Vis X.env.scope x := by first | exact Or.inl rfl | exact Or.inr (Or.inl rfl) | exact Or.inr (Or.inr rfl)) (hdb : (x == ("__debug__" : Str)) = false := by decide) (hcd : (x == ("__classdict__" : Str)) = false := by decide) (he : starEach (e :: es) X.env = (false, eval e X.env) :: starEach es X.env := by rfl) (hpl : (backTo pos (starEach es X.env)).any (·.1) = false := by rfl) :
    PD X (.Call (.Name x p) (e :: es) [] pos) (mCallL i f m r) := by
  obtain ⟨t, h1, s1⟩ := ha.ex
  refine ⟨_, pe_callL (i := i) (f := f) Fn hr hN hv hk hb .nil hx h1 hdb hcd he hpl, fun F σ H ρ δ d δ' G e Q q => ?_⟩
  unfold mCallL at e
  split at e
  · rename_i b hi
    split at e
    · rename_i hbf
      subst hbf
      obtain ⟨⟨ds, δ1⟩, e1, e⟩ := Option.bind_eq_some_iff.mp e
      obtain ⟨z, e3, e⟩ := Option.map_eq_some_iff.mp e
      cases e
      refine ⟨G.dsl i hi, s1 F σ H ρ δ ds _ G e1 _ fun vs H1 G1 M1 R1 => ?_⟩
      rw [List.append_nil]
      exact ⟨_, ds, _, G1.mm, R1, e3, fun v H2 k R2 => q v H2 (G1.keep k) (M1.trans (Mv.same k)) R2⟩
    · cases e
  · cases e
/-- f(e1, e2, e3, g): g a def of the module's -/
def mC3 (m : List D → Option D) (a b c : ME) : ME := mCall m (mCons a (mCons b (mCons c mNil)))
theorem pd_callPF {k : Nat} {f a : Addr} {fd : FuncData} {ps : List Str} {m : List D → Option D} {x y : Str} {E : XK} (Fn : FnOk X.prog X.w X.K X.mg X.base CX0 k f fd ps (spPF X.K a m)) (hr : Room k X.A) (hm : X.mg x = some (.ref f)) (hk : PySem.W.keepIn X.K (.ref f) = true) (hb : Binds X.K fd ps []) (hx : Passes CX0 X E) (hy : X.mg y = some (.ref a))
    (h1 : PD X e1 m1) (h2 : PD X e2 m2) (h3 : PD X e3 m3) (hg : Gl X x := by rfl) (hgy : Gl X y := by rfl) (hdb : (x == ("__debug__" : Str)) = false := by decide) (hdy : (y == ("__debug__" : Str)) = false := by decide)
    (s1 : starEach [e1, e2, e3, .Name y p4] X.env = (false, eval e1 X.env) :: starEach [e2, e3, .Name y p4] X.env := by rfl) (s2 : starEach [e2, e3, .Name y p4] X.env = (false, eval e2 X.env) :: starEach [e3, .Name y p4] X.env := by rfl) (s3 : starEach [e3, .Name y p4] X.env = (false, eval e3 X.env) :: starEach [.Name y p4] X.env := by rfl) (s4 : starEach [.Name y p4] X.env = (false, eval (.Name y p4) X.env) :: starEach [] X.env := by rfl)
    (hpl : (backTo pos (starEach [e2, e3, .Name y p4] X.env)).any (·.1) = false := by rfl) :
    PD X (.Call (.Name x p) [e1, e2, e3, .Name y p4] [] pos) (mCall m (mCons m1 (mCons m2 (mCons m3 mNil)))) := by
  obtain ⟨t1, p1, q1⟩ := h1.ex
  obtain ⟨t2, p2, q2⟩ := h2.ex
  obtain ⟨t3, p3, q3⟩ := h3.ex
  refine ⟨_, pe_call Fn hr hg hm hk hb .nil hx (pa_cons p1 (pa_cons p2 (pa_cons p3 (pa_cons (pe_glob (v := .ref a) hgy hy rfl hdy) pa_nil s4) s3) s2) s1) hdb s1 hpl, fun F σ H ρ δ d δ' G e Q q => ?_⟩
  obtain ⟨⟨ds, δ0⟩, e0, e⟩ := Option.bind_eq_some_iff.mp e
  obtain ⟨z, e4, e⟩ := Option.map_eq_some_iff.mp e
  cases e
  obtain ⟨⟨x1, δ1⟩, f1, e0⟩ := Option.bind_eq_some_iff.mp e0
  obtain ⟨⟨r1, δ2⟩, g1, e0⟩ := Option.map_eq_some_iff.mp e0
  cases e0
  obtain ⟨⟨x2, δ3⟩, f2, g1⟩ := Option.bind_eq_some_iff.mp g1
  obtain ⟨⟨r2, δ4⟩, g2, g1⟩ := Option.map_eq_some_iff.mp g1
  cases g1
  obtain ⟨⟨x3, δ5⟩, f3, g2⟩ := Option.bind_eq_some_iff.mp g2
  obtain ⟨⟨r3, δ6⟩, g3, g2⟩ := Option.map_eq_some_iff.mp g2
  cases g2
  cases g3
  refine q1 F σ H ρ δ _ _ G f1 _ fun u1 H1 G1 M1 R1 => q2 F σ H1 ρ δ1 _ _ G1 f2 _ fun u2 H2 G2 M2 R2 => q3 F σ H2 ρ δ3 _ _ G2 f3 _ fun u3 H3 G3 M3 R3 => ?_
  exact ⟨_, [u1, u2, u3], [x1, x2, x3], _, rfl, G3.mm, .cons ((R1.mv M2).mv M3) (.cons (R2.mv M3) (.cons R3 .nil)), e4, fun v H4 k R4 => q v H4 (G3.keep k) (((M1.trans M2).trans M3).trans (Mv.same k)) R4⟩
/-- ord of one sign -/
def ordD : List D → Option D
  | [.str x] => if x.length = 1 then some (.int ((x.cps.getD 0 0 : Nat) : Int)) else none
  | _ => none
theorem cs_ord {K : PySem.W.Frag} : CallS K (fun xs H Q => ∃ x, xs = [.str x] ∧ x.length = 1 ∧ Q (.int (x.cps.getD 0 0 : Nat)) H) ordD := fun F σ H ρ δ xs ds z G R hz Q q => by
  unfold ordD at hz
  split at hz
  · split at hz
    · rename_i hl
      cases hz
      obtain ⟨v, rfl, r⟩ := reps1 R
      cases r
      exact ⟨_, rfl, hl, q _ _ (fun _ _ e => e) (.int _)⟩
    · cases hz
  · cases hz
theorem pd_ord (hm : X.mg "ord" = none) (ha : PDA X (e :: es) r) (hg : Gl X "ord" := by rfl) (he : starEach (e :: es) X.env = (false, eval e X.env) :: starEach es X.env := by rfl) (hpl : (backTo pos (starEach es X.env)).any (·.1) = false := by rfl) : PD X (.Call (.Name "ord" p) (e :: es) [] pos) (mCall ordD r) :=
  pd_cb (by decide +kernel) call_ord cs_ord ha hg hm (by decide) (by decide) he hpl
end
section
variable {ρ : List Sl} {δ : Dk}
theorem we_callL {i : Nat} {a : Addr} {m : List D → Option D} {r : MA} {P : D → Dk → Prop} (hi : ρ[i]? = some (.fn a)) (h : WA r ρ δ fun ds δ1 => W1 (m ds) fun z => P z δ1) : WE (mCallL i a m r) ρ δ P := by
  obtain ⟨ds, δ1, e1, z, e2, p⟩ := h
  refine ⟨z, δ1, ?_, p⟩
  unfold mCallL
  rw [hi]
  show (if a = a then (r ρ δ).bind _ else none) = _
  rw [if_pos rfl, e1]
  show ((m ds).map _) = _
  rw [e2]
  rfl
end
end PD

namespace HT
open PySem PySem.Spec PyProof.Rows
section
variable {prog : Program} {w : World} {A : Around} {E : Value → Shared → Prop} {s : Shared}
/-! ### x[::-1] -/
theorem adjust_rev (n : Nat) : Builtin.Slice.sliceAdjust none none (-1) (n : Int) = ((n : Int) - 1, -1) := by
  unfold Builtin.Slice.sliceAdjust
  simp
theorem places_rev (n : Nat) : Builtin.Slice.slicePlaces ((n : Int) - 1) (-1) (-1) = n := by
  unfold Builtin.Slice.slicePlaces
  simp
  omega
theorem sliceApplied_rev {sl : Addr} {t : Tok} {n : Nat} {Q : Int × Int × Nat → Shared → Prop} (hs : s.heap.IsSliceOf sl .none .none (.int (-1) t))
    (h : Q ((n : Int) - 1, -1, n) s) : wpAny (model prog w) A (Builtin.Slice.sliceApplied (.ref sl) (pure (n : Int))) Q E s := by
  obtain ⟨os, hos, hcs, hds⟩ := id hs
  unfold Builtin.Slice.sliceApplied Builtin.Slice.sliceFields
  refine wpAny_bind (wpAny_bind (wpAny_field hos hds (x := .none) rfl (wpAny_bind (wpAny_field hos hds (x := .none) rfl (wpAny_bind (wpAny_field hos hds (x := .int (-1) t) rfl (wpAny_pure ?_)))))))
  refine wpAny_bind (slicePart_int ?_)
  show wpAny _ _ (if ((-1 : Int) == 0) = true then _ else _) _ _ s
  rw [if_neg (by decide)]
  refine wpAny_bind (slicePart_none (wpAny_bind (slicePart_none (wpAny_bind (wpAny_pure ?_)))))
  show wpAny _ _ (match Builtin.Slice.sliceAdjust none none (-1) (n : Int) with | (lo, hi) => pure (lo, (-1 : Int), Builtin.Slice.slicePlaces lo hi (-1))) _ _ s
  rw [adjust_rev n]
  show wpAny _ _ (pure ((n : Int) - 1, (-1 : Int), Builtin.Slice.slicePlaces ((n : Int) - 1) (-1) (-1))) _ _ s
  rw [places_rev]
  exact wpAny_pure h
theorem range_pick {α : Type} : ∀ (l : List α) (f : Nat → Option α), (∀ m, m < l.length → f m = l[m]?) → (List.range l.length).filterMap f = l
  | [], _, _ => rfl
  | x :: l, f, h => by
    rw [List.length_cons, List.range_succ_eq_map, List.filterMap_cons, h 0 (by simp), List.filterMap_map]
    show x :: (List.range l.length).filterMap (f ∘ Nat.succ) = x :: l
    rw [range_pick l (f ∘ Nat.succ) fun m hm => by
      show f (m + 1) = _
      rw [h (m + 1) (by rw [List.length_cons]; omega)]
      rfl]
theorem pick_rev (xs : Array Value) : ((List.range xs.size).filterMap fun (m : Nat) => xs[((xs.size : Int) - 1 + (m : Int) * (-1)).toNat]?).toArray = xs.toList.reverse.toArray := by
  congr 1
  have h := range_pick xs.toList.reverse (fun (m : Nat) => xs[((xs.size : Int) - 1 + (m : Int) * (-1)).toNat]?) fun m hm => by
    have hm : m < xs.size := by simpa using hm
    rw [List.getElem?_reverse (by simpa using hm), show ((xs.size : Int) - 1 + (m : Int) * (-1)).toNat = xs.size - 1 - m by omega]
    simp
  rw [List.length_reverse, Array.length_toList] at h
  exact h
theorem getItem_tuple_rev {t sl : Addr} {items : Array Value} {u : Tok} {Q : Value → Shared → Prop} (ht : IsTup s.heap t items) (hs : s.heap.IsSliceOf sl .none .none (.int (-1) u))
    (h : Q (.ref s.heap.objs.size) { s with heap := s.heap.push { cls := .type "tuple", data := .seq items.toList.reverse.toArray } })
    (hsz : items.size ≤ sizeLine) : wpAny (model prog w) A (getItem (.ref t) (.ref sl)) Q E s := by
  have htake : sizeOk (.seq items.toList.reverse.toArray) := by
    show items.toList.reverse.toArray.size ≤ sizeLine
    simpa using hsz
  obtain ⟨os, hos, hcs, hds⟩ := id hs
  have hTs : s.TypeIs (.ref sl) "slice" := ⟨os, hos, hcs⟩
  unfold getItem
  try with_reducible refine wpAny_holding ?_
  first | refine wpAny_bind (wpAny_pure ?_) | skip
  refine wpAny_bind (wpAny_sequenceKey ht.typeIs (by decide) ?_)
  refine wpAny_bind (wpAny_callSpecial?_slot (name := Str.ofString "__getitem__") ht.typeIs PyProof.Rows.slot_tuple_getitem
    (wpAny_call_entry PyProof.Rows.slot_tuple_getitem ht.typeIs entry_tuple_getitem ?_ (args_tuple_getitem _ _)))
  show wpAny _ _ (Builtin.Tuple.tupleItemsOf (.ref t) >>= _) _ _ s
  refine wpAny_bind (tupleItemsOf_ ht ?_)
  refine wpAny_bind (wpAny_typeOf hTs ?_)
  rw [if_pos (by decide)]
  refine wpAny_bind (sliceApplied_rev (n := items.size) hs ?_)
  have hno : ¬ (((items.size : Int) - 1 == 0 && (-1 : Int) == 1 && items.size == items.size) = true) := by
    intro q
    rw [Bool.and_eq_true, Bool.and_eq_true] at q
    exact absurd q.1.2 (by decide)
  show wpAny _ _ (if ((items.size : Int) - 1 == 0 && (-1 : Int) == 1 && items.size == items.size) = true then _ else _) _ _ s
  rw [if_neg hno, pick_rev]
  first
    | exact wpAny_bind (m := Builtin.Tuple.tupleExact _) (wpAny_newObj_type (wpAny_pure ⟨_, rfl, wpAny_pure h⟩) htake)
    | exact wpAny_bind (m := Builtin.Tuple.tupleExact _) (wpAny_newObj_type (wpAny_bind (wpAny_pure (wpAny_pure ⟨_, rfl, wpAny_pure h⟩))) htake)
    | exact wpAny_bind (wpAny_bind (m := Builtin.Tuple.tupleExact _) (wpAny_newObj_type (wpAny_pure (wpAny_pure ⟨_, rfl, wpAny_pure h⟩)) htake))
    | exact wpAny_bind (wpAny_bind (m := Builtin.Tuple.tupleExact _) (wpAny_newObj_type (wpAny_pure ⟨_, rfl, wpAny_pure h⟩) htake))
end
end HT
namespace PD
open PySem PySem.Spec PyProof.Rows L2
/-- x[::-1], a list or a tuple -/
def tRev (K : PySem.W.Frag) (te ts : TE) : TE := fun σ H Q => te σ H fun x H1 => ts σ H1 fun y H2 => y = .int (-1) ∧ ∃ (a : Addr) (xs : List V), x = .ref a ∧ ((SqT K H2 a xs ∧ ∀ p, H2 p = none → Q (.ref p) (upd H2 p (.tup xs.reverse))) ∨ (SqL K H2 a xs ∧ ∀ p, H2 p = none → Q (.ref p) (upd H2 p (.lst xs.reverse))))
theorem vals_reverse {xs : List V} {us : List Value} (r : Vals xs us) : Vals xs.reverse us.reverse := by
  induction r with
  | nil => exact .nil
  | cons a b k =>
    rw [List.reverse_cons, List.reverse_cons]
    exact Vals.append k (.cons a .nil)
theorem pick_revL (its : List Value) : slicePick its.toArray none none (some (-1)) = its.reverse.toArray := by
  have e : sliceRange ((its.length : Int) - 1) (-1) (-1) = (List.range its.length).map fun (k : Nat) => ((its.length : Int) - 1 + (-1) * (k : Int)).toNat := by
    unfold sliceRange
    have : (if (-1 : Int) > 0 then (if (its.length : Int) - 1 < -1 then (-1 - ((its.length : Int) - 1) + -1 - 1) / -1 else 0) else (if (its.length : Int) - 1 > -1 then ((its.length : Int) - 1 - -1 - -1 - 1) / (- -1) else 0)).toNat = its.length := by
      rw [if_neg (by decide)]
      split
      · rw [show (- -1 : Int) = 1 by decide, Int.ediv_one]; omega
      · omega
    dsimp only
    rw [this]
  show ((sliceRange ((its.toArray.size : Int) - 1) (-1) (-1)).filterMap (its.toArray[·]?)).toArray = _
  rw [List.size_toArray, e, List.filterMap_map]
  congr 1
  have h := HT.range_pick its.reverse ((fun x => its.toArray[x]?) ∘ fun (k : Nat) => ((its.length : Int) - 1 + (-1) * (k : Int)).toNat) fun m hm => by
    rw [List.length_reverse] at hm
    rw [List.getElem?_reverse hm]
    show its.toArray[((its.length : Int) - 1 + (-1) * (m : Int)).toNat]? = _
    rw [show ((its.length : Int) - 1 + (-1) * (m : Int)).toNat = its.length - 1 - m by omega]
    simp
  rw [List.length_reverse] at h
  exact h
theorem pe_rev {X : Cx} {e : Expr} {te ts : TE} {j : Nat} {p1 p2 p3 pos : Pos} (he : PE X e te) (hst : PE X (.UnaryOp .USub (.Constant (.int 1) j p1) p2) ts) : PE X (.Subscript e (.Slice none none (some (.UnaryOp .USub (.Constant (.int 1) j p1) p2)) p3) pos) (tRev X.K te ts) := by
  refine ⟨fun pins s σ H Q I h => ?_⟩
  refine Subscript_ (thn (he.run pins s σ H _ I h) fun v s1 ⟨x, H1, I1, r1, q1⟩ => ?_)
  refine wpAny_Slice ?_
  rw [evalPart_none]
  refine wpAny_pure (wpAny_pure ?_)
  rw [evalPart_some]
  refine thn (hst.run pins s1 σ H1 _ I1 q1) fun u s2 ⟨y, H2, I2, r2, ey, a, xs, ex, q2⟩ => ?_
  subst ey ex
  cases r1
  obtain ⟨t, rfl⟩ := r2
  have I3 : Inv X pins σ H2 { s2 with heap := s2.heap.push { cls := .type "slice", data := .fields #[.none, .none, .int (-1) t] } } := I2.kept (t' := s2.toks) fun b ob q => Heap.get?_push_of_some _ q
  have hsl : (s2.heap.push { cls := .type "slice", data := .fields #[.none, .none, .int (-1) t] }).IsSliceOf s2.heap.objs.size .none .none (.int (-1) t) := Heap.IsSliceOf.new ..
  rcases q2 with ⟨hT, q2⟩ | ⟨hL, q2⟩
  · obtain ⟨its, r, ht, hz⟩ := I3.tuple hT
    have hl : its.length = xs.length := r.length.symm
    refine tail_any (ops := [.ref a, .ref s2.heap.objs.size]) ht.typeIs PyProof.Rows.slot_tuple_getitem.lookup ?_ (by with_unfolding_all rfl)
    refine HT.getItem_tuple_rev ht hsl ?_ (by rw [List.size_toArray, hl]; exact hz)
    refine ⟨.ref _, _, I3.laid (t' := s2.toks) (o := .tup xs.reverse) (fun b ob q => Heap.get?_push_of_some _ q) (Nat.le_refl _) ?_, rfl, q2 _ (I3.hok.fresh (Nat.le_refl _))⟩
    exact ⟨by rw [List.length_reverse]; exact hz, _, vals_reverse r, IsTup.new _ _⟩
  · obtain ⟨its, r, ht, hz⟩ := I3.list hL
    have hl : its.length = xs.length := r.length.symm
    refine tail_any (ops := [.ref a, .ref s2.heap.objs.size]) ht.isList.typeIs slot_list_getitem.lookup ?_ (by with_unfolding_all rfl)
    refine wpAny_getItem_list_slice ht.isList hsl .none .none (.int (-1) t) (by decide) ?_ (by rw [List.size_toArray, hl]; exact hz)
    rw [pick_revL]
    refine ⟨.ref _, _, I3.laid (t' := s2.toks) (o := .lst xs.reverse) (fun b ob q => Heap.get?_push_of_some _ q) (Nat.le_refl _) ?_, rfl, q2 _ (I3.hok.fresh (Nat.le_refl _))⟩
    exact ⟨by rw [List.length_reverse]; exact hz, _, 0, vals_reverse r, Heap.get?_push_size _ rfl⟩
def revD : D → Option D
  | .tuple ds => some (.tuple ds.reverse)
  | .list ds => some (.list ds.reverse)
  | _ => none
theorem Reps.reverse {K M H} : ∀ {vs ds}, Reps K M H vs ds → Reps K M H vs.reverse ds.reverse
  | _, _, .nil => .nil
  | _, _, .cons r t => by
    rw [List.reverse_cons, List.reverse_cons]
    exact (Reps.reverse t).append (.cons r .nil)
theorem pd_rev {X : Cx} {e : Expr} {ma : ME} {j : Nat} {p1 p2 p3 pos : Pos} (ha : PD X e ma) : PD X (.Subscript e (.Slice none none (some (.UnaryOp .USub (.Constant (.int 1) j p1) p2)) p3) pos) (mUn revD ma) := by
  obtain ⟨t, h1, s1⟩ := ha.ex
  refine ⟨_, pe_rev h1 (pe_un un_neg pe_int), fun F σ H ρ δ d δ' G e Q q => ?_⟩
  obtain ⟨⟨x, δ1⟩, e1, e⟩ := Option.bind_eq_some_iff.mp e
  obtain ⟨z, e3, e⟩ := Option.map_eq_some_iff.mp e
  cases e
  refine s1 F σ H ρ δ x δ1 G e1 _ fun v H1 G1 M1 R1 => ?_
  refine ⟨1, rfl, rfl, ?_⟩
  dsimp only at e3
  unfold revD at e3
  split at e3
  · cases e3
    cases R1 with
    | tup ha r => exact ⟨_, _, rfl, .inl ⟨ha.sq, fun p hp => q _ _ (G1.keep (upd_keeps hp)) (M1.trans (Mv.same (upd_keeps hp))) (.tup (.inl ⟨G1.mfree hp, .inl upd_same⟩) ((r.reverse).mv (Mv.same (upd_keeps hp))))⟩⟩
  · cases e3
    cases R1 with
    | lst ha r => exact ⟨_, _, rfl, .inr ⟨ha.sq, fun p hp => q _ _ (G1.keep (upd_keeps hp)) (M1.trans (Mv.same (upd_keeps hp))) (.lst ⟨G1.mfree hp, upd_same⟩ ((r.reverse).mv (Mv.same (upd_keeps hp))))⟩⟩
  · cases e3
end PD

namespace PD
open PySem PySem.Spec PyProof.Rows L2
/-! ### repr of data with empty dicts, and no lists -/
mutual
def noL : D → Bool
  | .list _ => false
  | .tuple ds => noLs ds
  | .dict es => es.isEmpty
  | _ => true
def noLs : List D → Bool
  | [] => true
  | d :: ds => noL d && noLs ds
end
mutual
theorem Rep.reads2 {X : Cx} {pins : List (Addr × Obj)} {σ : L2.St} {H : Hp} {s : Shared} {M : Addr → Prop} (I : Inv X pins σ H s) : ∀ {v : V} {d : D} {u : Value}, Rep X.K M H v d → noL d = true → RelV v u → ∃ as, Reads s.heap u d as ∧ sysModules ∉ as
  | _, _, _, .non, _, r => ⟨[], by cases r; exact .none, by simp⟩
  | _, _, _, .bl b, _, r => ⟨[], by cases r; exact .bool b, by simp⟩
  | _, _, _, .int i, _, r => ⟨[], by obtain ⟨t, rfl⟩ := r; exact .int i t, by simp⟩
  | _, _, _, .str x, _, r => ⟨[], by obtain ⟨t, rfl⟩ := r; exact .str x t, by simp⟩
  | _, _, _, .lst _ _, hd, _ => by simp [noL] at hd
  | _, _, _, .tup (a := a) (xs := xs) (ds := ds) ha rs, hd, r => by
    cases r
    obtain ⟨its, rv, ⟨o, e1, e2, n, e3⟩, _⟩ := I.tuple ha.sq
    obtain ⟨as, ra, rb⟩ := Reps.reads2 I rs (by simpa [noL] using hd) rv
    exact ⟨_, .tuple e1 e2 e3 (by simpa using ra), rb⟩
  | _, _, _, .dic (a := a) (kvs := kvs) (es := es) n hr rk, hd, r => by
    cases r
    have : es = [] := by simpa [noL] using hd
    subst this
    cases rk
    obtain ⟨_, hs, vs, kv, o, es, ep, h1, h2, h3, h4, h5, h6⟩ := dk_rd I.hok hr
    cases kv
    have he : es.toList = [] := by
      cases hl : es.toList with
      | nil => rfl
      | cons x l => rw [hl] at h5; cases h5
    exact ⟨_, .dict (kvs := []) h1 h2.1 h3 (by rw [he]; exact .nil) (by rw [he]; exact .nil), by
      intro z
      simp at z
      subst z
      simp at hs⟩
theorem Reps.reads2 {X : Cx} {pins : List (Addr × Obj)} {σ : L2.St} {H : Hp} {s : Shared} {M : Addr → Prop} (I : Inv X pins σ H s) : ∀ {vs : List V} {ds : List D} {us : List Value}, Reps X.K M H vs ds → noLs ds = true → Vals vs us → ∃ as, ReadsAll s.heap us ds as ∧ sysModules ∉ as
  | _, _, _, .nil, _, .nil => ⟨[], .nil, by simp⟩
  | _, _, _, .cons r t, hd, .cons rv tv => by
    simp only [noLs, Bool.and_eq_true] at hd
    obtain ⟨as, ra, na⟩ := Rep.reads2 I r hd.1 rv
    obtain ⟨bs, rb, nb⟩ := Reps.reads2 I t hd.2 tv
    exact ⟨_, .cons ra rb, by rw [List.mem_append]; exact fun z => z.elim na nb⟩
end
structure ShowOk2 (d : D) : Prop where
  s : d.showable = true
  n : noL d = true
  p : d.depth ≤ 60
  z : d.shown.length ≤ sizeLine
def rRepr2 (K : PySem.W.Frag) : List V → Hp → VK → Prop := fun xs H Q => ∃ (M : Addr → Prop) (d : D) (x : V), xs = [x] ∧ Rep K M H x d ∧ (ShowOk d ∨ ShowOk2 d) ∧ Q (.str d.shown) H
theorem call_reprD2 {X : Cx} (hg : X.A.guards = some []) (hu : X.A.units + 65 < cLine) : CallR X (.builtin "repr") (rRepr2 X.K) := by
  intro pins s σ H xs us Q I r h
  obtain ⟨M, d, x, rfl, rp, ok, q⟩ := h
  rcases ok with ok | ok
  · exact call_reprD hg hu pins s σ H [x] us Q I r ⟨M, d, x, rfl, rp, ok, q⟩
  · obtain ⟨u, rfl, rv⟩ := vals1 r
    have hq : ∀ (h' : Heap) (t : Tok) (tk : Nat), (∀ b o, s.heap.get? b = some o → h'.get? b = some o) → EP X pins σ Q (.str d.shown t) { s with heap := h', toks := tk } := fun h' t tk k => ⟨.str d.shown, H, I.kept k, ⟨t, rfl⟩, q⟩
    obtain ⟨as, rd, na⟩ := rp.reads2 I ok.n rv
    have byRef : ∀ a, u = .ref a → wpAny (model X.prog X.w) X.A (call (.builtin "repr") [u]) (EP X pins σ Q) X.xe s := fun a e => by
      subst e
      exact PySem.repr_of_reads' rd ok.s (fun _ => na) hg (by have := ok.p; omega) (fun _ _ e => e) hq ok.z
    cases rp with
    | non =>
      cases rv
      exact PySem.P.repr_of_none (hq _ _ _ fun _ _ e => e)
    | bl b =>
      cases rv
      have := hq s.heap s.toks (s.toks + 1) fun _ _ e => e
      cases b <;> exact PySem.P.repr_of_bool this
    | int i =>
      obtain ⟨t, rfl⟩ := rv
      exact PySem.P.repr_of_int (of_decide_eq_true (by simpa [PyData.showable] using ok.s)) (hq _ _ _ fun _ _ e => e)
    | str y =>
      obtain ⟨t, rfl⟩ := rv
      exact PySem.P.repr_of_str (hq _ _ _ fun _ _ e => e) ok.z
    | lst ha rs => exact byRef _ rv
    | tup ha rs => exact byRef _ rv
    | dic a b c => exact byRef _ rv
instance (d : D) : Decidable (ShowOk2 d) := decidable_of_iff (d.showable = true ∧ noL d = true ∧ d.depth ≤ 60 ∧ d.shown.length ≤ sizeLine) ⟨fun h => ⟨h.1, h.2.1, h.2.2.1, h.2.2.2⟩, fun h => ⟨h.1, h.2, h.3, h.4⟩⟩
def reprD2 : List D → Option D
  | [d] => if ShowOk d ∨ ShowOk2 d then some (.str d.shown) else none
  | _ => none
theorem cs_repr2 {K} : CallS K (rRepr2 K) reprD2 := fun F σ H ρ δ xs ds z G R hz Q q => by
  unfold reprD2 at hz
  split at hz
  · rename_i d
    split at hz
    · rename_i ok
      cases hz
      obtain ⟨v, rfl, r⟩ := reps1 R
      exact ⟨_, d, v, rfl, r, ok, q _ _ (fun _ _ e => e) (.str _)⟩
    · cases hz
  · cases hz
section
variable {X : Cx} {e : Expr} {es : List Expr} {r : MA} {p pos : Pos}
theorem pd_repr2 (hm : X.mg "repr" = none) (hgd : X.A.guards = some []) (hu : X.A.units + 65 < cLine) (ha : PDA X (e :: es) r) (hg : Gl X "repr" := by rfl) (he : starEach (e :: es) X.env = (false, eval e X.env) :: starEach es X.env := by rfl) (hpl : (backTo pos (starEach es X.env)).any (·.1) = false := by rfl) : PD X (.Call (.Name "repr" p) (e :: es) [] pos) (mCall reprD2 r) :=
  pd_cb (by decide +kernel) (call_reprD2 hgd hu) cs_repr2 ha hg hm (by decide) (by decide) he hpl
end
end PD

namespace PD
open PySem PySem.Spec PyProof.Rows L2
theorem w1_fnPF {n np : Nat} {a : Addr} {s : MS} {ds : List D} {P : D → Prop} (h : WS s (slots n (ds.map .val ++ [.fn a])) ⟨[], 0, [], none⟩ (onRt fun d _ => P d)) (hl : ds.length + 1 = np ∧ np ≤ n := by exact ⟨rfl, by decide⟩) : W1 (fnPF n np a s ds) P := by
  obtain ⟨f, ρ', δ', e, p⟩ := h
  unfold fnPF
  rw [if_pos hl, e]
  cases f with
  | nx => exact ⟨_, rfl, p⟩
  | rt d => exact ⟨_, rfl, p⟩
  | bk => exact p.elim
  | ct => exact p.elim
/-- {} as data -/
theorem pd_dict0 {X : Cx} {pos : Pos} : PD X (.Dict [] [] pos) (mC (.dict [])) := by
  refine ⟨_, pe_dnewK, fun F σ H ρ δ d δ' G e Q q => ?_⟩
  cases e
  intro p hp
  exact q _ _ (G.keep (upd_keeps hp)) (Mv.same (upd_keeps hp)) (.dic (G.mfree hp) (.inl upd_same) .nil)
end PD

set_option maxHeartbeats 4000000
namespace PD
open PySem PySem.Spec PyProof.Rows L2
/-! ### an empty tuple taken twice -/
theorem tuple_mulE (l : Addr) (items : Array Value) (n : Nat) (dd : Option Addr) (sl : Array (Option Value)) (u : Tok) (c1 : (items.isEmpty || (2 : Int) == 1) = true) :
    Meets (Builtin.«tuple.__mul__» ⟨[.ref l, .int 2 u], []⟩) (fun _ R s => s.heap.get? l = some { cls := .type "tuple", dict := dd, data := .seq items n, slots := sl } ∧
      R (.ok (.ret (Value.ref l))) s) :=
  .of_wp fun prog w A R s h => by
    obtain ⟨hp, g, d, tk, os⟩ := s
    obtain ⟨hl, h⟩ := h
    have f1 := AutoSeq1.idx_int
    wp_walk using wpAny_loadPart' hl
    refine wpAny_ite_true (decide_eq_true (by rw [c1])) ?_
    wp_walk using wpAny_loadPart' hl
    exact ⟨_, rfl, h⟩
def rRepE (K : PySem.W.Frag) : R2 := fun x y H Q => ∃ l, x = .ref l ∧ SqT K H l [] ∧ y = .int 2 ∧ Q (.ref l) H
theorem op_repE {X : Cx} : OpR X (binaryOp .Mult) (rRepE X.K) := by
  intro pins s σ H x y v u Q I rx ry h
  obtain ⟨l, rfl, hT, rfl, q⟩ := h
  cases rx
  obtain ⟨its, r, ⟨⟨cls, dd, data, sl⟩, ho, hc, n, hd⟩, hs⟩ := I.tuple hT
  simp only at hc hd
  subst hc hd
  cases r
  obtain ⟨t, rfl⟩ := ry
  exact wpAny_binaryOp_repeat_ref (T := "tuple") (U := "int") (by decide) ⟨_, ho, rfl⟩ (fun s' => typeIs_int s' 2 t) noFill_tuple_mul F.fills_int_mul F.slot_int_rmul repeat_tuple F.slot_int_index.lookup
    (call_meets F.slot_int_rmul (typeIs_int s 2 t) F.entry_int_rmul (F.args_int_rmul_2 _ _) (int_rmul_tuple 2 t l _ n dd sl)
      ⟨ho, rfl, ⟨_, ho, rfl⟩, call_meets F.slot_tuple_mul ⟨_, ho, rfl⟩ F.entry_tuple_mul (F.args_tuple_mul_2 _ _) (tuple_mulE l _ n dd sl t rfl) ⟨ho, ⟨.ref l, H, I, rfl, q⟩⟩⟩)
def mulE : D → D → Option D
  | .tuple [], .int 2 => some (.tuple [])
  | _, _ => none
theorem ops_mulE {K} : OpS K (rRepE K) mulE := fun F σ H ρ δ x y d e z G rx ry hz Q q => by
  unfold mulE at hz
  split at hz
  · cases hz
    cases ry
    cases rx with
    | tup ha r =>
      cases r
      exact ⟨_, rfl, ha.sq, rfl, q _ H (fun _ _ h => h) (.tup ha .nil)⟩
  · cases hz
def mulD4 : D → D → Option D := fun d e => (mulT d e).orElse fun _ => mulE d e
theorem pd_mul4 {X : Cx} {a b : Expr} {ma mb : ME} {pos : Pos} (ha : PD X a ma) (hb : PD X b mb) : PD X (.BinOp a .Mult b pos) (mBin mulD4 ma mb) :=
  PD.op (OpR.or op_repT op_repE) (OpS.or ops_mulT ops_mulE) ha hb
end PD

namespace PD
open PySem PySem.Spec PyProof.Rows L2 TL
/-! ### a text taken n times -/
def repS (x : Str) (k : Nat) : Str := if x.length = 0 then x else ⟨(List.replicate k x.cps).foldl (· ++ ·) #[]⟩
def rMulS : R2 := fun x y H Q => ∃ a k, x = .str a ∧ y = .int k ∧ 2 ≤ k ∧ k ≤ 1000 ∧ a.length ≤ 1000 ∧ Q (.str (repS a k.toNat)) H
theorem foldl_app : ∀ (l : List (Array Nat)) (a : Array Nat), (l.foldl (· ++ ·) a).toList = a.toList ++ (l.map (·.toList)).flatten
  | [], a => by simp
  | x :: l, a => by rw [List.foldl_cons, foldl_app l]; simp
theorem tl_rep (x : Str) (k : Nat) : tl (repS x k) = (List.replicate k (tl x)).flatten := by
  unfold repS
  split
  · rename_i h
    rw [len_tl] at h
    have : tl x = [] := List.length_eq_zero_iff.mp h
    rw [this]
    symm
    simp
  · show ((List.replicate k x.cps).foldl (· ++ ·) #[]).toList = _
    rw [foldl_app]
    simp [tl]
theorem op_mulS {X : Cx} : OpR X (binaryOp .Mult) rMulS := by
  intro pins s σ H x y v u Q I rx ry h
  obtain ⟨a, k, rfl, rfl, h2, h3, h4, q⟩ := h
  obtain ⟨t, rfl⟩ := rx
  obtain ⟨t', rfl⟩ := ry
  have e1 : ¬ k < 1 := by omega
  have sb : (1000000 : Nat) ≤ sizeLine := by decide
  have hle : a.length * k.toNat ≤ 1000 * 1000 := Nat.mul_le_mul h4 (by omega)
  refine PySem.P.mul_str ?_ (fun _ _ => ?_) (fun _ _ => ?_) ?_
  · rw [decide_eq_false (show ¬ k < -(2 ^ 63 : Int) by omega), decide_eq_false (show ¬ k ≥ 2 ^ 63 by omega)]; rfl
  · have : (1000 : Int) ≤ (2 ^ 63 - 1) / k := by
      rw [Int.le_ediv_iff_mul_le (by omega)]
      omega
    omega
  · exact decide_eq_false (by omega)
  · rw [if_neg e1]
    have e2 : (k == 1) = false := by
      rw [beq_eq_false_iff_ne]; omega
    rw [e2, Bool.false_or]
    unfold repS at q
    by_cases h0 : a.length = 0
    · rw [if_pos h0] at q
      rw [if_pos (by rw [h0]; rfl)]
      exact ⟨.str a, H, I, ⟨_, rfl⟩, q⟩
    · rw [if_neg h0] at q
      rw [if_neg (by simpa using h0)]
      refine ⟨?_, ⟨.str _, H, I.tok _, ⟨_, rfl⟩, q⟩⟩
      have hl : (⟨(List.replicate k.toNat a.cps).foldl (· ++ ·) #[]⟩ : Str).length = a.length * k.toNat := by
        have e := tl_rep a k.toNat
        unfold repS at e
        rw [if_neg h0] at e
        rw [len_tl, e, List.length_flatten, List.map_replicate, List.sum_replicate_nat, len_tl, Nat.mul_comm]
      rw [hl]
      omega
def mulS : D → D → Option D
  | .str a, .int k => if 2 ≤ k ∧ k ≤ 1000 ∧ a.length ≤ 1000 then some (.str (repS a k.toNat)) else none
  | _, _ => none
theorem ops_mulS {K} : OpS K rMulS mulS := fun F σ H ρ δ x y d e z G rx ry hz Q q => by
  unfold mulS at hz
  split at hz
  · split at hz
    · rename_i h
      cases hz
      cases ry
      cases rx
      exact ⟨_, _, rfl, rfl, h.1, h.2.1, h.2.2, q _ _ (fun _ _ e => e) (.str _)⟩
    · cases hz
  · cases hz
theorem pd_mulS {X : Cx} {a b : Expr} {ma mb : ME} {pos : Pos} (ha : PD X a ma) (hb : PD X b mb) : PD X (.BinOp a .Mult b pos) (mBin mulS ma mb) := PD.op op_mulS ops_mulS ha hb
/-! ### upper -/
def upperD : D → Option D
  | .str x => if x.length ≤ 5592405 then some (.str (Txt.upper x)) else none
  | _ => none
theorem pd_upper {X : Cx} {a : Expr} {ma : ME} {pos apos : Pos} (ha : PD X a ma) (hbase : attributeBase a "upper" X.env (eval a X.env) = eval a X.env := by rfl) (hline : (apos.endLine == pos.line) = true := by rfl) :
    PD X (.Call (.Attribute a "upper" apos) [] [] pos) (mUn upperD ma) := by
  obtain ⟨ta, h1, s1⟩ := ha.ex
  refine ⟨_, pe_upper h1 hbase hline, fun F σ H ρ δ d δ' G e Q q => ?_⟩
  obtain ⟨⟨x, δ1⟩, e1, e⟩ := Option.bind_eq_some_iff.mp e
  obtain ⟨z, e3, e⟩ := Option.map_eq_some_iff.mp e
  cases e
  refine s1 F σ H ρ δ x δ1 G e1 _ fun v H1 G1 M1 R1 => ?_
  dsimp only at e3
  unfold upperD at e3
  split at e3
  · split at e3
    · rename_i hz
      cases e3
      cases R1
      exact ⟨⟨_, rfl⟩, _, rfl, rfl, hz, q _ _ G1 M1 (.str _)⟩
    · cases e3
  · cases e3
end PD

namespace PD
open PySem PySem.Spec PyProof.Rows L2 TL
/-! ### the first draw's deck -/
def absO (i : Int) : Int := if i < 0 then -i else i
def deckO (ns : List Int) : Dk := ⟨(ns.take 63).map absO, 0, [], none⟩
theorem snd_deckO {K : PySem.W.Frag} {H : Hp} {a : Addr} {ns : List Int} {Q : VK} (hS : SqL K H a (ns.map V.int)) (q : ∀ (p : DP) H', Same H H' → DeckAt H' p (deckO ns) → Q (.ref p.1) H') :
    tRet (tLst (tCons (tLc (iList K (tSl (rSlL K) (tVar 0) tNoPart (tPart (tC (.int 63))))) (gName 1) tYes (tCB (fun xs H Q => ∃ i, xs = [.int i] ∧ Q (.int (if i < 0 then -i else i)) H) (tCons (tVar 1) tNil)) [1]) (tCons (tC (.int 0)) tNil))) { nx := fun _ H' => Q .non H', rt := Q } [some (.ref a), none] H := by
  refine ⟨.ref a, rfl, 63, rfl, a, _, rfl, hS, fun s hs => ?_⟩
  have e63 : cutV (ns.map V.int) none (some 63) = (ns.take 63).map V.int := by rw [cut63, List.map_take]
  rw [e63]
  have hSl : SqL K (upd H s (.lst ((ns.take 63).map V.int))) s ((ns.take 63).map V.int) := SqL.of upd_same
  refine ⟨s, rfl, ⟨_, hSl⟩, fun c hc => ?_⟩
  have ncs : s ≠ c := ne_of_none (show (upd H s (.lst ((ns.take 63).map V.int))) s = some _ from upd_same) hc
  refine lc_list (xs := (ns.take 63).map V.int) (fun i H2 => Same H H2 ∧ H2 s = some (.lst ((ns.take 63).map V.int)) ∧ H2 c = some (.lst ((((ns.take 63).map absO).take i).map V.int))) ⟨(same_new hs).trans (same_new hc), by rw [upd_ne ncs, upd_same], by rw [upd_same]; rfl⟩ (fun i H2 _ h => SqL.of h.2.1) (fun i x H2 hx h => ?_) (fun H2 h => ?_)
  · obtain ⟨h1, h2, h3⟩ := h
    rw [List.getElem?_map] at hx
    obtain ⟨n, hn, rfl⟩ := Option.map_eq_some_iff.mp hx
    refine ⟨rfl, ?_⟩
    simp only [tYes, ↓reduceIte]
    refine ⟨.int n, rfl, n, rfl, _, h3, ?_, fun b o e => ?_, ?_, ?_⟩
    · simp only [List.length_map, List.length_take]
      exact Nat.lt_of_le_of_lt (Nat.le_trans (Nat.min_le_right _ _) (Nat.min_le_left _ _)) (by decide)
    · have hb : b ≠ c := ne_of_none (same_new hs b o e) hc
      rw [upd_ne hb]
      exact h1 b o e
    · rw [upd_ne ncs]; exact h2
    · rw [upd_same, List.take_add_one (l := (ns.take 63).map absO) (i := i), List.getElem?_map, hn, List.map_append]
      rfl
  · obtain ⟨h1, h2, h3⟩ := h
    have ei : ((ns.take 63).map absO).take ((ns.take 63).map V.int).length = (ns.take 63).map absO := List.take_of_length_le (by simp)
    rw [ei] at h3
    refine ⟨by show 2 ≤ sizeLine; decide, fun d hd => ?_⟩
    have ncd : c ≠ d := ne_of_none h3 hd
    have nsd : s ≠ d := ne_of_none h2 hd
    exact q ⟨d, s, c, (ns.take 63).map V.int⟩ _ (h1.trans (same_new hd)) (DeckO.at ⟨nsd.symm, ncd.symm, ncs, upd_same, by show upd H2 d _ s = _; rw [upd_ne nsd]; exact h2, by show upd H2 d _ c = _; rw [upd_ne ncd]; exact h3⟩ rfl)
/-! ### the first draw -/
def drawOk (δ : Dk) (many : Int) : Bool := decide (0 < many ∧ many ≤ 10000000000000 ∧ δ.rests = [] ∧ 0 ≤ δ.k ∧ δ.k ≤ 900000000)
def atO (δ : Dk) : Nat := ((δ.k + 1) % (δ.cells.length : Int)).toNat
def mixO (c k : Int) : Int := (c % 2147483587 + 7919 * k + 1) ^ (5 : Int).toNat % 2147483647
def drawOf (δ : Dk) (many : Int) : Int × Dk :=
  let c := δ.cells.getD (atO δ) 0
  if (10 : Int) ^ (18 : Int).toNat ≤ c then (c % many, ⟨δ.cells.set (atO δ) (c / many), δ.k + 1, δ.rests, δ.lft⟩) else (mixO c (δ.k + 1) % many, ⟨δ.cells, δ.k + 1, δ.rests, δ.lft⟩)
def fDraw : List D → Dk → Option (D × Dk)
  | [.int many], δ => if drawOk δ many then some (.int (drawOf δ many).1, (drawOf δ many).2) else none
  | _, _ => none
structure DkO (b : Nat) (δ : Dk) : Prop where
  k0 : 0 ≤ δ.k
  k1 : δ.k ≤ b
  r0 : δ.rests = []
theorem DkO.mono {b c : Nat} {δ : Dk} (h : DkO b δ) (hb : b ≤ c) : DkO c δ := ⟨h.k0, by have := h.k1; omega, h.r0⟩
theorem DkO.start (ns : List Int) : DkO 0 (deckO ns) := ⟨Int.le_refl 0, Int.le_refl 0, rfl⟩
theorem draw_wp {b : Nat} {δ : Dk} {many : Int} {P : D → Dk → Prop} (h : DkO b δ) (hb : b ≤ 900000000) (h0 : 0 < many) (h1 : many ≤ 10000000000000) (p : ∀ r δ', 0 ≤ r → r < many → DkO (b + 1) δ' → P (.int r) δ') : WK fDraw [.int many] δ P := by
  have hk := h.k1
  have ok : drawOk δ many = true := decide_eq_true ⟨h0, h1, h.r0, h.k0, by omega⟩
  have rd : ∀ x : Int, 0 ≤ x % many ∧ x % many < many := fun x => ⟨Int.emod_nonneg _ (by omega), Int.emod_lt_of_pos _ h0⟩
  refine ⟨_, _, if_pos ok, ?_⟩
  have hk0 := h.k0
  unfold drawOf
  dsimp only
  split
  · exact p _ _ (rd _).1 (rd _).2 ⟨show 0 ≤ δ.k + 1 by omega, show δ.k + 1 ≤ ((b + 1 : Nat) : Int) by omega, h.r0⟩
  · exact p _ _ (rd _).1 (rd _).2 ⟨show 0 ≤ δ.k + 1 by omega, show δ.k + 1 ≤ ((b + 1 : Nat) : Int) by omega, h.r0⟩
end PD

namespace PD
open PySem PySem.Spec PyProof.Rows L2 TL
/-! ### x = a + b, the list is x's own from there -/
def sUniA (i : Nat) (ma mb : ME) : MS := fun ρ δ => (ma ρ δ).bind fun p => (mb ρ p.2).bind fun q => (catL p.1 q.1).bind fun z => match z with
  | .list ds => if i < ρ.length then some (.nx, ρ.set i (.uni ds), q.2) else none
  | _ => none
theorem pds_uniA (i : Nat) {X : Cx} {a b : Expr} {ma mb : ME} {pos : Pos} {x : Str} {pos' p2 : Pos} (hN : X.N.Nodup) (ha : PD X a ma) (hb : PD X b mb) (hi : X.N[i]? = some x := by rfl) (hx : Loc X.env.scope x := by first | exact Or.inl rfl | exact Or.inr rfl) (hs : swapsWith (.BinOp a .Add b p2) (some (.Name x pos')) pos.line X.env = pure false := by rfl) (hf : X.fn x = true ∨ X.env.scope.names.lookup x = some .local := by first | exact .inl rfl | exact .inr rfl | assumption) :
    PDS X (.Assign [.Name x pos'] (.BinOp a .Add b p2) pos) (sUniA i ma mb) := by
  obtain ⟨ta, h1, s1⟩ := ha.ex
  obtain ⟨tb, h2, s2⟩ := hb.ex
  refine ⟨_, ps_set hN hi hx (pe_op op_cat h1 h2) hs hf, fun F σ H ρ δ fl ρ' δ' G e D q => ?_⟩
  obtain ⟨⟨d, δ1⟩, e1, e⟩ := Option.bind_eq_some_iff.mp e
  obtain ⟨⟨d2, δ2⟩, e2, e⟩ := Option.bind_eq_some_iff.mp e
  obtain ⟨z, e3, e⟩ := Option.bind_eq_some_iff.mp e
  dsimp only at e1 e2 e3 e
  unfold catL at e3
  split at e3
  · rename_i xs ys
    split at e3
    · rename_i hz
      cases e3
      dsimp only at e
      split at e
      · rename_i hl
        cases e
        refine s1 F σ H ρ δ _ _ G e1 _ fun v H1 G1 M1 R1 => ?_
        refine s2 F σ H1 ρ δ1 _ _ G1 e2 _ fun u H2 G2 M2 R2 => ?_
        replace R1 := R1.mv M2
        cases R1 with
        | @lst a vs _ ha r1 =>
          cases R2 with
          | @lst b ws _ hb r2 =>
            refine ⟨_, _, _, _, rfl, rfl, ha.2, hb.2, by rw [r1.length, r2.length]; exact hz, fun p hp => ?_⟩
            obtain ⟨G3, M3⟩ := G2.uniNew i hl hp (r1.append r2)
            exact q _ _ G3 ((M1.trans M2).trans M3)
      · cases e
    · cases e3
  · cases e3
theorem ws_uniA {ρ : List Sl} {δ : Dk} {i : Nat} {ma mb : ME} {P : Fl → List Sl → Dk → Prop} : WS (sUniA i ma mb) ρ δ P ↔ WE ma ρ δ fun d δ1 => WE mb ρ δ1 fun e δ2 => W1 (catL d e) fun z => ∃ ds, z = .list ds ∧ i < ρ.length ∧ P .nx (ρ.set i (.uni ds)) δ2 := by
  constructor
  · rintro ⟨f, ρ', δ', e, p⟩
    obtain ⟨⟨d, δ1⟩, e1, e⟩ := Option.bind_eq_some_iff.mp e
    obtain ⟨⟨d2, δ2⟩, e2, e⟩ := Option.bind_eq_some_iff.mp e
    obtain ⟨z, e3, e⟩ := Option.bind_eq_some_iff.mp e
    dsimp only at e e3 e2
    split at e
    · split at e
      · rename_i hz; cases e; exact ⟨_, _, e1, _, _, e2, _, e3, _, rfl, hz, p⟩
      · cases e
    · cases e
  · rintro ⟨d, δ1, e1, d2, δ2, e2, z, e3, ds, rfl, hz, p⟩
    refine ⟨_, _, _, ?_, p⟩
    unfold sUniA
    rw [e1]
    show (mb ρ δ1).bind _ = _
    rw [e2]
    show (catL d d2).bind _ = _
    rw [e3]
    exact if_pos hz
end PD

namespace PD
open PySem PySem.Spec PyProof.Rows L2
/-! ### repr of data with dicts that hold entries, and no lists -/
mutual
def noL3 : D → Bool
  | .list _ => false
  | .tuple ds => noL3s ds
  | .dict es => noL3k es
  | _ => true
def noL3s : List D → Bool
  | [] => true
  | d :: ds => noL3 d && noL3s ds
def noL3k : List (D × D) → Bool
  | [] => true
  | (_, d) :: es => noL3 d && noL3k es
end
theorem key_reads {P : Program} {w : World} {h : Heap} {k : Key} {u : Value} (e : (mixKind P w).is k u = true) : Reads h u (keyD k) [] := by
  rcases keyIs_shape e with ⟨i, t, rfl, rfl⟩ | ⟨x, t, rfl, rfl⟩
  · exact .int i t
  · exact .str x t
mutual
theorem Rep.reads3 {X : Cx} {pins : List (Addr × Obj)} {σ : L2.St} {H : Hp} {s : Shared} {M : Addr → Prop} (I : Inv X pins σ H s) : ∀ {v : V} {d : D} {u : Value}, Rep X.K M H v d → noL3 d = true → RelV v u → ∃ as, Reads s.heap u d as ∧ sysModules ∉ as
  | _, _, _, .non, _, r => ⟨[], by cases r; exact .none, by simp⟩
  | _, _, _, .bl b, _, r => ⟨[], by cases r; exact .bool b, by simp⟩
  | _, _, _, .int i, _, r => ⟨[], by obtain ⟨t, rfl⟩ := r; exact .int i t, by simp⟩
  | _, _, _, .str x, _, r => ⟨[], by obtain ⟨t, rfl⟩ := r; exact .str x t, by simp⟩
  | _, _, _, .lst _ _, hd, _ => by simp [noL3] at hd
  | _, _, _, .tup (a := a) (xs := xs) (ds := ds) ha rs, hd, r => by
    cases r
    obtain ⟨its, rv, ⟨o, e1, e2, n, e3⟩, _⟩ := I.tuple ha.sq
    obtain ⟨as, ra, rb⟩ := Reps.reads3 I rs (by simpa [noL3] using hd) rv
    exact ⟨_, .tuple e1 e2 e3 (by simpa using ra), rb⟩
  | _, _, _, .dic (a := a) (kvs := kvs) (es := es) n hr rk, hd, r => by
    cases r
    obtain ⟨_, hs, vs, kv, o, es, ep, h1, h2, h3, h4, h5, h6⟩ := dk_rd I.hok hr
    obtain ⟨bs, ra, rb, nb⟩ := RepK.reads3 I rk (by simpa [noL3] using hd) kv h5
    exact ⟨_, .dict h1 h2.1 h3 ra rb, by
      intro z
      simp at z
      rcases z with z | z
      · subst z
        simp at hs
      · exact nb z⟩
theorem Reps.reads3 {X : Cx} {pins : List (Addr × Obj)} {σ : L2.St} {H : Hp} {s : Shared} {M : Addr → Prop} (I : Inv X pins σ H s) : ∀ {vs : List V} {ds : List D} {us : List Value}, Reps X.K M H vs ds → noL3s ds = true → Vals vs us → ∃ as, ReadsAll s.heap us ds as ∧ sysModules ∉ as
  | _, _, _, .nil, _, .nil => ⟨[], .nil, by simp⟩
  | _, _, _, .cons r t, hd, .cons rv tv => by
    simp only [noL3s, Bool.and_eq_true] at hd
    obtain ⟨as, ra, na⟩ := Rep.reads3 I r hd.1 rv
    obtain ⟨bs, rb, nb⟩ := Reps.reads3 I t hd.2 tv
    exact ⟨_, .cons ra rb, by rw [List.mem_append]; exact fun z => z.elim na nb⟩
theorem RepK.reads3 {X : Cx} {pins : List (Addr × Obj)} {σ : L2.St} {H : Hp} {s : Shared} {M : Addr → Prop} (I : Inv X pins σ H s) : ∀ {kvs : List (Key × V)} {es : List (D × D)} {vs : List (Key × Value)} {ns : List DictEntry}, RepK X.K M H kvs es → noL3k es = true → KV kvs vs → Pairs (mixKind X.prog X.w) ns vs →
    ∃ bs, ReadsAll s.heap (ns.map (·.key)) (es.map (·.1)) [] ∧ ReadsAll s.heap (ns.map (·.val)) (es.map (·.2)) bs ∧ sysModules ∉ bs
  | _, _, _, ns, .nil, _, .nil, p => by
    cases p
    exact ⟨[], .nil, .nil, by simp⟩
  | _, _, _, ns, .cons r t, hd, .cons rv tv, p => by
    simp only [noL3k, Bool.and_eq_true] at hd
    obtain ⟨e1, rv⟩ := rv
    cases p with
    | cons hk hval hrest =>
      simp only at e1 rv
      subst e1
      obtain ⟨as, ra, na⟩ := Rep.reads3 I r hd.1 rv
      obtain ⟨bs, rk, rb, nb⟩ := RepK.reads3 I t hd.2 tv hrest
      exact ⟨as ++ bs, .cons (as := []) (key_reads hk) rk, .cons (by rw [← hval] at ra; exact ra) rb, by rw [List.mem_append]; exact fun z => z.elim na nb⟩
end
structure ShowOk3 (d : D) : Prop where
  s : d.showable = true
  n : noL3 d = true
  p : d.depth ≤ 60
  z : d.shown.length ≤ sizeLine
def rRepr3 (K : PySem.W.Frag) : List V → Hp → VK → Prop := fun xs H Q => ∃ (M : Addr → Prop) (d : D) (x : V), xs = [x] ∧ Rep K M H x d ∧ (ShowOk d ∨ ShowOk3 d) ∧ Q (.str d.shown) H
theorem call_reprD3 {X : Cx} (hg : X.A.guards = some []) (hu : X.A.units + 65 < cLine) : CallR X (.builtin "repr") (rRepr3 X.K) := by
  intro pins s σ H xs us Q I r h
  obtain ⟨M, d, x, rfl, rp, ok, q⟩ := h
  rcases ok with ok | ok
  · exact call_reprD hg hu pins s σ H [x] us Q I r ⟨M, d, x, rfl, rp, ok, q⟩
  · obtain ⟨u, rfl, rv⟩ := vals1 r
    have hq : ∀ (h' : Heap) (t : Tok) (tk : Nat), (∀ b o, s.heap.get? b = some o → h'.get? b = some o) → EP X pins σ Q (.str d.shown t) { s with heap := h', toks := tk } := fun h' t tk k => ⟨.str d.shown, H, I.kept k, ⟨t, rfl⟩, q⟩
    obtain ⟨as, rd, na⟩ := rp.reads3 I ok.n rv
    have byRef : ∀ a, u = .ref a → wpAny (model X.prog X.w) X.A (call (.builtin "repr") [u]) (EP X pins σ Q) X.xe s := fun a e => by
      subst e
      exact PySem.repr_of_reads' rd ok.s (fun _ => na) hg (by have := ok.p; omega) (fun _ _ e => e) hq ok.z
    cases rp with
    | non =>
      cases rv
      exact PySem.P.repr_of_none (hq _ _ _ fun _ _ e => e)
    | bl b =>
      cases rv
      have := hq s.heap s.toks (s.toks + 1) fun _ _ e => e
      cases b <;> exact PySem.P.repr_of_bool this
    | int i =>
      obtain ⟨t, rfl⟩ := rv
      exact PySem.P.repr_of_int (of_decide_eq_true (by simpa [PyData.showable] using ok.s)) (hq _ _ _ fun _ _ e => e)
    | str y =>
      obtain ⟨t, rfl⟩ := rv
      exact PySem.P.repr_of_str (hq _ _ _ fun _ _ e => e) ok.z
    | lst ha rs => exact byRef _ rv
    | tup ha rs => exact byRef _ rv
    | dic a b c => exact byRef _ rv
instance (d : D) : Decidable (ShowOk3 d) := decidable_of_iff (d.showable = true ∧ noL3 d = true ∧ d.depth ≤ 60 ∧ d.shown.length ≤ sizeLine) ⟨fun h => ⟨h.1, h.2.1, h.2.2.1, h.2.2.2⟩, fun h => ⟨h.1, h.2, h.3, h.4⟩⟩
def reprD3 : List D → Option D
  | [d] => if ShowOk d ∨ ShowOk3 d then some (.str d.shown) else none
  | _ => none
theorem cs_repr3 {K} : CallS K (rRepr3 K) reprD3 := fun F σ H ρ δ xs ds z G R hz Q q => by
  unfold reprD3 at hz
  split at hz
  · rename_i d
    split at hz
    · rename_i ok
      cases hz
      obtain ⟨v, rfl, r⟩ := reps1 R
      exact ⟨_, d, v, rfl, r, ok, q _ _ (fun _ _ e => e) (.str _)⟩
    · cases hz
  · cases hz
section
variable {X : Cx} {e : Expr} {es : List Expr} {r : MA} {p pos : Pos}
theorem pd_repr3 (hm : X.mg "repr" = none) (hgd : X.A.guards = some []) (hu : X.A.units + 65 < cLine) (ha : PDA X (e :: es) r) (hg : Gl X "repr" := by rfl) (he : starEach (e :: es) X.env = (false, eval e X.env) :: starEach es X.env := by rfl) (hpl : (backTo pos (starEach es X.env)).any (·.1) = false := by rfl) : PD X (.Call (.Name "repr" p) (e :: es) [] pos) (mCall reprD3 r) :=
  pd_cb (by decide +kernel) (call_reprD3 hgd hu) cs_repr3 ha hg hm (by decide) (by decide) he hpl
end
end PD

namespace PD
open PySem PySem.Spec PyProof.Rows L2
/-! ### e == [], whatever e's members are -/
def rEqNil (K : PySem.W.Frag) : R2 := fun x y H Q => ∃ a b xs, x = .ref a ∧ y = .ref b ∧ SqL K H a xs ∧ SqL K H b [] ∧ Q (.bl xs.isEmpty) H
theorem op_eqNil {X : Cx} (hu : X.A.units < cLine) : OpR X (compareOp .Eq) (rEqNil X.K) := by
  intro pins s σ H x y v u Q I rx ry h
  obtain ⟨a, b, xs, rfl, rfl, ha, hb, q⟩ := h
  cases rx
  cases ry
  obtain ⟨its, r, pl, _⟩ := I.list ha
  obtain ⟨its2, r2, pl2, _⟩ := I.list hb
  cases r2
  cases xs with
  | nil =>
    cases r
    exact SeqAt.eq_listAt (e := fun _ => true) pl.isList pl2.isList rfl hu (fun j h1 => absurd h1 (by simp)) ⟨.bl true, H, I, rfl, q⟩
  | cons x xs =>
    cases r
    exact SeqAt.eq_list_lengthsAt pl.isList pl2.isList (by simp) hu ⟨.bl false, H, I, rfl, q⟩
def eqNilD : D → D → Option D
  | .list ds, .list [] => some (.bool ds.isEmpty)
  | _, _ => none
theorem ops_eqNil {K} : OpS K (rEqNil K) eqNilD := fun F σ H ρ δ x y d e z G rx ry hz Q q => by
  unfold eqNilD at hz
  split at hz
  · rename_i ds
    cases hz
    cases rx with
    | @lst a vs _ ha r1 =>
      cases ry with
      | @lst b ws _ hb r2 =>
        cases r2
        refine ⟨a, b, vs, rfl, rfl, ha.sq, hb.sq, ?_⟩
        have : vs.isEmpty = ds.isEmpty := by
          cases r1 <;> rfl
        rw [this]
        exact q _ _ (fun _ _ e => e) (.bl _)
  · cases hz
def rNeNil (K : PySem.W.Frag) : R2 := fun x y H Q => ∃ a b xs, x = .ref a ∧ y = .ref b ∧ SqL K H a xs ∧ SqL K H b [] ∧ Q (.bl !xs.isEmpty) H
theorem op_neNil {X : Cx} (hu : X.A.units < cLine) : OpR X (compareOp .NotEq) (rNeNil X.K) := by
  intro pins s σ H x y v u Q I rx ry h
  obtain ⟨a, b, xs, rfl, rfl, ha, hb, q⟩ := h
  cases rx
  cases ry
  obtain ⟨its, r, pl, _⟩ := I.list ha
  obtain ⟨its2, r2, pl2, _⟩ := I.list hb
  cases r2
  cases xs with
  | nil =>
    cases r
    exact SeqAt.RcNeAt.lists (e := fun _ => true) pl.isList pl2.isList rfl hu (fun j h1 => absurd h1 (by simp)) _ _ _ _ ⟨.bl false, H, I, rfl, q⟩
  | cons x xs =>
    cases r
    exact SeqAt.RcNeAt.lists_lengths pl.isList pl2.isList (by simp) hu _ _ _ _ ⟨.bl true, H, I, rfl, q⟩
def neNilD : D → D → Option D
  | .list ds, .list [] => some (.bool !ds.isEmpty)
  | _, _ => none
theorem ops_neNil {K} : OpS K (rNeNil K) neNilD := fun F σ H ρ δ x y d e z G rx ry hz Q q => by
  unfold neNilD at hz
  split at hz
  · rename_i ds
    cases hz
    cases rx with
    | @lst a vs _ ha r1 =>
      cases ry with
      | @lst b ws _ hb r2 =>
        cases r2
        refine ⟨a, b, vs, rfl, rfl, ha.sq, hb.sq, ?_⟩
        have : vs.isEmpty = ds.isEmpty := by
          cases r1 <;> rfl
        rw [this]
        exact q _ _ (fun _ _ e => e) (.bl _)
  · cases hz
theorem cs_neNil {X : Cx} (hu : X.A.units + 64 < cLine) : CmpS X .NotEq neNilD := ⟨_, op_neNil (by omega), ops_neNil⟩
theorem cs_eqNil {X : Cx} (hu : X.A.units + 64 < cLine) : CmpS X .Eq eqNilD := ⟨_, op_eqNil (by omega), ops_eqNil⟩
end PD

namespace PD
open PySem PySem.Spec PyProof.Rows L2
open AutoSeq1 (wpAny_loadPart')
/-! ### e == 'text', whatever e is; e == () by emptiness -/
theorem dct_no_str (l : Addr) (dt : Data) (da : Option Addr) (fl : Array (Option Value)) (y : Str) (u : Tok) :
    Meets (Builtin.«dict.__eq__» ⟨[.ref l, .str y u], []⟩) (fun _ R z => z.heap.get? l = some { cls := .type "dict", dict := da, data := dt, slots := fl } ∧ R (.ok (.ret .notImplemented)) z) :=
  .of_wp fun P w A R z q => by
    obtain ⟨a1, a2, a3, a4, a5⟩ := z
    obtain ⟨e1, q⟩ := q
    have f1 := F.sub_str_dict
    wp_walk using wpAny_loadPart' e1
    exact ⟨_, rfl, q⟩
theorem str_no_dct (y : Str) (u : Tok) (l : Addr) (es : Array DictEntry) (ep : Nat) (da : Option Addr) (fl : Array (Option Value)) :
    Meets (Builtin.«str.__eq__» ⟨[.str y u, .ref l], []⟩) (fun _ R z => z.heap.get? l = some { cls := .type "dict", dict := da, data := .dict es ep, slots := fl } ∧ R (.ok (.ret .notImplemented)) z) :=
  .of_wp fun P w A R z q => by
    obtain ⟨a1, a2, a3, a4, a5⟩ := z
    obtain ⟨e1, q⟩ := q
    wp_walk using wpAny_loadPart' e1, wpAny_load e1
    exact ⟨_, rfl, q⟩
theorem dct_str {A : Around} {s : Shared} {l : Addr} {o : Obj} {es : Array DictEntry} {ep : Nat} (y : Str) (u : Tok) (h1 : s.heap.get? l = some o) (h2 : o.cls = .type "dict") (h3 : o.data = .dict es ep) (hu : A.units < cLine) : SeqAt.RcAt A s (.ref l) (.str y u) false := fun P w E Q q => by
  obtain ⟨oc, od, ot, os⟩ := o
  simp only at h2 h3
  subst h2 h3
  refine SeqAt.rc_eq_decline_or (k := false) ⟨_, h1, rfl⟩ (typeIs_str s y u) (by decide) F.sub_str_dict F.slot_dict_eq F.slot_str_eq_refl
    (fun _ g => call_meets F.slot_dict_eq ⟨_, h1, rfl⟩ F.entry_dict_eq (F.args_dict_eq_2 _ _) (dct_no_str l _ od os y u) ⟨h1, g⟩) ?_ ?_ (.inr hu) q
  · exact fun _ g => call_meets F.slot_str_eq_refl (typeIs_str s y u) F.entry_str_eq (F.args_str_eq_2 _ _) (str_no_dct y u l es ep od os) ⟨h1, g⟩
  · exact fun _ g => wpAny_of_eq (rfl : isSame (.ref l) (.str y u) = pure false) g
def isS (y : Str) : D → Bool
  | .str x => x == y
  | _ => false
def rEqT (K : PySem.W.Frag) : R2 := fun x y H Q => ∃ (M : Addr → Prop) (d : D) (t : Str), Rep K M H x d ∧ y = .str t ∧ Q (.bl (isS t d)) H
theorem op_eqT {X : Cx} (hu : X.A.units < cLine) : OpR X (compareOp .Eq) (rEqT X.K) := by
  intro pins s σ H x y v u Q I rx ry h
  obtain ⟨M, d, t, rp, rfl, q⟩ := h
  obtain ⟨tk, rfl⟩ := ry
  have fin : SeqAt.RcAt X.A s v (.str t tk) (isS t d) → wpAny (model X.prog X.w) X.A (compareOp .Eq v (.str t tk)) (EP X pins σ Q) X.xe s := fun z => z _ _ _ _ ⟨.bl _, H, I, rfl, q⟩
  cases rp with
  | non => cases rx; exact fin (SeqAt.RcAt.none_str t tk)
  | bl b => cases rx; exact fin (SeqAt.RcAt.bool_str b t tk)
  | int i => obtain ⟨t1, rfl⟩ := rx; exact fin (SeqAt.RcAt.int_str i t1 t tk)
  | str x => obtain ⟨t1, rfl⟩ := rx; exact fin (SeqAt.RcAt.str_str x t1 t tk)
  | lst ha rs =>
    cases rx
    obtain ⟨its, rv, pl, _⟩ := I.list ha.sq
    exact fin (SeqAt.RcAt.list_str t tk pl.isList hu)
  | tup ha rs =>
    cases rx
    obtain ⟨its, rv, pl, _⟩ := I.tuple ha.sq
    exact fin (SeqAt.RcAt.tuple_str t tk pl hu)
  | dic n hr rk =>
    cases rx
    obtain ⟨_, hs, vs, kv, o, es, ep, h1, h2, h3, _⟩ := dk_rd I.hok hr
    exact fin (dct_str t tk h1 h2.1 h3 hu)
def eqT : D → D → Option D
  | d, .str t => some (.bool (isS t d))
  | _, _ => none
theorem ops_eqT {K} : OpS K (rEqT K) eqT := fun F σ H ρ δ x y d e z G rx ry hz Q q => by
  unfold eqT at hz
  split at hz
  · rename_i t
    cases hz
    cases ry
    exact ⟨_, d, t, rx, rfl, q _ _ (fun _ _ e => e) (.bl _)⟩
  · cases hz
theorem cs_eqT {X : Cx} (hu : X.A.units + 64 < cLine) : CmpS X .Eq eqT := ⟨_, op_eqT (by omega), ops_eqT⟩
theorem w_eqT {d : D} {t : Str} {P : D → Prop} : W1 (eqT d (.str t)) P ↔ P (.bool (isS t d)) := by unfold W1 eqT; simp
def rEqU (K : PySem.W.Frag) : R2 := fun x y H Q => ∃ (M : Addr → Prop) (ds : List D), Rep K M H x (.tuple ds) ∧ Rep K M H y (.tuple []) ∧ Q (.bl ds.isEmpty) H
theorem op_eqU {X : Cx} (hu : X.A.units < cLine) : OpR X (compareOp .Eq) (rEqU X.K) := by
  intro pins s σ H x y v u Q I rx ry h
  obtain ⟨M, ds, r1, r2, q⟩ := h
  cases r1 with
  | tup ha rs =>
    cases r2 with
    | tup hb rt =>
      cases rx
      cases ry
      cases rt
      obtain ⟨its, rv, pl, _⟩ := I.tuple ha.sq
      obtain ⟨its2, rv2, pl2, _⟩ := I.tuple hb.sq
      cases rv2
      refine SeqAt.eq_tupleAt (e := fun _ => true) pl pl2 hu (fun j _ h2 => absurd h2 (by simp)) ⟨.bl ds.isEmpty, H, I, ?_, q⟩
      cases rs <;> cases rv <;> simp [L2.RelV]
def eqU : D → D → Option D
  | .tuple ds, .tuple [] => some (.bool ds.isEmpty)
  | _, _ => none
theorem ops_eqU {K} : OpS K (rEqU K) eqU := fun F σ H ρ δ x y d e z G rx ry hz Q q => by
  unfold eqU at hz
  split at hz
  · rename_i ds
    cases hz
    exact ⟨_, ds, rx, ry, q _ _ (fun _ _ e => e) (.bl _)⟩
  · cases hz
theorem cs_eqU {X : Cx} (hu : X.A.units + 64 < cLine) : CmpS X .Eq eqU := ⟨_, op_eqU (by omega), ops_eqU⟩
end PD

namespace QS
open PySem PySem.Spec PyProof.Rows L2
/-! ### a set made of texts: what was met, each once -/
def putK (acc : List Str) (x : Str) : List Str := if x ∈ acc then acc else x :: acc
def metK (xs : List Str) : List Str := xs.foldl putK []
theorem putK_len (acc : List Str) (x : Str) : (putK acc x).length = if decide (x ∈ acc) = true then acc.length else acc.length + 1 := by
  unfold putK
  by_cases h : x ∈ acc
  · rw [if_pos h, if_pos (decide_eq_true h)]
  · rw [if_neg h, if_neg (by simpa using h)]; rfl
theorem putK_mem (acc : List Str) (x k : Str) : decide (k ∈ putK acc x) = (decide (k ∈ acc) || decide (k = x)) := by
  unfold putK
  by_cases h : x ∈ acc
  · rw [if_pos h]
    by_cases e : k = x
    · subst e; simp [h]
    · simp [e]
  · rw [if_neg h]
    rw [Bool.eq_iff_iff]
    simp [List.mem_cons, or_comm]
/-- the set at a holds just these texts -/
def At (P : Program) (w : World) (h : Heap) (a : Addr) (l : List Str) : Prop := h.SetOf (PySem.strKind P w) a (fun k => decide (k ∈ l)) l.length
theorem At.keep {P : Program} {w : World} {h h' : Heap} {a : Addr} {l : List Str} (H : At P w h a l) (k : ∀ o, h.get? a = some o → h'.get? a = some o) : At P w h' a l := by
  obtain ⟨o, es, ep, t, ho, r⟩ := H
  exact ⟨o, es, ep, t, k o ho, r⟩
theorem At.put {P : Program} {w : World} {h : Heap} {a : Addr} {l : List Str} {x : Str} (H : h.SetOf (PySem.strKind P w) a (fun k => decide (k ∈ l) || decide (k = x)) (if decide (x ∈ l) = true then l.length else l.length + 1)) : At P w h a (putK l x) := by
  unfold At
  rw [putK_len]
  have e : (fun k => decide (k ∈ putK l x)) = fun k => decide (k ∈ l) || decide (k = x) := funext fun k => putK_mem l x k
  rw [e]
  exact H
section
variable {P : Program} {w : World} {A : Around} {R : Result → Shared → Prop} {it S : Addr} {fp wr : List Addr} {G : Array GenState → Array GenState → Prop} {n : Nat} {Pv : Nat → Value → Prop} {St : Nat → Shared → Prop}
/-- the loop that fills the set, from the place i on -/
theorem fill (W : WalksS P w A.in1 it fp wr G n Pv St) (hS : S ∉ fp) (xs : List Str) (hn : xs.length = n) (hb : n + 1 < scanBound) (hv : ∀ i v, Pv i v → ∃ x t, xs[i]? = some x ∧ v = .str x t) :
    ∀ (rest : List Str) (i : Nat) (acc : List Str) (s : Shared), xs.drop i = rest → i + rest.length = n → acc.length ≤ i → St i s → At P w s.heap S acc →
      (∀ s', Moved (S :: wr) G s s' → At P w s'.heap S (rest.foldl putK acc) → R (.ok (.ret .none)) s') →
      codeAny (model P w) A (.builtin "set.update.loop" ⟨[.ref S, .ref it], []⟩) R s := by
  have nw : S ∉ wr := fun h => hS (W.sub _ h)
  have up : ∀ b ∈ wr, b ∈ S :: wr := fun b hb => List.mem_cons_of_mem _ hb
  intro rest
  induction rest with
  | nil =>
    intro i acc s hr hi _ hst hA k
    have ei : i = n := by simpa using hi
    subst ei
    refine codeAny_builtin PyProof.Rows.F.entry_set_update_loop ?_
    rw [Around.under_plainId PyProof.Rows.F.plain_set_update_loop _]
    show wpAny _ A.in1 (pyNext (.ref it) >>= _) _ _ s
    exact wpAny_bind (W.done s _ _ hst fun s' mv => wpAny_pure (k s' (mv.mono up) (hA.keep fun o e => mv.heap S o nw e)))
  | cons x rest ih =>
    intro i acc s hr hi ha hst hA k
    have hi1 : i < n := by rw [List.length_cons] at hi; omega
    have hx : xs[i]? = some x := by
      have := congrArg List.head? hr
      rwa [List.head?_drop, List.head?_cons] at this
    have hd : xs.drop (i + 1) = rest := by
      rw [← List.drop_drop, hr] <;> rfl
    refine codeAny_builtin PyProof.Rows.F.entry_set_update_loop ?_
    rw [Around.under_plainId PyProof.Rows.F.plain_set_update_loop _]
    show wpAny _ A.in1 (pyNext (.ref it) >>= _) _ _ s
    refine wpAny_bind (W.item i s _ _ hi1 hst fun v s' hP hst' mv => ?_)
    obtain ⟨y, t, hy, rfl⟩ := hv i v hP
    have hxy : y = x := by
      have h2 : xs[i]? = some y := hy
      rw [hx] at h2
      cases h2
      rfl
    subst hxy
    have hA' := hA.keep (h' := s'.heap) fun o e => mv.heap S o nw e
    show wpAny _ A.in1 (holding [Value.str y t] (setAdd S (.str y t)) >>= _) _ _ s'
    refine wpAny_bind (wpAny_holding ?_)
    unfold setAdd
    refine wpAny_holding ?_
    have isy : (PySem.strKind P w).is y (.str y t) = true := PySem.strKind_is P w y t
    refine wpAny_bind ((PySem.strKind P w).pyHash (k := y) isy ?_)
    refine wpAny_setAddHashed_of (s := { s' with toks := s'.toks + 1 }) isy rfl hA' (by omega) fun h' same hA2 => ?_
    have stay : ∀ b o, b ≠ S → s'.heap.get? b = some o → h'.get? b = some o := fun b o hb e => by rw [same.2 b hb]; exact e
    refine wpAny_pure ⟨plainId_quiet PyProof.Rows.F.plain_set_update_loop _, ih (i + 1) (putK acc y) _ hd (by rw [List.length_cons] at hi; omega) ?_ (W.frame _ s' _ _ hst' (Nat.le_succ _) fun b hb o e => stay b o (fun z => hS (z ▸ hb)) e) (At.put hA2) fun s'' mv2 hA3 => ?_⟩
    · rw [putK_len]; split <;> omega
    · exact k s'' (Moved.trans W.gtrans ((mv.mono up).then_heap (Nat.le_succ _) fun b o hb e => stay b o (fun z => hb (by rw [z]; exact .head _)) e) mv2) hA3
end
end QS

namespace QS
open PySem PySem.Spec PyProof.Rows L2
section
variable {P : Program} {w : World} {A : Around} {E : Value → Shared → Prop} {s : Shared}
abbrev fresh (w : World) : Obj := { cls := .type "set", dict := none, data := .set #[] 0 (.fresh 0 0 (!w.params.followText "set-order")) }
theorem fresh_at {h : Heap} : At P w (h.push (fresh w)) h.objs.size [] :=
  ⟨_, #[], 0, _, Heap.get?_push_size _ rfl, ⟨rfl, rfl, rfl⟩, rfl, fun e he => by simp at he, fun k => by simp, by decide, by rfl, rfl⟩
/-- what the filled set's heap is -/
structure Done (P : Program) (w : World) (s : Shared) (l : List Str) (s' : Shared) : Prop where
  same : ∃ tk, s' = { s with heap := s'.heap, toks := tk }
  at_ : At P w s'.heap s.heap.objs.size l
  keep : ∀ b o, s.heap.get? b = some o → s'.heap.get? b = some o
/-- the new set is filled of v, and then holds l -/
def Fills (P : Program) (w : World) (A : Around) (E : Value → Shared → Prop) (s : Shared) (v : Value) (l : List Str) : Prop :=
  wpAny (model P w) A.in1.in1 (Builtin.«set.__init__» ⟨[.ref s.heap.objs.size, v], []⟩)
    (fun fin s' => match fin with
      | .done f => wants (fun r s2 => r = Value.none ∧ Done P w s l s2) E (.ok f) s'
      | .again c' => c'.quiet = true ∧ codeAny (model P w) A.in1 c' (wants (fun r s2 => r = Value.none ∧ Done P w s l s2) E) s')
    (fun e s' => wants (fun r s2 => r = Value.none ∧ Done P w s l s2) E (.error e) s')
    { s with heap := s.heap.push (fresh w) }
set_option maxHeartbeats 3200000 in
theorem set_by {v : Value} {l : List Str} {Q : Value → Shared → Prop}
    (hi : Fills P w A E s v l)
    (h : ∀ s2, Done P w s l s2 → Q (.ref s.heap.objs.size) s2) : wpAny (model P w) A (call (.type "set") [v]) Q E s := by
  obtain ⟨c, tl, hmro⟩ := PySem.F.called_set.mro
  have k1 := PySem.F.called_set.made
  have k2 := PySem.F.called_set.sub
  have k3 := PySem.F.called_set.notType
  have k4 := PySem.F.called_set.canCreate
  have k5 := PySem.F.typeCall_set_1 v
  refine wpAny_call (codeAny_of_tree ?_)
  show wpAny _ _ (callAny (.type "set") _) _ _ _
  refine wpAny_pure ⟨Code.quiet_builtin _ (by decide +kernel), codeAny_builtin PySem.F.entry_type_call ?_⟩
  rw [Around.under_plain (weight_type_call_type "set" [v] []) rfl]
  repeat (any_goals (first | assumption | wp_step))
  refine codeAny_mono (code_set_led1 v (E := E) (Q₁ := fun o s1 => o = .ref s.heap.objs.size ∧ s1 = { s with heap := s.heap.push (fresh w) }) ⟨rfl, rfl⟩) fun r s1 hr => ?_
  match r, hr with
  | .error e, hr => exact hr
  | .ok (.ret o), hr =>
    obtain ⟨rfl, rfl⟩ := hr
    have t1 : Shared.TypeIs { s with heap := s.heap.push (fresh w) } (.ref s.heap.objs.size) "set" := ⟨_, Heap.get?_push_size _ rfl, rfl⟩
    have k6 := PySem.F.called_set.init.lookup
    have k7 := PySem.F.called_set.init.bind (.ref s.heap.objs.size)
    repeat (any_goals (first | assumption | wp_step))
    refine codeAny_mono (codeAny_call_builtin (R := wants (fun r s2 => r = .none ∧ Done P w s l s2) E) PySem.F.called_set.init.plain PySem.F.entry_set_init (check_set_init_1 t1 ?_)) fun r2 s2 hr2 => ?_
    · exact hi
    · match r2, hr2 with
      | .error e, hr2 => exact hr2
      | .ok (.ret o), hr2 =>
        obtain ⟨rfl, hd⟩ := hr2
        repeat (any_goals (first | assumption | wp_step))
        exact h _ hd
theorem moved_done {x : Addr} {m : List Str} {o : Obj} {s' : Shared} (hx : x = s.heap.objs.size + 1) (mv : Moved [s.heap.objs.size, x] (fun a b => b = a) { s with heap := (s.heap.push (fresh w)).push o } s') (hA : At P w s'.heap s.heap.objs.size m) : Done P w s m s' := by
  obtain ⟨h', g2, d', tk', os'⟩ := s'
  have eg : g2 = s.gens := mv.gens
  have ed : d' = s.drawn := mv.drawn
  have eo : os' = s.os := mv.os
  subst eg; subst ed; subst eo
  refine ⟨⟨tk', rfl⟩, hA, fun b o e => ?_⟩
  have hb : b < s.heap.objs.size := Heap.lt_size e
  exact mv.heap b o (by simp only [List.mem_cons, List.not_mem_nil, or_false, not_or]; exact ⟨Nat.ne_of_lt hb, by rw [hx]; exact Nat.ne_of_lt (Nat.lt_succ_of_lt hb)⟩) (Heap.get?_push_of_some _ (Heap.get?_push_of_some _ e))
set_option maxHeartbeats 3200000 in
theorem fills_tup {l : Addr} {items : Array Value} (xs : List Str) (hh : A.handled = none) (hl : s.heap.IsTuple l items) (hi : StrsAre items.toList xs) (hb : xs.length + 1 < scanBound) : Fills P w A E s (.ref l) (metK xs) := by
  unfold Fills
  obtain ⟨⟨ocls, odict, odata, osl⟩, ho, hc, nl, hd⟩ := hl
  simp only at hc hd
  subst hc; subst hd
  have g0 : (s.heap.push (fresh w)).get? s.heap.objs.size = some (fresh w) := Heap.get?_push_size _ rfl
  have g1 : (s.heap.push (fresh w)).get? l = some { cls := .type "tuple", dict := odict, data := .seq items nl, slots := osl } := Heap.get?_push_of_some _ ho
  have g2 : (s.heap.push (fresh w)).IsTuple l items := ⟨_, g1, rfl, nl, rfl⟩
  have u1 := PySem.F.sub_tuple_set
  have u2 := PySem.F.sub_tuple_frozenset
  have u3 : (Value.type "tuple" == Value.type "dict") = false := by decide
  unfold Builtin.«set.__init__» noKeywords Builtin.Frozenset.updateFrom
  generalize hP : pyIter = PI
  wp_walk
  subst hP
  have ll : l < s.heap.objs.size := Heap.lt_size ho
  have e1 : (s.heap.push (fresh w)).objs.size = s.heap.objs.size + 1 := Heap.size_push ..
  have n1 : l ≠ (s.heap.push (fresh w)).objs.size := by rw [e1]; exact Nat.ne_of_lt (Nat.lt_succ_of_lt ll)
  have n2 : s.heap.objs.size ∉ [(s.heap.push (fresh w)).objs.size, l] := by
    rw [e1]
    simp only [List.mem_cons, List.not_mem_nil, or_false, not_or]
    exact ⟨Nat.ne_of_lt (Nat.lt_succ_self _), Nat.ne_of_gt ll⟩
  have sz : xs.length = items.size := by
    have := StrsAre.length hi
    rw [Array.length_toList] at this
    exact this.symm
  have hv : ∀ (i : Nat) (v : Value), items[i]? = some v → ∃ x t, xs[i]? = some x ∧ v = .str x t := fun i v hv => by
    have hlt : i < xs.length := by rw [sz]; exact (Array.getElem?_eq_some_iff.mp hv).1
    obtain ⟨t, e⟩ := SS.strs_at hi i v (by rw [Array.getElem?_toList]; exact hv)
    exact ⟨xs[i], t, List.getElem?_eq_getElem hlt, by rw [e, List.getD_eq_getElem?_getD, List.getElem?_eq_getElem hlt] <;> rfl⟩
  refine wpAny_pyIter_tuple g2 (wpAny_bind (wpAny_runValue ?_))
  refine fill ((Walks.tuple (by simp [hh]) _ l n1 items).toS) n2 xs sz (by rw [← sz]; exact hb) hv xs 0 [] _ rfl (by rw [Nat.zero_add]; exact sz) (Nat.le_refl 0) ⟨⟨_, Heap.get?_push_size _ rfl, rfl, rfl⟩, g2.push _⟩ (fresh_at.keep fun o e => Heap.get?_push_of_some _ e) fun s' mv hA => ?_
  exact wpAny_pure (wpAny_pure ⟨rfl, moved_done e1 mv hA⟩)
end
end QS

namespace QS
open PySem PySem.Spec PyProof.Rows L2
/-- len(set(e)), e a tuple of texts -/
def tSetN (K : PySem.W.Frag) (ta : TE) : TE := fun σ H Q => ta σ H fun x H1 => ∃ (l : Addr) (xs : List Str), x = .ref l ∧ SqT K H1 l (xs.map V.str) ∧ xs.length ≤ 3000 ∧ Q (.int ((metK xs).length : Nat)) H1
theorem met_len : ∀ (xs acc : List Str), (xs.foldl putK acc).length ≤ acc.length + xs.length
  | [], acc => by simp
  | x :: xs, acc => by
    rw [List.foldl_cons, List.length_cons]
    have h1 := met_len xs (putK acc x)
    have h2 := putK_len acc x
    have h3 : (putK acc x).length ≤ acc.length + 1 := by rw [h2]; split <;> omega
    omega
theorem pe_setN {X : Cx} {a : Expr} {ta : TE} {p p2 q pos : Pos} (hc : X.calm = true) (hg : Gl X "len") (hm : X.mg "len" = none) (hg2 : Gl X "set") (hm2 : X.mg "set" = none) (ha : PE X a ta)
    (na : starEach [a] X.env = (false, eval a X.env) :: starEach [] X.env := by rfl) : PE X (.Call (.Name "len" p) [.Call (.Name "set" p2) [a] [] q] [] pos) (tSetN X.K ta) := by
  refine ⟨fun pins s σ H Q I h => Call_ (ld_blt I hg hm boot_len (callWith_builtin1 (args_cons (Call_ (ld_blt I hg2 hm2 boot_set ?_)) rfl) rfl rfl))⟩
  refine callWith_type1 (args_cons (thn (ha.run pins s σ H _ I h) fun v s1 ⟨x, H1, I1, r1, q1⟩ => args_nil ?_) na) na rfl
  obtain ⟨l, xs, rfl, hq, hz, q1⟩ := q1
  cases r1
  obtain ⟨its, r, pl, _⟩ := I1.tuple hq
  have sb : (3000 : Nat) + 1 < scanBound := by decide
  refine set_by (l := metK xs) (fills_tup xs (I1.ok.hd hc) pl (by simpa using strsAre_of r) (by omega)) fun s2 D => args_nil ?_
  obtain ⟨tk, e2⟩ := D.same
  have I2 : Inv X pins σ H1 s2 := by rw [e2]; exact I1.kept D.keep
  obtain ⟨o, es, ep, t, ho, hex, hd, _, _, _, hf, hn⟩ := D.at_
  have hm3 : (metK xs).length ≤ 3000 := by
    have := met_len xs []
    rw [List.length_nil, Nat.zero_add] at this
    exact Nat.le_trans this hz
  exact call_len_set ho hex hd hf (by rw [hn]; omega) ⟨.int ((metK xs).length : Nat), H1, I2.tok _, ⟨_, by rw [hn]⟩, q1⟩
end QS
namespace PD
open PySem PySem.Spec PyProof.Rows L2 TL
def setND : D → Option D
  | .tuple ds => (strsD ds).bind fun xs => if xs.length ≤ 3000 then some (.int ((QS.metK xs).length : Nat)) else none
  | _ => none
theorem pd_setN {X : Cx} {a : Expr} {ma : ME} {p p2 q pos : Pos} (hc : X.calm = true) (hm : X.mg "len" = none) (hm2 : X.mg "set" = none) (ha : PD X a ma) (hg : Gl X "len" := by rfl) (hg2 : Gl X "set" := by rfl)
    (na : starEach [a] X.env = (false, eval a X.env) :: starEach [] X.env := by rfl) : PD X (.Call (.Name "len" p) [.Call (.Name "set" p2) [a] [] q] [] pos) (mUn setND ma) := by
  obtain ⟨ta, h1, s1⟩ := ha.ex
  refine ⟨_, QS.pe_setN hc hg hm hg2 hm2 h1 na, fun F σ H ρ δ d δ' G e Q q => ?_⟩
  obtain ⟨⟨x, δ1⟩, e1, e⟩ := Option.bind_eq_some_iff.mp e
  obtain ⟨z, e3, e⟩ := Option.map_eq_some_iff.mp e
  cases e
  refine s1 F σ H ρ δ x δ1 G e1 _ fun v H1 G1 M1 R1 => ?_
  dsimp only at e3
  unfold setND at e3
  split at e3
  · rename_i ds
    obtain ⟨xs, e4, e3⟩ := Option.bind_eq_some_iff.mp e3
    split at e3
    · rename_i hz
      cases e3
      cases R1 with
      | @tup l vs _ hl r1 =>
        refine ⟨l, xs, rfl, ?_, hz, q _ _ G1 M1 (.int _)⟩
        rw [← r1.strs e4]
        exact hl.sq
    · cases e3
  · cases e3
end PD

namespace PD
open PySem PySem.Spec PyProof.Rows L2 TL
/-! ### zip of two lists, of two tuples -/
def pairsD (xs ys : List D) : List D := List.zipWith (fun x y => PyData.tuple [x, y]) xs ys
def mZip (ma mb : ME) : MA := fun ρ δ => (ma ρ δ).bind fun p => (mb ρ p.2).bind fun q => match p.1, q.1 with
  | .list xs, .list ys => some (pairsD xs ys, q.2)
  | .tuple xs, .tuple ys => some (pairsD xs ys, q.2)
  | _, _ => none
theorem pair_rep {K M2 H2 T} {u v : V} {d e : D} (hn : ¬ M2 T) (hT : H2 T = none) (r : Rep K M2 H2 u d) (r' : Rep K M2 H2 v e) : Rep K M2 (upd H2 T (.tup [u, v])) (.ref T) (.tuple [d, e]) := by
  have k := upd_keeps (o := .tup [u, v]) hT
  exact .tup (.inl ⟨hn, .inl upd_same⟩) (.cons (r.mv (Mv.same k)) (.cons (r'.mv (Mv.same k)) .nil))
theorem walk_zipL {K M H a b xs ys ds es} (h : AL K M H a xs) (r : Reps K M H xs ds) (h' : AL K M H b ys) (r' : Reps K M H ys es) : Walks K M H (Itz K a b) (pairsD ds es) := fun M2 H2 mv wf i => by
  have h2 := h.mv mv
  have h3 := h'.mv mv
  have r2 := r.mv mv
  have r3 := r'.mv mv
  have hl := r.length
  have hl' := r'.length
  have hz : (pairsD ds es).length = min ds.length es.length := List.length_zipWith
  refine ⟨fun hi => ?_, fun hi => ⟨xs, ys, h2.sq, h3.sq, by omega⟩⟩
  have i1 : i < xs.length := by omega
  have i2 : i < ys.length := by omega
  refine ⟨⟨xs, ys, xs[i], ys[i], h2.sq, h3.sq, by simp [i1], by simp [i2]⟩, fun x H3 y => ?_⟩
  obtain ⟨T, u, v, rfl, hT, rfl, y1, y2⟩ := y
  obtain ⟨d, e1, rr⟩ := r2.get (y1 xs h2.sq)
  obtain ⟨e, e2, rr'⟩ := r3.get (y2 ys h3.sq)
  exact ⟨upd_keeps hT, .tuple [d, e], by unfold pairsD; rw [List.getElem?_zipWith, e1, e2], pair_rep (fun m => wf T m hT) hT rr rr'⟩
theorem walk_zipT {K M H a b xs ys ds es} (h : AT K M H a xs) (r : Reps K M H xs ds) (h' : AT K M H b ys) (r' : Reps K M H ys es) : Walks K M H (RZ.ItzT K a b) (pairsD ds es) := fun M2 H2 mv wf i => by
  have h2 := h.mv mv
  have h3 := h'.mv mv
  have r2 := r.mv mv
  have r3 := r'.mv mv
  have hl := r.length
  have hl' := r'.length
  have hz : (pairsD ds es).length = min ds.length es.length := List.length_zipWith
  refine ⟨fun hi => ?_, fun hi => ⟨xs, ys, h2.sq, h3.sq, by omega⟩⟩
  have i1 : i < xs.length := by omega
  have i2 : i < ys.length := by omega
  refine ⟨⟨xs, ys, xs[i], ys[i], h2.sq, h3.sq, by simp [i1], by simp [i2]⟩, fun x H3 y => ?_⟩
  obtain ⟨T, u, v, rfl, hT, rfl, y1, y2⟩ := y
  obtain ⟨d, e1, rr⟩ := r2.get (y1 xs h2.sq)
  obtain ⟨e, e2, rr'⟩ := r3.get (y2 ys h3.sq)
  exact ⟨upd_keeps hT, .tuple [d, e], by unfold pairsD; rw [List.getElem?_zipWith, e1, e2], pair_rep (fun m => wf T m hT) hT rr rr'⟩
theorem pdi_zip {X : Cx} {a b : Expr} {ma mb : ME} {p pos tpos : Pos} {elts : List Expr} {kk : Nat} (hm : X.mg "zip" = none) (ha : PD X a ma) (hb : PD X b mb) (hg : Gl X "zip" := by rfl)
    (hs : starEach [a, b] X.env = (false, eval a X.env) :: starEach [b] X.env := by rfl) (hs1 : starEach [b] X.env = (false, eval b X.env) :: starEach [] X.env := by rfl) (hpl : (backTo pos (starEach [b] X.env)).any (·.1) = false := by rfl) :
    PDI X (.Tuple elts kk tpos) (.Call (.Name "zip" p) [a, b] [] pos) (mZip ma mb) := by
  obtain ⟨ta, h1, s1⟩ := ha.ex
  obtain ⟨tb, h2, s2⟩ := hb.ex
  refine ⟨_, RZ.pi_zipA hg hm (pa_cons h1 (pa_cons h2 pa_nil hs1) hs) hs hpl, fun F σ H ρ δ ds δ' G e R q => ?_⟩
  obtain ⟨⟨x, δ1⟩, e1, e⟩ := Option.bind_eq_some_iff.mp e
  obtain ⟨⟨y, δ2⟩, e2, e⟩ := Option.bind_eq_some_iff.mp e
  refine s1 F σ H ρ δ _ _ G e1 _ fun v H1 G1 M1 R1 => s2 F σ H1 ρ δ1 _ _ G1 e2 _ fun u H2 G2 M2 R2 => ?_
  replace R1 := R1.mv M2
  dsimp only at e
  split at e
  · cases e
    cases R1 with
    | lst l1 r1 =>
      cases R2 with
      | lst l2 r2 => exact ⟨_, _, _, _, rfl, .inl ⟨l1.sq, l2.sq, q _ _ G2 (M1.trans M2) (walk_zipL l1 r1 l2 r2)⟩⟩
  · cases e
    cases R1 with
    | tup l1 r1 =>
      cases R2 with
      | tup l2 r2 => exact ⟨_, _, _, _, rfl, .inr ⟨l1.sq, l2.sq, q _ _ G2 (M1.trans M2) (walk_zipT l1 r1 l2 r2)⟩⟩
  · cases e
theorem wa_zip {ρ : List Sl} {δ : Dk} {ma mb : ME} {P : List D → Dk → Prop} : WA (mZip ma mb) ρ δ P ↔ WE ma ρ δ fun x δ1 => WE mb ρ δ1 fun y δ2 => ∃ xs ys, ((x = .list xs ∧ y = .list ys) ∨ (x = .tuple xs ∧ y = .tuple ys)) ∧ P (pairsD xs ys) δ2 := by
  constructor
  · rintro ⟨d, δ', e, p⟩
    obtain ⟨⟨x, δ1⟩, e1, e⟩ := Option.bind_eq_some_iff.mp e
    obtain ⟨⟨y, δ2⟩, e2, e⟩ := Option.bind_eq_some_iff.mp e
    dsimp only at e e2
    split at e
    · cases e; exact ⟨_, _, e1, _, _, e2, _, _, .inl ⟨rfl, rfl⟩, p⟩
    · cases e; exact ⟨_, _, e1, _, _, e2, _, _, .inr ⟨rfl, rfl⟩, p⟩
    · cases e
  · rintro ⟨x, δ1, e1, y, δ2, e2, xs, ys, h, p⟩
    refine ⟨_, _, ?_, p⟩
    unfold mZip
    rw [e1]
    show (mb ρ δ1).bind _ = _
    rw [e2]
    rcases h with ⟨rfl, rfl⟩ | ⟨rfl, rfl⟩ <;> rfl
end PD

namespace QS
open PySem PySem.Spec PyProof.Rows L2 TL PD
section
variable {P : Program} {w : World} {A : Around} {E : Value → Shared → Prop} {s : Shared}
set_option maxHeartbeats 3200000 in
theorem fills_lst {l : Addr} {items : Array Value} (xs : List Str) (hh : A.handled = none) (hl : s.heap.IsList l items) (hi : StrsAre items.toList xs) (hb : xs.length + 1 < scanBound) : Fills P w A E s (.ref l) (metK xs) := by
  unfold Fills
  obtain ⟨⟨ocls, odict, odata, osl⟩, ho, hc, nl, hd⟩ := hl
  simp only at hc hd
  subst hc; subst hd
  have g0 : (s.heap.push (fresh w)).get? s.heap.objs.size = some (fresh w) := Heap.get?_push_size _ rfl
  have g1 : (s.heap.push (fresh w)).get? l = some { cls := .type "list", dict := odict, data := .seq items nl, slots := osl } := Heap.get?_push_of_some _ ho
  have g2 : (s.heap.push (fresh w)).IsList l items := ⟨_, g1, rfl, nl, rfl⟩
  have u1 := PySem.F.sub_list_set
  have u2 : isSubtype (.type "list") (.type "frozenset") = pure false := by rw [isSubtype_type]; kernel_rfl
  have u3 : (Value.type "list" == Value.type "dict") = false := by decide
  unfold Builtin.«set.__init__» noKeywords Builtin.Frozenset.updateFrom
  generalize hP : pyIter = PI
  wp_walk
  subst hP
  have ll : l < s.heap.objs.size := Heap.lt_size ho
  have e1 : (s.heap.push (fresh w)).objs.size = s.heap.objs.size + 1 := Heap.size_push ..
  have n1 : l ≠ (s.heap.push (fresh w)).objs.size := by rw [e1]; exact Nat.ne_of_lt (Nat.lt_succ_of_lt ll)
  have n2 : s.heap.objs.size ∉ [(s.heap.push (fresh w)).objs.size, l] := by
    rw [e1]
    simp only [List.mem_cons, List.not_mem_nil, or_false, not_or]
    exact ⟨Nat.ne_of_lt (Nat.lt_succ_self _), Nat.ne_of_gt ll⟩
  have sz : xs.length = items.size := by
    have := StrsAre.length hi
    rw [Array.length_toList] at this
    exact this.symm
  have hv : ∀ (i : Nat) (v : Value), items[i]? = some v → ∃ x t, xs[i]? = some x ∧ v = .str x t := fun i v hv => by
    have hlt : i < xs.length := by rw [sz]; exact (Array.getElem?_eq_some_iff.mp hv).1
    obtain ⟨t, e⟩ := SS.strs_at hi i v (by rw [Array.getElem?_toList]; exact hv)
    exact ⟨xs[i], t, List.getElem?_eq_getElem hlt, by rw [e, List.getD_eq_getElem?_getD, List.getElem?_eq_getElem hlt] <;> rfl⟩
  refine wpAny_pyIter_list g2 (wpAny_bind (wpAny_runValue ?_))
  refine fill ((Walks.list (by simp [hh]) _ l n1 items).toS) n2 xs sz (by rw [← sz]; exact hb) hv xs 0 [] _ rfl (by rw [Nat.zero_add]; exact sz) (Nat.le_refl 0) ⟨⟨_, Heap.get?_push_size _ rfl, rfl, rfl⟩, g2.push _⟩ (fresh_at.keep fun o e => Heap.get?_push_of_some _ e) fun s' mv hA => ?_
  exact wpAny_pure (wpAny_pure ⟨rfl, moved_done e1 mv hA⟩)
def sgns (x : Str) : List Str := (tl x).map ch
set_option maxHeartbeats 3200000 in
theorem fills_str {x : Str} {t : Tok} (hh : A.handled = none) (hb : x.length + 1 < scanBound) : Fills P w A E s (.str x t) (metK (sgns x)) := by
  unfold Fills
  have g0 : (s.heap.push (fresh w)).get? s.heap.objs.size = some (fresh w) := Heap.get?_push_size _ rfl
  have u1 := PySem.F.sub_str_set
  have u2 := PySem.F.sub_str_frozenset
  have u3 : (Value.type "str" == Value.type "dict") = false := by decide
  unfold Builtin.«set.__init__» noKeywords Builtin.Frozenset.updateFrom
  generalize hP : pyIter = PI
  wp_walk
  subst hP
  have e1 : (s.heap.push (fresh w)).objs.size = s.heap.objs.size + 1 := Heap.size_push ..
  have n2 : s.heap.objs.size ∉ [(s.heap.push (fresh w)).objs.size] := by
    rw [e1]
    simp only [List.mem_cons, List.not_mem_nil, or_false]
    exact Nat.ne_of_lt (Nat.lt_succ_self _)
  have sz : (sgns x).length = x.cps.size := by unfold sgns; rw [List.length_map]; rfl
  have hv : ∀ (i : Nat) (v : Value), SignAt x i v → ∃ y t, (sgns x)[i]? = some y ∧ v = .str y t := fun i v hv => by
    obtain ⟨c, u, e, rfl⟩ := hv
    exact ⟨_, u, by unfold sgns; rw [List.getElem?_map]; show (x.cps.toList[i]?).map ch = _; rw [Array.getElem?_toList, e]; rfl, rfl⟩
  refine wpAny_pyIter_str fun o St W st => wpAny_bind (wpAny_runValue ?_)
  refine fill ((W _ (by simp [hh])).toS) n2 (sgns x) sz hb hv (sgns x) 0 [] _ rfl (by rw [Nat.zero_add]; exact sz) (Nat.le_refl 0) st (fresh_at.keep fun o e => Heap.get?_push_of_some _ e) fun s' mv hA => ?_
  exact wpAny_pure (wpAny_pure ⟨rfl, moved_done e1 mv hA⟩)
end
end QS

namespace QS
open PySem PySem.Spec PyProof.Rows L2 TL PD
/-- what a set is made of: texts in a tuple or list, the signs of a text -/
def Of (K : PySem.W.Frag) (H : Hp) (x : V) (xs : List Str) : Prop := (∃ l : Addr, x = .ref l ∧ (SqT K H l (xs.map V.str) ∨ SqL K H l (xs.map V.str))) ∨ ∃ y : Str, x = .str y ∧ xs = sgns y
def tSetA (K : PySem.W.Frag) (ta : TE) : TE := fun σ H Q => ta σ H fun x H1 => ∃ xs : List Str, Of K H1 x xs ∧ xs.length ≤ 3000 ∧ Q (.int ((metK xs).length : Nat)) H1
theorem pe_setA {X : Cx} {a : Expr} {ta : TE} {p p2 q pos : Pos} (hc : X.calm = true) (hg : Gl X "len") (hm : X.mg "len" = none) (hg2 : Gl X "set") (hm2 : X.mg "set" = none) (ha : PE X a ta)
    (na : starEach [a] X.env = (false, eval a X.env) :: starEach [] X.env := by rfl) : PE X (.Call (.Name "len" p) [.Call (.Name "set" p2) [a] [] q] [] pos) (tSetA X.K ta) := by
  refine ⟨fun pins s σ H Q I h => Call_ (ld_blt I hg hm boot_len (callWith_builtin1 (args_cons (Call_ (ld_blt I hg2 hm2 boot_set ?_)) rfl) rfl rfl))⟩
  refine callWith_type1 (args_cons (thn (ha.run pins s σ H _ I h) fun v s1 ⟨x, H1, I1, r1, q1⟩ => args_nil ?_) na) na rfl
  obtain ⟨xs, hof, hz, q1⟩ := q1
  have sb : (3000 : Nat) + 1 < scanBound := by decide
  have hF : Fills X.prog X.w X.A X.xe s1 v (metK xs) := by
    rcases hof with ⟨l, rfl, hq | hq⟩ | ⟨y, rfl, rfl⟩
    · cases r1
      obtain ⟨its, r, pl, _⟩ := I1.tuple hq
      exact fills_tup xs (I1.ok.hd hc) pl (by simpa using strsAre_of r) (by omega)
    · cases r1
      obtain ⟨its, r, pl, _⟩ := I1.list hq
      exact fills_lst xs (I1.ok.hd hc) pl.isList (by simpa using strsAre_of r) (by omega)
    · obtain ⟨t, rfl⟩ := r1
      refine fills_str (I1.ok.hd hc) ?_
      unfold sgns at hz
      rw [List.length_map, ← len_tl] at hz
      omega
  refine set_by (l := metK xs) hF fun s2 D => args_nil ?_
  obtain ⟨tk, e2⟩ := D.same
  have I2 : Inv X pins σ H1 s2 := by rw [e2]; exact I1.kept D.keep
  obtain ⟨o, es, ep, t, ho, hex, hd, _, _, _, hf, hn⟩ := D.at_
  have hm3 : (metK xs).length ≤ 3000 := by
    have := met_len xs []
    rw [List.length_nil, Nat.zero_add] at this
    exact Nat.le_trans this hz
  exact call_len_set ho hex hd hf (by rw [hn]; omega) ⟨.int ((metK xs).length : Nat), H1, I2.tok _, ⟨_, by rw [hn]⟩, q1⟩
end QS
namespace PD
open PySem PySem.Spec PyProof.Rows L2 TL
def setOfD : D → Option (List Str)
  | .tuple ds => strsD ds
  | .list ds => strsD ds
  | .str x => some (QS.sgns x)
  | _ => none
def setND2 (d : D) : Option D := (setOfD d).bind fun xs => if xs.length ≤ 3000 then some (.int ((QS.metK xs).length : Nat)) else none
theorem pd_setA {X : Cx} {a : Expr} {ma : ME} {p p2 q pos : Pos} (hc : X.calm = true) (hm : X.mg "len" = none) (hm2 : X.mg "set" = none) (ha : PD X a ma) (hg : Gl X "len" := by rfl) (hg2 : Gl X "set" := by rfl)
    (na : starEach [a] X.env = (false, eval a X.env) :: starEach [] X.env := by rfl) : PD X (.Call (.Name "len" p) [.Call (.Name "set" p2) [a] [] q] [] pos) (mUn setND2 ma) := by
  obtain ⟨ta, h1, s1⟩ := ha.ex
  refine ⟨_, QS.pe_setA hc hg hm hg2 hm2 h1 na, fun F σ H ρ δ d δ' G e Q q => ?_⟩
  obtain ⟨⟨x, δ1⟩, e1, e⟩ := Option.bind_eq_some_iff.mp e
  obtain ⟨z, e3, e⟩ := Option.map_eq_some_iff.mp e
  cases e
  refine s1 F σ H ρ δ x δ1 G e1 _ fun v H1 G1 M1 R1 => ?_
  dsimp only at e3
  obtain ⟨xs, e4, e3⟩ := Option.bind_eq_some_iff.mp e3
  split at e3
  · rename_i hz
    cases e3
    refine ⟨xs, ?_, hz, q _ _ G1 M1 (.int _)⟩
    unfold setOfD at e4
    split at e4
    · cases R1 with
      | tup hl r1 => exact .inl ⟨_, rfl, .inl (by rw [← r1.strs e4]; exact hl.sq)⟩
    · cases R1 with
      | lst hl r1 => exact .inl ⟨_, rfl, .inr (by rw [← r1.strs e4]; exact hl.sq)⟩
    · cases e4
      cases R1
      exact .inr ⟨_, rfl, rfl⟩
    · cases e4
  · cases e3
end PD

namespace QS
open PySem
theorem putK_in (acc : List Str) (x y : Str) : y ∈ putK acc x ↔ y ∈ acc ∨ y = x := by
  have := putK_mem acc x y
  rw [Bool.eq_iff_iff, decide_eq_true_eq, Bool.or_eq_true, decide_eq_true_eq, decide_eq_true_eq] at this
  exact this
/-- as many were met as there are, just where no two are alike and none was met before -/
theorem fold_nodup : ∀ (xs acc : List Str), (xs.foldl putK acc).length = acc.length + xs.length ↔ xs.Nodup ∧ ∀ x ∈ xs, x ∉ acc
  | [], acc => by simp
  | x :: xs, acc => by
    rw [List.foldl_cons, List.length_cons, List.nodup_cons]
    have ih := fold_nodup xs (putK acc x)
    have up := met_len xs (putK acc x)
    by_cases h : x ∈ acc
    · have e : putK acc x = acc := if_pos h
      rw [e] at up ⊢
      constructor
      · intro z; omega
      · intro z; exact absurd h (z.2 x (.head _))
    · have e : (putK acc x).length = acc.length + 1 := by rw [putK_len, if_neg (by simpa using h)]
      rw [e] at ih
      rw [show acc.length + (xs.length + 1) = acc.length + 1 + xs.length by omega, ih]
      constructor
      · rintro ⟨n, d⟩
        refine ⟨⟨fun z => d x z ((putK_in acc x x).mpr (.inr rfl)), n⟩, fun y hy => ?_⟩
        rcases List.mem_cons.mp hy with rfl | hy
        · exact h
        · exact fun z => d y hy ((putK_in acc x y).mpr (.inl z))
      · rintro ⟨⟨n1, n2⟩, d⟩
        refine ⟨n2, fun y hy z => ?_⟩
        rcases (putK_in acc x y).mp z with z | rfl
        · exact d y (.tail _ hy) z
        · exact n1 hy
theorem met_nodup (xs : List Str) : (metK xs).length = xs.length ↔ xs.Nodup := by
  have := fold_nodup xs []
  rw [List.length_nil, Nat.zero_add] at this
  unfold metK
  rw [this]
  exact ⟨fun h => h.1, fun h => ⟨h, fun x _ z => by simp at z⟩⟩
end QS

namespace PD
open PySem PySem.Spec PyProof.Rows L2 TL
open AutoSeq1 (wpAny_loadPart')
/-! ### enumerate of a tuple, of a list -/
theorem draws_tup {P : Program} {w : World} {A : Around} (hh : A.handled = none) (it l : Addr) (hne : l ≠ it) (zs : Array Value) :
    Draws P w A it [it, l] zs.size (fun i v => zs[i]? = some v) (fun i h => h.IsTupleIter it l i ∧ h.IsTuple l zs) where
  live := fun _ _ st => by
    obtain ⟨o, e, _⟩ := st.1
    exact ⟨o, e⟩
  frame := fun _ _ _ st k => by
    refine ⟨?_, ?_⟩
    · obtain ⟨o, e, r⟩ := st.1
      exact ⟨o, k it (by simp) o e, r⟩
    · obtain ⟨o, e, r⟩ := st.2
      exact ⟨o, k l (by simp) o e, r⟩
  item := fun i s Q E hi st q => by
    refine RZ.nextOf_tuple_item st.1 st.2 (x := zs[i]) (by simp [hi]) fun h' a b => ?_
    refine q _ h' s.toks (by simp [hi]) ⟨a, ?_⟩ b
    obtain ⟨o, e, r⟩ := st.2
    exact ⟨o, (b.2 l hne).trans e, r⟩
  done := fun s Q E st q => RZ.nextOf_tuple_end hh st.1 st.2 (by simp) q
theorem enum_newT (l : Addr) (zs : Array Value) (n : Nat) (da : Option Addr) (fl : Array (Option Value)) :
    Meets (Builtin.«enumerate.__new__» ⟨[.type "enumerate", .ref l], []⟩) (fun _ R z => z.heap.get? l = some { cls := .type "tuple", dict := da, data := .seq zs n, slots := fl } ∧
      R (.ok (.ret (.ref (z.heap.push { cls := .type "tuple_iterator", data := .fields #[.ref l, .int 0 0] }).objs.size)))
        { z with heap := (z.heap.push { cls := .type "tuple_iterator", data := .fields #[.ref l, .int 0 0] }).push { cls := .type "enumerate", data := .fields #[.none, .bool false, .ref z.heap.objs.size, rawInt 0, .none, .none] } }) :=
  .of_wp fun P w A R z q => by
    obtain ⟨a1, a2, a3, a4, a5⟩ := z
    obtain ⟨e1, q⟩ := q
    have f1 := sub_enumerate
    have e2 : Heap.IsTuple (Shared.heap ⟨a1, a2, a3, a4, a5⟩) l zs := ⟨_, e1, rfl, n, rfl⟩
    wp_walk using wpAny_loadPart' e1
    refine wpAny_stack_any fun _ => wpAny_pure ?_
    split
    · rename_i c _ _ _ _ _
      cases (c == Value.type "enumerate") <;> (wp_walk using wpAny_loadPart' e1, wpAny_pyIter_tuple e2; exact ⟨_, rfl, q⟩)
    · wp_walk using wpAny_loadPart' e1, wpAny_pyIter_tuple e2
      exact ⟨_, rfl, q⟩
theorem call_enumT {P : Program} {w : World} {A : Around} {E : Value → Shared → Prop} {s : Shared} {l : Addr} {zs : Array Value} {Q : Value → Shared → Prop} (hT : s.heap.IsTuple l zs)
    (q : ∀ h', IsEnum h' (s.heap.objs.size + 1) s.heap.objs.size 0 .none → h'.IsTupleIter s.heap.objs.size l 0 → (∀ b o, s.heap.get? b = some o → h'.get? b = some o) → Q (.ref (s.heap.objs.size + 1)) { s with heap := h' }) :
    wpAny (model P w) A (call (.type "enumerate") [.ref l]) Q E s := by
  obtain ⟨⟨oc, od, ot, os⟩, e1, e2, n, e3⟩ := hT
  replace e2 : oc = .type "tuple" := e2
  replace e3 : ot = .seq zs n := e3
  subst e2 e3
  refine callType_new F.called_enumerate (by decide) (F.typeCall_enumerate_1 _) (F.newCall_enumerate_1 _) (fun ob => F.args_object_init_2 ob _) F.entry_enumerate_new (enum_newT l zs n od os) ⟨e1, ?_⟩
  have z1 : (s.heap.push { cls := .type "tuple_iterator", data := .fields #[.ref l, .int 0 0] }).objs.size = s.heap.objs.size + 1 := Heap.size_push ..
  show _ ∧ _
  rw [z1]
  have e4 : IsEnum ((s.heap.push { cls := .type "tuple_iterator", data := .fields #[.ref l, .int 0 0] }).push
      { cls := .type "enumerate", data := .fields #[.none, .bool false, .ref s.heap.objs.size, rawInt 0, .none, .none] }) (s.heap.objs.size + 1) s.heap.objs.size 0 .none := by
    have := Heap.get?_push_size (s.heap.push { cls := .type "tuple_iterator", data := .fields #[.ref l, .int 0 0] }) (o := { cls := .type "enumerate", data := .fields #[.none, .bool false, .ref s.heap.objs.size, rawInt 0, .none, .none] }) rfl
    rw [z1] at this
    exact this
  exact ⟨⟨_, e4, rfl⟩, q _ e4 ⟨_, Heap.get?_push_of_some _ (Heap.get?_push_size _ rfl), rfl, rfl⟩ fun b o x => Heap.get?_push_of_some _ (Heap.get?_push_of_some _ x)⟩
/-- the tuple at a, each item in a new pair -/
def IteT (K : PySem.W.Frag) (a : Addr) : It :=
  ⟨fun i H => ∃ (xs : List V) (x : V), SqT K H a xs ∧ xs[i]? = some x, fun i H v H' => ∃ T x, v = .ref T ∧ H T = none ∧ H' = upd H T (.tup [.int (i : Nat), x]) ∧ ∀ xs, SqT K H a xs → xs[i]? = some x, fun i H => ∃ xs : List V, SqT K H a xs ∧ xs.length ≤ i⟩
theorem turn_enumT {P : Program} {w : World} {K : PySem.W.Frag} {elts : List Expr} {kk : Nat} {tpos : Pos} (a e it : Addr) (hae : a ≠ e) (hai : a ≠ it) :
    Turn P w K (.Tuple elts kk tpos) (IteT K a) [e, it] e (fun i h => (∃ old, IsEnum h e it ((i : Nat) : Int) old) ∧ h.IsTupleIter it a i ∧ e ≠ it) where
  mem := by simp
  obj := fun i h st b hb => by
    obtain ⟨⟨old, he⟩, ⟨o, ho, hc, hd⟩, _⟩ := st
    have hb : b = e ∨ b = it := by simpa using hb
    rcases hb with rfl | rfl
    · exact ⟨_, he, fun v q => nomatch q⟩
    · exact ⟨o, ho, fun v q => by rw [hd] at q; cases q⟩
  keep := fun i h h' st k => by
    obtain ⟨⟨old, he⟩, ⟨o, ho, r⟩, hne⟩ := st
    exact ⟨⟨old, k e (by simp) _ he⟩, ⟨o, k it (by simp) o ho, r⟩, hne⟩
  item := by
    intro X hP hw hK hc i pins s σ H E I hf st hg
    subst hP hw hK
    obtain ⟨⟨old, he⟩, hit, hne⟩ := st
    obtain ⟨xs, x, hq, hx⟩ := hg
    obtain ⟨its, rv, p, hz⟩ := I.tuple hq
    obtain ⟨u, hu, ru⟩ := rv.get hx
    have pt : s.heap.IsTuple a its.toArray := p
    have hel : e < s.heap.objs.size := Heap.lt_size he
    have hil : it < s.heap.objs.size := by obtain ⟨_, q, _⟩ := hit; exact Heap.lt_size q
    have hi : i < its.toArray.size := by
      have := List.getElem?_eq_some_iff.mp hu
      simpa using this.1
    refine wpAny_pyNext_enum_itemD (draws_tup (A := X.A.in1) (I.ok.hd hc) it a hai its.toArray) he ⟨hit, pt⟩ hi hne (by simp [hne, Ne.symm hae]) fun y h' tk hy ho st' hT hsz hk => ?_
    have ey : y = u := by
      have : its.toArray[i]? = some u := by simpa using hu
      rw [this] at hy
      exact (Option.some.inj hy).symm
    subst ey
    refine ⟨_, rfl, wpAny_letOwnedTupleGo_enum (s := { s with heap := h', toks := tk + 1 }) ho fun h'' he' sb => ?_⟩
    have hT2 : h''.get? s.heap.objs.size = some { cls := .type "tuple", data := .seq #[.int i tk, y] } := (sb.2 _ (Nat.ne_of_gt hel)).trans hT
    have new : ObjOk X.prog X.w (upd H s.heap.objs.size (.tup [.int (i : Nat), x])) h'' s.heap.objs.size (.tup [.int (i : Nat), x]) :=
      ⟨by show 2 ≤ sizeLine; decide, [.int i tk, y], .cons ⟨_, rfl⟩ (.cons ru .nil), ⟨_, hT2, rfl, _, rfl⟩⟩
    have I1 : Inv X pins σ (upd H s.heap.objs.size (.tup [.int (i : Nat), x])) { s with heap := h'', toks := tk + 1 } :=
      I.turnedNew (ch := [e, it]) (fun b ob hb z => (sb.2 b (fun z => hb (by simp [z]))).trans (hk b ob (fun z => hb (by simp [z])) (fun z => hb (by simp [z])) z)) hf (Nat.le_refl _) new
    refine ⟨.ref s.heap.objs.size, _, I1, rfl, ⟨_, x, rfl, I.hok.fresh (Nat.le_refl _), rfl, fun ys hy => by rw [I.tuple_inj hy hq]; exact hx⟩, ⟨⟨y, ?_⟩, ?_, hne⟩, fun b hb => ?_⟩
    · have e1 : ((i + 1 : Nat) : Int) = (i : Int) + 1 := by omega
      rw [e1]; exact he'
    · obtain ⟨o, e1, r⟩ := st'.1
      exact ⟨o, (sb.2 it (Ne.symm hne)).trans e1, r⟩
    · have hb' : b < s.heap.objs.size := by
        have hb : b = e ∨ b = it := by simpa using hb
        rcases hb with rfl | rfl
        · exact hel
        · exact hil
      rw [upd_ne (Nat.ne_of_lt hb')]
      exact (hf b hb).1
  done := by
    intro X hP hw hK hc i pins s σ H E I hf st hg
    subst hP hw hK
    obtain ⟨⟨old, he⟩, hit, hne⟩ := st
    obtain ⟨xs, hq, hx⟩ := hg
    obtain ⟨its, rv, p, hz⟩ := I.tuple hq
    have pt : s.heap.IsTuple a its.toArray := p
    obtain ⟨f0, f1, f2, f3, f4, f5⟩ := hf it (by simp)
    have hl := rv.length
    have fin : ∀ h', Heap.ExtBut it s.heap h' → _ := fun h' eb => (⟨rfl, I.turned (t' := s.toks) (fun b o hb q => eb b o hb q) f0 f1 f3 f4 f5⟩ : (none : Option Value) = none ∧ Inv X pins σ H { s with heap := h' })
    have hT : s.TypeIs (.ref e) "enumerate" := ⟨_, he, rfl⟩
    unfold pyNext
    refine wpAny_bind (wpAny_attempt (wpAny_callSpecial?_slot (name := Str.ofString "__next__") hT F.slot_enumerate_next
      (wpAny_call_entry F.slot_enumerate_next hT F.entry_enumerate_next ?_ (F.args_enumerate_next_1 _))))
    show wpAny _ _ (field (.ref e) 2 >>= _) _ _ _
    refine wpAny_bind (wpAny_field he rfl (x := .ref it) rfl ?_)
    refine wpAny_bind (RZ.nextOf_tuple_end (I.ok.hd hc) hit pt (by simp; omega) fun h' x eb hx' => ?_)
    obtain ⟨o, ho, hcl⟩ := hx'
    refine wpAny_bind (wpAny_isInstance (T := "StopIteration") (b := true) ⟨o, ho, hcl⟩ isSubtype_stop ?_)
    exact wpAny_pure (fin _ eb)
  self := fun A i s Q E st h => by
    obtain ⟨⟨_, he⟩, _⟩ := st
    exact wpAny_pyIter_enum he h
def iEnA (K : PySem.W.Frag) (ta : TA) : TI := fun σ H R => ta σ H fun vs H1 => ∃ a xs, vs = [.ref a] ∧ ((SqL K H1 a xs ∧ R (Ite K a) H1) ∨ (SqT K H1 a xs ∧ R (IteT K a) H1))
theorem pi_enA {X : Cx} {e : Expr} {ta : TA} {p pos tpos : Pos} {elts : List Expr} {kk : Nat} (hg : Gl X "enumerate") (hm : X.mg "enumerate" = none) (ha : PA X [e] ta) (hs : starEach [e] X.env = [(false, eval e X.env)] := by rfl) :
    PI X (.Tuple elts kk tpos) (.Call (.Name "enumerate" p) [e] [] pos) (iEnA X.K ta) := by
  refine ⟨fun pins s σ H R I h => ?_⟩
  refine Call_ (ld_blt I hg hm boot_enumerate (PyProof.Rows.callWith_type1 (thn (ha.run pos pins s σ H _ I h) fun us s1 ⟨vs, H1, I1, r1, q1⟩ => ?_) hs rfl))
  obtain ⟨a, xs, ex, q⟩ := q1
  subst ex
  cases r1 with
  | cons r rr =>
    cases rr
    cases r
    have fin : ∀ b, b ∈ [s1.heap.objs.size + 1, s1.heap.objs.size] → FpOk X pins H1 b := fun b hb => by
      have hb : b = s1.heap.objs.size + 1 ∨ b = s1.heap.objs.size := by simpa using hb
      have hle : s1.heap.objs.size ≤ b := by omega
      exact I1.fpOk hle (I1.hok.fresh hle)
    rcases q with ⟨hq, q⟩ | ⟨hq, q⟩
    · obtain ⟨its, rv, p', hz⟩ := I1.list hq
      refine call_enumerate_list p'.isList fun h' he hit hsz hk => wpAny_pyIter_enum he ?_
      have I2 : Inv X pins σ H1 { s1 with heap := h' } := I1.kept (t' := s1.toks) hk
      exact ⟨s1.heap.objs.size + 1, [s1.heap.objs.size + 1, s1.heap.objs.size], _, _, H1, rfl, I2, turn_enum a (s1.heap.objs.size + 1) s1.heap.objs.size, ⟨⟨.none, he⟩, hit, Nat.succ_ne_self _⟩, fin, q⟩
    · obtain ⟨its, rv, p', hz⟩ := I1.tuple hq
      have pt : s1.heap.IsTuple a its.toArray := p'
      have hlt : a < s1.heap.objs.size := by obtain ⟨o, e1, _⟩ := pt; exact Heap.lt_size e1
      refine call_enumT pt fun h' he hit hk => wpAny_pyIter_enum he ?_
      have I2 : Inv X pins σ H1 { s1 with heap := h' } := I1.kept (t' := s1.toks) hk
      exact ⟨s1.heap.objs.size + 1, [s1.heap.objs.size + 1, s1.heap.objs.size], _, _, H1, rfl, I2, turn_enumT a (s1.heap.objs.size + 1) s1.heap.objs.size (Nat.ne_of_lt (Nat.lt_succ_of_lt hlt)) (Nat.ne_of_lt hlt), ⟨⟨.none, he⟩, hit, Nat.succ_ne_self _⟩, fin, q⟩
/-! ### the mirror -/
def enumD (xs : List D) : List D := xs.zipIdx.map fun p => PyData.tuple [.int (p.2 : Nat), p.1]
theorem enumD_get (xs : List D) (i : Nat) : (enumD xs)[i]? = (xs[i]?).map fun x => PyData.tuple [.int (i : Nat), x] := by
  unfold enumD
  rw [List.getElem?_map, List.getElem?_zipIdx]
  cases xs[i]? <;> simp
def mEnum (ma : ME) : MA := fun ρ δ => (ma ρ δ).bind fun p => match p.1 with
  | .list xs => some (enumD xs, p.2)
  | .tuple xs => some (enumD xs, p.2)
  | _ => none
theorem enumD_len (xs : List D) : (enumD xs).length = xs.length := by unfold enumD; simp
theorem walk_enumL {K M H a xs ds} (h : AL K M H a xs) (r : Reps K M H xs ds) : Walks K M H (Ite K a) (enumD ds) := fun M2 H2 mv wf i => by
  have h2 := h.mv mv
  have r2 := r.mv mv
  have hl := r.length
  have hz := enumD_len ds
  refine ⟨fun hi => ?_, fun hi => ⟨xs, h2.sq, by omega⟩⟩
  have i1 : i < xs.length := by omega
  refine ⟨⟨xs, xs[i], h2.sq, by simp [i1]⟩, fun x H3 y => ?_⟩
  obtain ⟨T, u, rfl, hT, rfl, y1⟩ := y
  obtain ⟨d, e1, rr⟩ := r2.get (y1 xs h2.sq)
  exact ⟨upd_keeps hT, .tuple [.int (i : Nat), d], by rw [enumD_get, e1]; rfl, pair_rep (fun m => wf T m hT) hT (.int _) rr⟩
theorem walk_enumT {K M H a xs ds} (h : AT K M H a xs) (r : Reps K M H xs ds) : Walks K M H (IteT K a) (enumD ds) := fun M2 H2 mv wf i => by
  have h2 := h.mv mv
  have r2 := r.mv mv
  have hl := r.length
  have hz := enumD_len ds
  refine ⟨fun hi => ?_, fun hi => ⟨xs, h2.sq, by omega⟩⟩
  have i1 : i < xs.length := by omega
  refine ⟨⟨xs, xs[i], h2.sq, by simp [i1]⟩, fun x H3 y => ?_⟩
  obtain ⟨T, u, rfl, hT, rfl, y1⟩ := y
  obtain ⟨d, e1, rr⟩ := r2.get (y1 xs h2.sq)
  exact ⟨upd_keeps hT, .tuple [.int (i : Nat), d], by rw [enumD_get, e1]; rfl, pair_rep (fun m => wf T m hT) hT (.int _) rr⟩
theorem pdi_enum {X : Cx} {a : Expr} {ma : ME} {p pos tpos : Pos} {elts : List Expr} {kk : Nat} (hm : X.mg "enumerate" = none) (ha : PD X a ma) (hg : Gl X "enumerate" := by rfl)
    (hs : starEach [a] X.env = [(false, eval a X.env)] := by rfl) : PDI X (.Tuple elts kk tpos) (.Call (.Name "enumerate" p) [a] [] pos) (mEnum ma) := by
  obtain ⟨ta, h1, s1⟩ := ha.ex
  refine ⟨_, pi_enA hg hm (pa_cons h1 pa_nil hs) hs, fun F σ H ρ δ ds δ' G e R q => ?_⟩
  obtain ⟨⟨x, δ1⟩, e1, e⟩ := Option.bind_eq_some_iff.mp e
  refine s1 F σ H ρ δ _ _ G e1 _ fun v H1 G1 M1 R1 => ?_
  dsimp only at e
  split at e
  · cases e
    cases R1 with
    | lst l1 r1 => exact ⟨_, _, rfl, .inl ⟨l1.sq, q _ _ G1 M1 (walk_enumL l1 r1)⟩⟩
  · cases e
    cases R1 with
    | tup l1 r1 => exact ⟨_, _, rfl, .inr ⟨l1.sq, q _ _ G1 M1 (walk_enumT l1 r1)⟩⟩
  · cases e
theorem wa_enum {ρ : List Sl} {δ : Dk} {ma : ME} {P : List D → Dk → Prop} : WA (mEnum ma) ρ δ P ↔ WE ma ρ δ fun x δ1 => ∃ xs, (x = .list xs ∨ x = .tuple xs) ∧ P (enumD xs) δ1 := by
  constructor
  · rintro ⟨d, δ', e, p⟩
    obtain ⟨⟨x, δ1⟩, e1, e⟩ := Option.bind_eq_some_iff.mp e
    dsimp only at e
    split at e
    · cases e; exact ⟨_, _, e1, _, .inl rfl, p⟩
    · cases e; exact ⟨_, _, e1, _, .inr rfl, p⟩
    · cases e
  · rintro ⟨x, δ1, e1, xs, hx, p⟩
    refine ⟨_, δ1, ?_, p⟩
    unfold mEnum
    rw [e1]
    rcases hx with rfl | rfl <;> rfl
end PD

namespace PD
open PySem PySem.Spec PyProof.Rows L2 TL
/-! ### y = [.. for .. for ..] -/
section
variable {X : Cx} {el tg iter : Expr} {ifs : List Expr} {gl : List Comprehension} {sc : Scope} {own : List (Str × Nat)} {ps : Pos}
theorem ps_setLcN {i : Nat} {y : Str} {py spos : Pos} {wi : TI} {g : TG} {tt : TT} {te : TE} {cs : List Cl} (hc : X.calm = true) (hN : X.N.Nodup) (hy : X.N[i]? = some y) (hyl : X.env.scope.names.lookup y = some .local)
    (hsw : swapsWith (.ListComp el (⟨tg, iter, ifs, 0⟩ :: gl) sc ps) (some (.Name y py)) spos.line X.env = pure true) (hi : PI X tg iter wi) (ok : BlkOk X.N X.env.scope sc own)
    (hg : AllBlk X sc fun Y => PG Y tg g) (ht : AllBlk X sc fun Y => PTs Y ifs tt) (he : AllBlk X sc fun Y => PE Y el te) (hcl : AllBlk X sc fun Y => ClsOk Y (own.map (·.2)) gl cs) (hs : ∀ x, foldedSetIterable iter X.env x = pure x := by intro _; rfl) :
    PS X (.Assign [.Name y py] (.ListComp el (⟨tg, iter, ifs, 0⟩ :: gl) sc ps) spos) (tAsg (tLcN wi g tt (own.map (·.2)) cs te) (gName i)) := by
  refine ⟨fun pins s σ H D I h => ?_⟩
  rw [exec_Assign_Name_used _ _ _ _ hsw]
  refine wpAny_bind (wpAny_standAt (wpAny_bind ?_))
  show wpAny _ X.A (do let _ ← comprehension (.ListComp el (⟨tg, iter, ifs, 0⟩ :: gl) sc ps) sc X.env (firstIterPos (⟨tg, iter, ifs, 0⟩ :: gl) ps) (newList []) false (eval iter X.env) (some (assign (.Name y py) X.env))) _ _ s
  have h : tLcN wi g tt (own.map (·.2)) cs te σ H (fun x H1 => gName i x σ H1 D.nx) := h
  refine wpAny_bind (thn (lcN_core (Qf := fun _ s' => SP X pins D .next s') hc hN I hi ok hg ht he hcl hs h fun L C s' m H' I' q hn f => ?_) fun _ s' hq => wpAny_pure (wpAny_pure hq))
  show wpAny _ _ (assign (.Name y py) X.env (.ref L)) _ _ _
  refine wpAny_assign_Name (store_ok2 (v := V.ref L) I' hN hy (.inl hyl) rfl (fun s2 I2 ⟨a, sb, ha⟩ => ?_) (.inr hyl))
  obtain ⟨f0, f1, f2, f3, f4, f5⟩ := f
  have nC : C ≠ a := by
    rcases ha with z | z
    · rw [z]
      exact f1
    · intro e
      exact f4 y a z e.symm
  refine ⟨m, hn.sameBut sb nC, fun h3 sb3 => ?_⟩
  exact ⟨_, H', I2.turned (t' := s2.toks) (fun b o hb e => (sb3.2 b hb).trans e) f0 f1 f3 f4 f5, q⟩
theorem pds_setLcN (i : Nat) {y : Str} {py spos : Pos} {mi : MA} {mg : MG} {mt : MT} {mr : MR} {sl : List Nat} (hc : X.calm = true) (hN : X.N.Nodup) (hi : PDI X tg iter mi) (ok : BlkOk X.N X.env.scope sc own) (g : AllBlk X sc fun Y => PDG Y tg sl mg) (t : AllBlk X sc fun Y => PDTs Y ifs mt) (o : ∀ i ∈ sl, i ∈ own.map (·.2)) (B : BlkN X sc (own.map (·.2)) gl el mr)
    (hsw : swapsWith (.ListComp el (⟨tg, iter, ifs, 0⟩ :: gl) sc ps) (some (.Name y py)) spos.line X.env = pure true) (hy : X.N[i]? = some y := by rfl) (hyl : X.env.scope.names.lookup y = some .local := by rfl) (hs : ∀ x, foldedSetIterable iter X.env x = pure x := by intro _; rfl) :
    PDS X (.Assign [.Name y py] (.ListComp el (⟨tg, iter, ifs, 0⟩ :: gl) sc ps) spos) (sAsg (mLcN (mFor mi (own.map (·.2)) mg mt mr)) (gSet i)) := by
  obtain ⟨wi, h1, s1⟩ := hi.ex
  obtain ⟨cs, te, c1, c2, c3⟩ := B.ex
  refine ⟨tAsg (tLcN wi (fun v σ H Q => ∀ s h C cl fp, (g s h C cl fp).ex.choose v σ H Q) (fun σ H Q => ∀ s h C cl fp, (t s h C cl fp).ex.choose σ H Q) _ cs te) (gName i), ps_setLcN hc hN hy hyl hsw h1 ok ?_ ?_ c2 c1 hs, snd_asg (snd_lcN (sl := sl) c3 s1 ?_ ?_ o) (pg_set i)⟩
  · exact fun s h C cl fp => ⟨fun pins s' σ H v u Q I r q => (g s h C cl fp).ex.choose_spec.1.run pins s' σ H v u Q I r (q s h C cl fp)⟩
  · exact fun s h C cl fp => ⟨fun pins s' σ H Q I q => (t s h C cl fp).ex.choose_spec.1.run pins s' σ H Q I (q s h C cl fp)⟩
  · exact fun F σ H ρ δ v d ρ' G r e Q q s h C cl fp => (g s h C cl fp).ex.choose_spec.2 F σ H ρ δ v d ρ' G r e Q q
  · exact fun F σ H ρ δ d δ' G e Q q s h C cl fp => (t s h C cl fp).ex.choose_spec.2 F σ H ρ δ d δ' G e Q q
end
/-! ### x.extend(e) -/
section
variable {X : Cx} {e : Expr} {ma : ME} {pos : Pos}
def sExt (i : Nat) (me : ME) : MS := fun ρ δ => match ρ[i]? with
  | some (.own (.lst ds)) => (me ρ δ).bind fun p => match p.1 with
    | .list es => if ds.length + es.length ≤ sizeLine then some (.nx, ρ.set i (.uni (ds ++ es)), p.2) else none
    | _ => none
  | _ => none
theorem pds_ext (i : Nat) {x : Str} {apos cpos p0 : Pos} (he : PD X e ma) (hN : X.N[i]? = some x := by rfl) (hv : Vis X.env.scope x := by first | exact Or.inl rfl | exact Or.inr (Or.inl rfl) | exact Or.inr (Or.inr rfl)) (hd : (x == ("__debug__" : Str)) = false := by decide)
    (hcd : (x == ("__classdict__" : Str)) = false := by decide) (hbase : attributeBase (.Name x p0) "extend" X.env (eval (.Name x p0) X.env) = eval (.Name x p0) X.env := by rfl)
    (hfew : ((backTo cpos (starEach [e] X.env)).all (fun x => !x.1) && (backToKw cpos (keywordEach [] X.env)).all (fun x => x.1.isSome)
      && decide ([e].length + ([] : List Keyword).length + (if ([] : List Keyword).isEmpty then 0 else 1) < 30)) = true := by rfl)
    (hline : (apos.endLine == cpos.line) = true := by rfl) (hs : starEach [e] X.env = (false, eval e X.env) :: starEach [] X.env := by rfl) (hplain : (backTo cpos (starEach [] X.env)).any (·.1) = false := by rfl)
    (hsw : swapsWith (.Call (.Attribute (.Name x p0) "extend" apos) [e] [] cpos) none pos.line X.env = pure false := by rfl) :
    PDS X (.Expr (.Call (.Attribute (.Name x p0) "extend" apos) [e] [] cpos) pos) (sExt i ma) := by
  obtain ⟨t, p1, s1⟩ := he.ex
  refine ⟨_, ps_expr (pe_bm PySem.F.plainAttrs_list PySem.F.slot_list_extend PySem.F.type_list_extend mt_extend (pe_var hN hv hd hcd) (pa_cons p1 pa_nil hs) hbase hfew hline hs hplain) hsw, fun F σ H ρ δ fl ρ' δ' G e D q => ?_⟩
  unfold sExt at e
  split at e
  · rename_i ds hi
    obtain ⟨⟨y, δ1⟩, e1, e⟩ := Option.bind_eq_some_iff.mp e
    dsimp only at e
    split at e
    · rename_i es
      split at e
      · rename_i hz
        cases e
        obtain ⟨a, xs, f1, f2, f3, f4⟩ := G.uni i ds hi
        refine ⟨_, f1, .inl ⟨rfl, xs, SqL.of f2⟩, s1 F σ H ρ δ _ _ G e1 _ fun v H1 G1 M1 R1 => ?_⟩
        obtain ⟨a', xs', g1, g2, g3, g4⟩ := G1.uni i ds hi
        rw [f1] at g1
        cases g1
        cases R1 with
        | @lst b ws _ hb r2 =>
          obtain ⟨G2, M2⟩ := G1.uniWrite (ys := xs' ++ ws) (es := ds ++ es) i hi f1 (g3.append r2)
          exact ⟨a, b, xs', ws, rfl, rfl, g2, hb.2, by rw [g3.length, r2.length]; exact hz, q _ _ G2 (M1.trans M2)⟩
      · cases e
    · cases e
  · cases e
theorem ws_ext {ρ : List Sl} {δ : Dk} {i : Nat} {m : ME} {ds : List D} {P : Fl → List Sl → Dk → Prop} (hi : ρ[i]? = some (.uni ds)) (h : WE m ρ δ fun x δ1 => ∃ es, x = .list es ∧ ds.length + es.length ≤ sizeLine ∧ P .nx (ρ.set i (.uni (ds ++ es))) δ1) : WS (sExt i m) ρ δ P := by
  obtain ⟨x, δ1, e1, es, rfl, hz, p⟩ := h
  refine ⟨_, _, _, ?_, p⟩
  unfold sExt
  rw [hi]
  show ((m ρ δ).bind _) = _
  rw [e1]
  exact if_pos hz
/-! ### x = e[lo:hi], x a list that is changed later -/
def sUniC (i : Nat) (ma : ME) (ml mh : MO) : MS := fun ρ δ => (ma ρ δ).bind fun p => (ml ρ p.2).bind fun l => (mh ρ l.2).bind fun h => match p.1 with
  | .list ds => if i < ρ.length then some (.nx, ρ.set i (.uni (cutD ds l.1 h.1)), h.2) else none
  | _ => none
theorem pds_uniC (i : Nat) {x : Str} {pos' p2 p3 : Pos} {lo up : Option Expr} {ml mh : MO} (hN : X.N.Nodup) (he : PD X e ma) (hl : PDO X lo ml) (hh : PDO X up mh) (hi : X.N[i]? = some x := by rfl) (hx : Loc X.env.scope x := by first | exact Or.inl rfl | exact Or.inr rfl) (hs : swapsWith (.Subscript e (.Slice lo up none p2) p3) (some (.Name x pos')) pos.line X.env = pure false := by rfl) (hf : X.fn x = true ∨ X.env.scope.names.lookup x = some .local := by first | exact .inl rfl | exact .inr rfl | assumption) :
    PDS X (.Assign [.Name x pos'] (.Subscript e (.Slice lo up none p2) p3) pos) (sUniC i ma ml mh) := by
  obtain ⟨t, h1, s1⟩ := he.ex
  obtain ⟨tl, h2, s2⟩ := hl.ex
  obtain ⟨th, h3, s3⟩ := hh.ex
  refine ⟨_, ps_set hN hi hx (pe_slice sl_list h1 h2 h3) hs hf, fun F σ H ρ δ fl ρ' δ' G e D q => ?_⟩
  obtain ⟨⟨d, δ1⟩, e1, e⟩ := Option.bind_eq_some_iff.mp e
  obtain ⟨⟨l, δ2⟩, e2, e⟩ := Option.bind_eq_some_iff.mp e
  obtain ⟨⟨u, δ3⟩, e3, e⟩ := Option.bind_eq_some_iff.mp e
  dsimp only at e1 e2 e3 e
  split at e
  · rename_i ds
    split at e
    · rename_i hlt
      cases e
      refine s1 F σ H ρ δ _ _ G e1 _ fun v H1 G1 M1 R1 => s2 F σ H1 ρ δ1 l δ2 G1 e2 _ fun H2 G2 M2 => s3 F σ H2 ρ δ2 u _ G2 e3 _ fun H3 G3 M3 => ?_
      have R := (R1.mv M2).mv M3
      have MM := (M1.trans M2).trans M3
      cases R with
      | @lst a vs _ ha r =>
        refine ⟨_, _, rfl, ha.sq, fun p hp => ?_⟩
        obtain ⟨G4, M4⟩ := G3.uniNew i hlt hp r.cut
        exact q _ _ G4 (MM.trans M4)
    · cases e
  · cases e
theorem ws_uniC {ρ : List Sl} {δ : Dk} {i : Nat} {ma : ME} {ml mh : MO} {P : Fl → List Sl → Dk → Prop} (h : WE ma ρ δ fun x δ1 => WO ml ρ δ1 fun l δ2 => WO mh ρ δ2 fun u δ3 => ∃ ds, x = .list ds ∧ i < ρ.length ∧ P .nx (ρ.set i (.uni (cutD ds l u))) δ3) : WS (sUniC i ma ml mh) ρ δ P := by
  obtain ⟨x, δ1, e1, l, δ2, e2, u, δ3, e3, ds, rfl, hl, p⟩ := h
  refine ⟨_, _, _, ?_, p⟩
  unfold sUniC
  rw [e1]
  show ((ml ρ δ1).bind _) = _
  rw [e2]
  show ((mh ρ δ2).bind _) = _
  rw [e3]
  exact if_pos hl
end
/-! ### a text taken no times, once -/
def rMulS1 : R2 := fun x y H Q => ∃ a k, x = .str a ∧ y = .int k ∧ 0 ≤ k ∧ k ≤ 1000 ∧ a.length ≤ 1000 ∧ Q (.str (if k = 0 then Str.empty else repS a k.toNat)) H
theorem rep_one (a : Str) : repS a 1 = a := by
  refine ext_tl ?_
  rw [tl_rep]
  simp
theorem op_mulS1 {X : Cx} : OpR X (binaryOp .Mult) rMulS1 := by
  intro pins s σ H x y v u Q I rx ry h
  obtain ⟨a, k, rfl, rfl, h2, h3, h4, q⟩ := h
  by_cases hk : 2 ≤ k
  · rw [if_neg (by omega)] at q
    exact op_mulS pins s σ H _ _ v u Q I rx ry ⟨a, k, rfl, rfl, hk, h3, h4, q⟩
  · obtain ⟨t, rfl⟩ := rx
    obtain ⟨t', rfl⟩ := ry
    refine PySem.P.mul_str ?_ (fun e1 e2 => ?_) (fun e1 e2 => ?_) ?_
    · rw [decide_eq_false (show ¬ k < -(2 ^ 63 : Int) by omega), decide_eq_false (show ¬ k ≥ 2 ^ 63 by omega)]; rfl
    · have : k = 1 := by omega
      subst this
      cases e2
    · have : k = 1 := by omega
      subst this
      cases e2
    · by_cases h0 : k = 0
      · subst h0
        rw [if_pos rfl] at q
        rw [if_pos (by decide)]
        exact ⟨by decide, ⟨.str _, H, I.tok _, ⟨_, rfl⟩, q⟩⟩
      · have h1 : k = 1 := by omega
        subst h1
        rw [if_neg (by decide)] at q
        rw [if_neg (by decide), if_pos (by rfl)]
        refine ⟨.str a, H, I, ⟨_, rfl⟩, ?_⟩
        have e : repS a (1 : Int).toNat = a := rep_one a
        rw [e] at q
        exact q
def mulS1 : D → D → Option D
  | .str a, .int k => if 0 ≤ k ∧ k ≤ 1000 ∧ a.length ≤ 1000 then some (.str (if k = 0 then Str.empty else repS a k.toNat)) else none
  | _, _ => none
theorem ops_mulS1 {K} : OpS K rMulS1 mulS1 := fun F σ H ρ δ x y d e z G rx ry hz Q q => by
  unfold mulS1 at hz
  split at hz
  · split at hz
    · rename_i h
      cases hz
      cases ry
      cases rx
      exact ⟨_, _, rfl, rfl, h.1, h.2.1, h.2.2, q _ _ (fun _ _ e => e) (.str _)⟩
    · cases hz
  · cases hz
theorem pd_mulS1 {X : Cx} {a b : Expr} {ma mb : ME} {pos : Pos} (ha : PD X a ma) (hb : PD X b mb) : PD X (.BinOp a .Mult b pos) (mBin mulS1 ma mb) := PD.op op_mulS1 ops_mulS1 ha hb
end PD

namespace PD
open PySem PySem.Spec PyProof.Rows L2 TL
/-! ### x = list(e), x a list that is changed later -/
section
variable {X : Cx} {e : Expr} {ma : ME} {pos : Pos}
def sUniL (i : Nat) (m : ME) : MS := fun ρ δ => (m ρ δ).bind fun p => match p.1 with
  | .list ds => if i < ρ.length then some (.nx, ρ.set i (.uni ds), p.2) else none
  | .tuple ds => if i < ρ.length then some (.nx, ρ.set i (.uni ds), p.2) else none
  | _ => none
theorem pds_uniL (i : Nat) {x : Str} {pos' p2 p3 : Pos} (hN : X.N.Nodup) (hm : X.mg "list" = none) (he : PD X e ma) (hi : X.N[i]? = some x := by rfl) (hx : Loc X.env.scope x := by first | exact Or.inl rfl | exact Or.inr rfl) (hs : swapsWith (.Call (.Name "list" p2) [e] [] p3) (some (.Name x pos')) pos.line X.env = pure false := by rfl) (hf : X.fn x = true ∨ X.env.scope.names.lookup x = some .local := by first | exact .inl rfl | exact .inr rfl)
    (hg : Gl X "list" := by rfl) (hst : starEach [e] X.env = (false, eval e X.env) :: starEach [] X.env := by rfl) (hpl : (backTo p3 (starEach [] X.env)).any (·.1) = false := by rfl) :
    PDS X (.Assign [.Name x pos'] (.Call (.Name "list" p2) [e] [] p3) pos) (sUniL i ma) := by
  obtain ⟨t, p1, s1⟩ := he.ex
  refine ⟨_, ps_set hN hi hx (pe_callTy call_list_of hg hm (by decide +kernel) (pa_cons p1 pa_nil hst) (by decide) (by decide) hst hpl) hs hf, fun F σ H ρ δ fl ρ' δ' G e D q => ?_⟩
  obtain ⟨⟨d, δ1⟩, e1, e⟩ := Option.bind_eq_some_iff.mp e
  dsimp only at e
  split at e
  · split at e
    · rename_i hz
      cases e
      refine s1 F σ H ρ δ _ _ G e1 _ fun v H1 G1 M1 R1 => ?_
      cases R1 with
      | @lst a vs _ ha r =>
        refine ⟨_, _, rfl, .inl ha.sq, fun l hl => ?_⟩
        obtain ⟨G2, M2⟩ := G1.uniNew i hz hl r
        exact q _ _ G2 (M1.trans M2)
    · cases e
  · split at e
    · rename_i hz
      cases e
      refine s1 F σ H ρ δ _ _ G e1 _ fun v H1 G1 M1 R1 => ?_
      cases R1 with
      | @tup a vs _ ha r =>
        refine ⟨_, _, rfl, .inr ha.sq, fun l hl => ?_⟩
        obtain ⟨G2, M2⟩ := G1.uniNew i hz hl r
        exact q _ _ G2 (M1.trans M2)
    · cases e
  · cases e
theorem ws_uniL {ρ : List Sl} {δ : Dk} {i : Nat} {m : ME} {P : Fl → List Sl → Dk → Prop} (h : WE m ρ δ fun x δ1 => ∃ ds, (x = .list ds ∨ x = .tuple ds) ∧ i < ρ.length ∧ P .nx (ρ.set i (.uni ds)) δ1) : WS (sUniL i m) ρ δ P := by
  obtain ⟨x, δ1, e1, ds, hx, hl, p⟩ := h
  refine ⟨_, _, _, ?_, p⟩
  unfold sUniL
  rw [e1]
  rcases hx with rfl | rfl <;> exact if_pos hl
end
end PD

namespace PD
open PySem PySem.Spec PyProof.Rows L2 TL
/-! ### not e as a value, by truth -/
def notT (d : D) : Option D := (truD d).map fun b => .bool !b
theorem pd_notT {X : Cx} {a : Expr} {ma : ME} {pos : Pos} (ha : PD X a ma) : PD X (.UnaryOp .Not a pos) (mUn notT ma) := by
  obtain ⟨ta, h1, s1⟩ := ha.ex
  refine ⟨_, pe_notT h1, fun F σ H ρ δ d δ' G e Q q => ?_⟩
  obtain ⟨⟨x, δ1⟩, e1, e⟩ := Option.bind_eq_some_iff.mp e
  obtain ⟨z, e3, e⟩ := Option.map_eq_some_iff.mp e
  obtain ⟨b, e4, rfl⟩ := Option.map_eq_some_iff.mp e3
  cases e
  exact s1 F σ H ρ δ x δ1 G e1 _ fun v H1 G1 M1 R1 => ⟨b, R1.tru e4, q _ _ G1 M1 (.bl _)⟩
end PD

namespace QS
open PySem PySem.Spec PyProof.Rows L2
/-! ### a set of texts that may be walked: its table is in order -/
section
variable (P : Program) (w : World)
def tx (e : Int × Value) : Str := match e.2 with
  | .str x _ => x
  | _ => Str.empty
def Fine (e : Int × Value) : Prop := ∃ x tk, e = ((strKind P w).hash x, Value.str x tk)
/-- the entries es, laid out by t, are the texts of l -/
structure Lies (es : Array (Int × Value)) (t : SetTable) (l : List Str) : Prop where
  fine : ∀ e ∈ es.toList, Fine P w e
  perm : (es.toList.map tx).Perm l
  nd : l.Nodup
  few : es.size < scanBound
  fits : t.fits es.size = true
  ris : Ris t.place.toList
  led : w.params.followText "set-order" = true ∨ t.led = true
def AtR (h : Heap) (a : Addr) (l : List Str) : Prop := ∃ o es ep t, h.get? a = some o ∧ o.ExactSet ∧ o.data = .set es ep t ∧ Lies P w es t l
end
section
variable {P : Program} {w : World} {A : Around} {E : Value → Shared → Prop} {s : Shared} {a : Addr}
theorem AtR.keep {h h' : Heap} {l : List Str} (H : AtR P w h a l) (k : ∀ o, h.get? a = some o → h'.get? a = some o) : AtR P w h' a l := by
  obtain ⟨o, es, ep, t, ho, r⟩ := H
  exact ⟨o, es, ep, t, k o ho, r⟩
theorem Lies.elems {es : Array (Int × Value)} {t : SetTable} {l : List Str} (L : Lies P w es t l) : ElemsOf (strKind P w) es.toList := fun e he => by
  obtain ⟨x, tk, rfl⟩ := L.fine e he
  exact ⟨⟨x, strKind_is P w x tk, rfl⟩, rfl⟩
theorem fine_is {e : Int × Value} (h : Fine P w e) {x : Str} : (strKind P w).is x e.2 = true ↔ tx e = x := by
  obtain ⟨y, tk, rfl⟩ := h
  constructor
  · intro q
    have q : (y == x) = true := q
    exact eq_of_beq q
  · intro q
    have q : y = x := q
    subst q
    exact strKind_is P w y tk
theorem Lies.relay {es : Array (Int × Value)} {t : SetTable} {l : List Str} (L : Lies P w es t l) (n : Nat) : Lies P w (relayAll t es n).1 (relayAll t es n).2.1 l := by
  have pm := relayAll_perm t es n
  have hs : (relayAll t es n).1.size = es.size := by rw [← Array.length_toList, pm.length_eq, Array.length_toList]
  exact ⟨fun e he => L.fine e (pm.mem_iff.mp he), (pm.map tx).trans L.perm, L.nd, by rw [hs]; exact L.few, relayAll_fits t es n, relayAll_ris t es n, L.led.imp id fun z => by rw [relayAll_led]; exact z⟩
theorem store_set {l : List Str} {o : Obj} {es es' : Array (Int × Value)} {ep : Nat} {t t' : SetTable} {Q : Unit → Shared → Prop} (ho : s.heap.get? a = some o) (hx : o.ExactSet) (hd : o.data = .set es ep t) (L : Lies P w es' t' l)
    (hQ : ∀ h' o', Heap.SameBut a s.heap h' → h'.get? a = some o' → o'.ExactSet → o'.data = .set es' (ep + 1) t' → Q () { s with heap := h' }) : wpAny (model P w) A (storeSet a es' t') Q E s :=
  wpAny_storeSet_of ho hd (hQ _ _ (Heap.SameBut.update s.heap a (Obj.putSet es' t')) (store_at ho hd) hx rfl) (fits_of_scanBound L.few)
theorem AtR.put {l : List Str} {x : Str} {tk : Tok} {Q : Bool → Shared → Prop} (H : AtR P w s.heap a l) (room : l.length + 1 < scanBound)
    (hQ : ∀ (b : Bool) h', Heap.SameBut a s.heap h' → AtR P w h' a (putK l x) → Q b { s with heap := h' }) : wpAny (model P w) A (setAddHashed a (.str x tk) ((strKind P w).hash x)) Q E s := by
  obtain ⟨o, es, ep, t, ho, hex, hd, L⟩ := H
  have hsc : (Value.str x tk).scannable = true := rfl
  have mem : x ∈ l ↔ ∃ e ∈ es.toList, (strKind P w).is x e.2 = true := by
    rw [← L.perm.mem_iff, List.mem_map]
    exact ⟨fun ⟨e, he, q⟩ => ⟨e, he, (fine_is (L.fine e he)).mpr q⟩, fun ⟨e, he, q⟩ => ⟨e, he, (fine_is (L.fine e he)).mp q⟩⟩
  have quiet : ∀ (b : Bool) (s₁ : Shared) (Q' : Unit → Shared → Prop), Q' () s₁ → wpAny (model P w) A (match b with | true => rule "set.scan.the-table-gave-way" | false => pure ()) Q' E s₁ := fun b s₁ Q' q => by
    cases b
    · exact wpAny_pure q
    · exact wpAny_rule q
  unfold setAddHashed setAddHashedIn
  refine wpAny_holding (wpAny_bind (wpAny_setState_of ho hd L.fits ?_))
  dsimp only
  rw [byScan_of hsc L.few L.elems]
  simp only [↓reduceIte]
  unfold setAddByScan
  refine wpAny_bind (wpAny_bind (wpAny_rule (wpAny_bind (wpAny_setScan_of (strKind_is P w x tk) ho hd L.fits L.elems ?_))))
  cases hfi : List.findIdx? (fun e => (strKind P w).is x e.2) es.toList with
  | some j =>
    dsimp only
    obtain ⟨hj, pj, _⟩ := List.findIdx?_eq_some_iff_getElem.mp hfi
    have hx : x ∈ l := mem.mpr ⟨_, List.getElem_mem hj, pj⟩
    refine wpAny_pure (wpAny_pure (hQ _ s.heap (Heap.SameBut.refl a s.heap) ⟨o, es, ep, t, ho, hex, hd, ?_⟩))
    unfold putK
    rw [if_pos hx]
    exact L
  | none =>
    dsimp only
    have hx : x ∉ l := fun z => by
      obtain ⟨e, he, q⟩ := mem.mp z
      rw [List.findIdx?_eq_none_iff.mp hfi e he] at q
      cases q
    have pm := layNew_perm t es ((strKind P w).hash x) (.str x tk)
    have hf1 := layNew_fits t es ((strKind P w).hash x) (.str x tk)
    have hr1 := layNew_ris t es ((strKind P w).hash x) (.str x tk) L.ris
    have hl1 := layNew_led t es ((strKind P w).hash x) (.str x tk)
    generalize layNew t es ((strKind P w).hash x) (.str x tk) = Z at pm hf1 hr1 hl1 ⊢
    obtain ⟨es1, t1, wasDummy, gave⟩ := Z
    dsimp only at pm hf1 hr1 hl1 ⊢
    rw [Array.toList_push] at pm
    have pc : es1.toList.Perm (((strKind P w).hash x, Value.str x tk) :: es.toList) := pm.trans (List.perm_append_singleton _ _)
    have hsz : es1.size = l.length + 1 := by
      rw [← Array.length_toList, pc.length_eq, List.length_cons, ← L.perm.length_eq, List.length_map]
    have go : ∀ t2 : SetTable, t2.fits es1.size = true → Ris t2.place.toList → t2.led = t1.led → Lies P w es1 t2 (putK l x) := fun t2 f r d => by
      unfold putK
      rw [if_neg hx]
      refine ⟨fun e he => ?_, (pc.map tx).trans (L.perm.cons x), List.nodup_cons.mpr ⟨hx, L.nd⟩, by rw [hsz]; exact room, f, r, L.led.imp id fun z => by rw [d, hl1]; exact z⟩
      rcases List.mem_cons.mp (pc.mem_iff.mp he) with z | z
      · exact ⟨x, tk, z⟩
      · exact L.fine e z
    have tail : ∀ (t2 : SetTable) (R : Option Bool → Shared → Prop), Lies P w es1 t2 (putK l x) → (∀ h', Heap.SameBut a s.heap h' → AtR P w h' a (putK l x) → R (some true) { s with heap := h' }) →
        wpAny (model P w) A (do
          storeSet a es1 t2
          if (!wasDummy && t2.tooFull) = true then do
              (match (relayAll t2 es1 (SetTable.grown es1.size)).2.2 with | true => rule "set.scan.the-table-gave-way" | false => pure ())
              storeSet a (relayAll t2 es1 (SetTable.grown es1.size)).1 (relayAll t2 es1 (SetTable.grown es1.size)).2.1
              pure (some true)
            else pure (some true)) R E s := fun t2 R L2 hR => by
      refine wpAny_bind (store_set ho hex hd L2 fun h1 o1 sb1 ho1 hex1 hd1 => ?_)
      split
      · refine wpAny_bind (quiet _ _ _ (wpAny_bind (store_set ho1 hex1 hd1 (L2.relay _) fun h2 o2 sb2 ho2 hex2 hd2 => wpAny_pure (hR h2 (sb1.trans sb2) ⟨o2, _, _, _, ho2, hex2, hd2, L2.relay _⟩))))
      · exact wpAny_pure (hR h1 sb1 ⟨o1, _, _, _, ho1, hex1, hd1, L2⟩)
    refine wpAny_bind (quiet _ _ _ ?_)
    split
    · refine wpAny_bind ?_
      rw [hashByValue_scannable 8 hsc]
      refine wpAny_pure ?_
      refine tail _ _ ?_ fun h' sb r => ?_
      · first
          | (split
             · exact go _ hf1 hr1 rfl
             · exact go _ (SetTable.fits_plain_off hf1) hr1 rfl)
          | (split
             · exact go _ (SetTable.fits_plain_off hf1) hr1 rfl
             · exact go _ hf1 hr1 rfl)
          | exact go _ hf1 hr1 rfl
      · dsimp only; exact wpAny_pure (hQ true h' sb r)
    · refine wpAny_bind (wpAny_pure ?_)
      simp only [↓reduceIte]
      refine tail _ _ (go _ hf1 hr1 rfl) fun h' sb r => ?_
      dsimp only
      exact wpAny_pure (hQ true h' sb r)
end
end QS

namespace QSR
open PySem PySem.Spec PyProof.Rows L2 TL PD QS
section
variable {P : Program} {w : World} {A : Around} {R : Result → Shared → Prop} {it S : Addr} {fp wr : List Addr} {G : Array GenState → Array GenState → Prop} {n : Nat} {Pv : Nat → Value → Prop} {St : Nat → Shared → Prop}
/-- the loop that fills the set, from the place i on -/
theorem fill (W : WalksS P w A.in1 it fp wr G n Pv St) (hS : S ∉ fp) (xs : List Str) (hn : xs.length = n) (hb : n + 1 < scanBound) (hv : ∀ i v, Pv i v → ∃ x t, xs[i]? = some x ∧ v = .str x t) :
    ∀ (rest : List Str) (i : Nat) (acc : List Str) (s : Shared), xs.drop i = rest → i + rest.length = n → acc.length ≤ i → St i s → AtR P w s.heap S acc →
      (∀ s', Moved (S :: wr) G s s' → AtR P w s'.heap S (rest.foldl putK acc) → R (.ok (.ret .none)) s') →
      codeAny (model P w) A (.builtin "set.update.loop" ⟨[.ref S, .ref it], []⟩) R s := by
  have nw : S ∉ wr := fun h => hS (W.sub _ h)
  have up : ∀ b ∈ wr, b ∈ S :: wr := fun b hb => List.mem_cons_of_mem _ hb
  intro rest
  induction rest with
  | nil =>
    intro i acc s hr hi _ hst hA k
    have ei : i = n := by simpa using hi
    subst ei
    refine codeAny_builtin PyProof.Rows.F.entry_set_update_loop ?_
    rw [Around.under_plainId PyProof.Rows.F.plain_set_update_loop _]
    show wpAny _ A.in1 (pyNext (.ref it) >>= _) _ _ s
    exact wpAny_bind (W.done s _ _ hst fun s' mv => wpAny_pure (k s' (mv.mono up) (hA.keep fun o e => mv.heap S o nw e)))
  | cons x rest ih =>
    intro i acc s hr hi ha hst hA k
    have hi1 : i < n := by rw [List.length_cons] at hi; omega
    have hx : xs[i]? = some x := by
      have := congrArg List.head? hr
      rwa [List.head?_drop, List.head?_cons] at this
    have hd : xs.drop (i + 1) = rest := by
      rw [← List.drop_drop, hr] <;> rfl
    refine codeAny_builtin PyProof.Rows.F.entry_set_update_loop ?_
    rw [Around.under_plainId PyProof.Rows.F.plain_set_update_loop _]
    show wpAny _ A.in1 (pyNext (.ref it) >>= _) _ _ s
    refine wpAny_bind (W.item i s _ _ hi1 hst fun v s' hP hst' mv => ?_)
    obtain ⟨y, t, hy, rfl⟩ := hv i v hP
    have hxy : y = x := by
      have h2 : xs[i]? = some y := hy
      rw [hx] at h2
      cases h2
      rfl
    subst hxy
    have hA' := hA.keep (h' := s'.heap) fun o e => mv.heap S o nw e
    show wpAny _ A.in1 (holding [Value.str y t] (setAdd S (.str y t)) >>= _) _ _ s'
    refine wpAny_bind (wpAny_holding ?_)
    unfold setAdd
    refine wpAny_holding ?_
    have isy : (PySem.strKind P w).is y (.str y t) = true := PySem.strKind_is P w y t
    refine wpAny_bind ((PySem.strKind P w).pyHash (k := y) isy ?_)
    refine AtR.put (s := { s' with toks := s'.toks + 1 }) hA' (by omega) fun b h' same hA2 => ?_
    have stay : ∀ b o, b ≠ S → s'.heap.get? b = some o → h'.get? b = some o := fun b o hb e => by rw [same.2 b hb]; exact e
    refine wpAny_pure ⟨plainId_quiet PyProof.Rows.F.plain_set_update_loop _, ih (i + 1) (putK acc y) _ hd (by rw [List.length_cons] at hi; omega) ?_ (W.frame _ s' _ _ hst' (Nat.le_succ _) fun b hb o e => stay b o (fun z => hS (z ▸ hb)) e) hA2 fun s'' mv2 hA3 => ?_⟩
    · rw [putK_len]; split <;> omega
    · exact k s'' (Moved.trans W.gtrans ((mv.mono up).then_heap (Nat.le_succ _) fun b o hb e => stay b o (fun z => hb (by rw [z]; exact .head _)) e) mv2) hA3
end
section
variable {P : Program} {w : World} {A : Around} {E : Value → Shared → Prop} {s : Shared}
theorem fresh_at {h : Heap} : AtR P w (h.push (fresh w)) h.objs.size [] :=
  ⟨_, #[], 0, _, Heap.get?_push_size _ rfl, ⟨rfl, rfl, rfl⟩, rfl, fun e he => by simp at he, List.Perm.refl _, List.nodup_nil, by decide, by rfl, List.Pairwise.nil, by
    cases h : w.params.followText "set-order"
    · exact .inr (by simp [SetTable.fresh, h])
    · exact .inl rfl⟩
/-- what the filled set's heap is -/
structure Done (P : Program) (w : World) (s : Shared) (l : List Str) (s' : Shared) : Prop where
  same : ∃ tk, s' = { s with heap := s'.heap, toks := tk }
  at_ : AtR P w s'.heap s.heap.objs.size l
  keep : ∀ b o, s.heap.get? b = some o → s'.heap.get? b = some o
/-- the new set is filled of v, and then holds l -/
def Fills (P : Program) (w : World) (A : Around) (E : Value → Shared → Prop) (s : Shared) (v : Value) (l : List Str) : Prop :=
  wpAny (model P w) A.in1.in1 (Builtin.«set.__init__» ⟨[.ref s.heap.objs.size, v], []⟩)
    (fun fin s' => match fin with
      | .done f => wants (fun r s2 => r = Value.none ∧ Done P w s l s2) E (.ok f) s'
      | .again c' => c'.quiet = true ∧ codeAny (model P w) A.in1 c' (wants (fun r s2 => r = Value.none ∧ Done P w s l s2) E) s')
    (fun e s' => wants (fun r s2 => r = Value.none ∧ Done P w s l s2) E (.error e) s')
    { s with heap := s.heap.push (fresh w) }
set_option maxHeartbeats 3200000 in
theorem set_by {v : Value} {l : List Str} {Q : Value → Shared → Prop}
    (hi : Fills P w A E s v l)
    (h : ∀ s2, Done P w s l s2 → Q (.ref s.heap.objs.size) s2) : wpAny (model P w) A (call (.type "set") [v]) Q E s := by
  obtain ⟨c, tl, hmro⟩ := PySem.F.called_set.mro
  have k1 := PySem.F.called_set.made
  have k2 := PySem.F.called_set.sub
  have k3 := PySem.F.called_set.notType
  have k4 := PySem.F.called_set.canCreate
  have k5 := PySem.F.typeCall_set_1 v
  refine wpAny_call (codeAny_of_tree ?_)
  show wpAny _ _ (callAny (.type "set") _) _ _ _
  refine wpAny_pure ⟨Code.quiet_builtin _ (by decide +kernel), codeAny_builtin PySem.F.entry_type_call ?_⟩
  rw [Around.under_plain (weight_type_call_type "set" [v] []) rfl]
  repeat (any_goals (first | assumption | wp_step))
  refine codeAny_mono (code_set_led1 v (E := E) (Q₁ := fun o s1 => o = .ref s.heap.objs.size ∧ s1 = { s with heap := s.heap.push (fresh w) }) ⟨rfl, rfl⟩) fun r s1 hr => ?_
  match r, hr with
  | .error e, hr => exact hr
  | .ok (.ret o), hr =>
    obtain ⟨rfl, rfl⟩ := hr
    have t1 : Shared.TypeIs { s with heap := s.heap.push (fresh w) } (.ref s.heap.objs.size) "set" := ⟨_, Heap.get?_push_size _ rfl, rfl⟩
    have k6 := PySem.F.called_set.init.lookup
    have k7 := PySem.F.called_set.init.bind (.ref s.heap.objs.size)
    repeat (any_goals (first | assumption | wp_step))
    refine codeAny_mono (codeAny_call_builtin (R := wants (fun r s2 => r = .none ∧ Done P w s l s2) E) PySem.F.called_set.init.plain PySem.F.entry_set_init (check_set_init_1 t1 ?_)) fun r2 s2 hr2 => ?_
    · exact hi
    · match r2, hr2 with
      | .error e, hr2 => exact hr2
      | .ok (.ret o), hr2 =>
        obtain ⟨rfl, hd⟩ := hr2
        repeat (any_goals (first | assumption | wp_step))
        exact h _ hd
theorem moved_done {x : Addr} {m : List Str} {o : Obj} {s' : Shared} (hx : x = s.heap.objs.size + 1) (mv : Moved [s.heap.objs.size, x] (fun a b => b = a) { s with heap := (s.heap.push (fresh w)).push o } s') (hA : AtR P w s'.heap s.heap.objs.size m) : Done P w s m s' := by
  obtain ⟨h', g2, d', tk', os'⟩ := s'
  have eg : g2 = s.gens := mv.gens
  have ed : d' = s.drawn := mv.drawn
  have eo : os' = s.os := mv.os
  subst eg; subst ed; subst eo
  refine ⟨⟨tk', rfl⟩, hA, fun b o e => ?_⟩
  have hb : b < s.heap.objs.size := Heap.lt_size e
  exact mv.heap b o (by simp only [List.mem_cons, List.not_mem_nil, or_false, not_or]; exact ⟨Nat.ne_of_lt hb, by rw [hx]; exact Nat.ne_of_lt (Nat.lt_succ_of_lt hb)⟩) (Heap.get?_push_of_some _ (Heap.get?_push_of_some _ e))
set_option maxHeartbeats 3200000 in
theorem fills_tup {l : Addr} {items : Array Value} (xs : List Str) (hh : A.handled = none) (hl : s.heap.IsTuple l items) (hi : StrsAre items.toList xs) (hb : xs.length + 1 < scanBound) : Fills P w A E s (.ref l) (metK xs) := by
  unfold Fills
  obtain ⟨⟨ocls, odict, odata, osl⟩, ho, hc, nl, hd⟩ := hl
  simp only at hc hd
  subst hc; subst hd
  have g0 : (s.heap.push (fresh w)).get? s.heap.objs.size = some (fresh w) := Heap.get?_push_size _ rfl
  have g1 : (s.heap.push (fresh w)).get? l = some { cls := .type "tuple", dict := odict, data := .seq items nl, slots := osl } := Heap.get?_push_of_some _ ho
  have g2 : (s.heap.push (fresh w)).IsTuple l items := ⟨_, g1, rfl, nl, rfl⟩
  have u1 := PySem.F.sub_tuple_set
  have u2 := PySem.F.sub_tuple_frozenset
  have u3 : (Value.type "tuple" == Value.type "dict") = false := by decide
  unfold Builtin.«set.__init__» noKeywords Builtin.Frozenset.updateFrom
  generalize hP : pyIter = PI
  wp_walk
  subst hP
  have ll : l < s.heap.objs.size := Heap.lt_size ho
  have e1 : (s.heap.push (fresh w)).objs.size = s.heap.objs.size + 1 := Heap.size_push ..
  have n1 : l ≠ (s.heap.push (fresh w)).objs.size := by rw [e1]; exact Nat.ne_of_lt (Nat.lt_succ_of_lt ll)
  have n2 : s.heap.objs.size ∉ [(s.heap.push (fresh w)).objs.size, l] := by
    rw [e1]
    simp only [List.mem_cons, List.not_mem_nil, or_false, not_or]
    exact ⟨Nat.ne_of_lt (Nat.lt_succ_self _), Nat.ne_of_gt ll⟩
  have sz : xs.length = items.size := by
    have := StrsAre.length hi
    rw [Array.length_toList] at this
    exact this.symm
  have hv : ∀ (i : Nat) (v : Value), items[i]? = some v → ∃ x t, xs[i]? = some x ∧ v = .str x t := fun i v hv => by
    have hlt : i < xs.length := by rw [sz]; exact (Array.getElem?_eq_some_iff.mp hv).1
    obtain ⟨t, e⟩ := SS.strs_at hi i v (by rw [Array.getElem?_toList]; exact hv)
    exact ⟨xs[i], t, List.getElem?_eq_getElem hlt, by rw [e, List.getD_eq_getElem?_getD, List.getElem?_eq_getElem hlt] <;> rfl⟩
  refine wpAny_pyIter_tuple g2 (wpAny_bind (wpAny_runValue ?_))
  refine fill ((Walks.tuple (by simp [hh]) _ l n1 items).toS) n2 xs sz (by rw [← sz]; exact hb) hv xs 0 [] _ rfl (by rw [Nat.zero_add]; exact sz) (Nat.le_refl 0) ⟨⟨_, Heap.get?_push_size _ rfl, rfl, rfl⟩, g2.push _⟩ (fresh_at.keep fun o e => Heap.get?_push_of_some _ e) fun s' mv hA => ?_
  exact wpAny_pure (wpAny_pure ⟨rfl, moved_done e1 mv hA⟩)
end
section
variable {P : Program} {w : World} {A : Around} {E : Value → Shared → Prop} {s : Shared}
set_option maxHeartbeats 3200000 in
theorem fills_lst {l : Addr} {items : Array Value} (xs : List Str) (hh : A.handled = none) (hl : s.heap.IsList l items) (hi : StrsAre items.toList xs) (hb : xs.length + 1 < scanBound) : Fills P w A E s (.ref l) (metK xs) := by
  unfold Fills
  obtain ⟨⟨ocls, odict, odata, osl⟩, ho, hc, nl, hd⟩ := hl
  simp only at hc hd
  subst hc; subst hd
  have g0 : (s.heap.push (fresh w)).get? s.heap.objs.size = some (fresh w) := Heap.get?_push_size _ rfl
  have g1 : (s.heap.push (fresh w)).get? l = some { cls := .type "list", dict := odict, data := .seq items nl, slots := osl } := Heap.get?_push_of_some _ ho
  have g2 : (s.heap.push (fresh w)).IsList l items := ⟨_, g1, rfl, nl, rfl⟩
  have u1 := PySem.F.sub_list_set
  have u2 : isSubtype (.type "list") (.type "frozenset") = pure false := by rw [isSubtype_type]; kernel_rfl
  have u3 : (Value.type "list" == Value.type "dict") = false := by decide
  unfold Builtin.«set.__init__» noKeywords Builtin.Frozenset.updateFrom
  generalize hP : pyIter = PI
  wp_walk
  subst hP
  have ll : l < s.heap.objs.size := Heap.lt_size ho
  have e1 : (s.heap.push (fresh w)).objs.size = s.heap.objs.size + 1 := Heap.size_push ..
  have n1 : l ≠ (s.heap.push (fresh w)).objs.size := by rw [e1]; exact Nat.ne_of_lt (Nat.lt_succ_of_lt ll)
  have n2 : s.heap.objs.size ∉ [(s.heap.push (fresh w)).objs.size, l] := by
    rw [e1]
    simp only [List.mem_cons, List.not_mem_nil, or_false, not_or]
    exact ⟨Nat.ne_of_lt (Nat.lt_succ_self _), Nat.ne_of_gt ll⟩
  have sz : xs.length = items.size := by
    have := StrsAre.length hi
    rw [Array.length_toList] at this
    exact this.symm
  have hv : ∀ (i : Nat) (v : Value), items[i]? = some v → ∃ x t, xs[i]? = some x ∧ v = .str x t := fun i v hv => by
    have hlt : i < xs.length := by rw [sz]; exact (Array.getElem?_eq_some_iff.mp hv).1
    obtain ⟨t, e⟩ := SS.strs_at hi i v (by rw [Array.getElem?_toList]; exact hv)
    exact ⟨xs[i], t, List.getElem?_eq_getElem hlt, by rw [e, List.getD_eq_getElem?_getD, List.getElem?_eq_getElem hlt] <;> rfl⟩
  refine wpAny_pyIter_list g2 (wpAny_bind (wpAny_runValue ?_))
  refine fill ((Walks.list (by simp [hh]) _ l n1 items).toS) n2 xs sz (by rw [← sz]; exact hb) hv xs 0 [] _ rfl (by rw [Nat.zero_add]; exact sz) (Nat.le_refl 0) ⟨⟨_, Heap.get?_push_size _ rfl, rfl, rfl⟩, g2.push _⟩ (fresh_at.keep fun o e => Heap.get?_push_of_some _ e) fun s' mv hA => ?_
  exact wpAny_pure (wpAny_pure ⟨rfl, moved_done e1 mv hA⟩)
set_option maxHeartbeats 3200000 in
theorem fills_str {x : Str} {t : Tok} (hh : A.handled = none) (hb : x.length + 1 < scanBound) : Fills P w A E s (.str x t) (metK (sgns x)) := by
  unfold Fills
  have g0 : (s.heap.push (fresh w)).get? s.heap.objs.size = some (fresh w) := Heap.get?_push_size _ rfl
  have u1 := PySem.F.sub_str_set
  have u2 := PySem.F.sub_str_frozenset
  have u3 : (Value.type "str" == Value.type "dict") = false := by decide
  unfold Builtin.«set.__init__» noKeywords Builtin.Frozenset.updateFrom
  generalize hP : pyIter = PI
  wp_walk
  subst hP
  have e1 : (s.heap.push (fresh w)).objs.size = s.heap.objs.size + 1 := Heap.size_push ..
  have n2 : s.heap.objs.size ∉ [(s.heap.push (fresh w)).objs.size] := by
    rw [e1]
    simp only [List.mem_cons, List.not_mem_nil, or_false]
    exact Nat.ne_of_lt (Nat.lt_succ_self _)
  have sz : (sgns x).length = x.cps.size := by unfold sgns; rw [List.length_map]; rfl
  have hv : ∀ (i : Nat) (v : Value), SignAt x i v → ∃ y t, (sgns x)[i]? = some y ∧ v = .str y t := fun i v hv => by
    obtain ⟨c, u, e, rfl⟩ := hv
    exact ⟨_, u, by unfold sgns; rw [List.getElem?_map]; show (x.cps.toList[i]?).map ch = _; rw [Array.getElem?_toList, e]; rfl, rfl⟩
  refine wpAny_pyIter_str fun o St W st => wpAny_bind (wpAny_runValue ?_)
  refine fill ((W _ (by simp [hh])).toS) n2 (sgns x) sz hb hv (sgns x) 0 [] _ rfl (by rw [Nat.zero_add]; exact sz) (Nat.le_refl 0) st (fresh_at.keep fun o e => Heap.get?_push_of_some _ e) fun s' mv hA => ?_
  exact wpAny_pure (wpAny_pure ⟨rfl, moved_done e1 mv hA⟩)
end

/-! ### sorted(set(e)) -/
section
variable {P : Program} {w : World} {A : Around} {E : Value → Shared → Prop} {s : Shared} {a : Addr}
theorem strs_of_fine : ∀ (l : List (Int × Value)), (∀ e ∈ l, Fine P w e) → StrsAre (l.map (·.2)) (l.map tx)
  | [], _ => .nil
  | e :: l, h => by
    obtain ⟨x, tk, rfl⟩ := h e (.head _)
    exact .cons x tk (strs_of_fine l fun y hy => h y (.tail _ hy))
theorem strs_perm {vs ws : List Value} (h : vs.Perm ws) : ∀ {xs : List Str}, StrsAre ws xs → ∃ ys, StrsAre vs ys ∧ ys.Perm xs := by
  induction h with
  | nil => intro xs h; exact ⟨xs, h, .refl _⟩
  | cons v _ ih =>
    intro xs h
    cases h with
    | cons x t h =>
      obtain ⟨ys, h1, h2⟩ := ih h
      exact ⟨x :: ys, .cons x t h1, h2.cons x⟩
  | swap v w l =>
    intro xs h
    cases h with
    | cons x t h =>
      cases h with
      | cons y u h => exact ⟨_, .cons y u (.cons x t h), .swap _ _ _⟩
  | trans _ _ ih1 ih2 =>
    intro xs h
    obtain ⟨ys, h1, h2⟩ := ih2 h
    obtain ⟨zs, h3, h4⟩ := ih1 h1
    exact ⟨zs, h3, h4.trans h2⟩
theorem sorted_texts {l : List Str} {Q : Value → Shared → Prop} (H : AtR P w s.heap a l) (hh : A.handled = none)
    (hQ : ∀ s' p (out : Array Value) (c : Nat) (ys : List Str), (∀ b o, s.heap.get? b = some o → s'.heap.get? b = some o) → s'.gens = s.gens → s'.os = s.os → s.heap.objs.size ≤ p →
      s'.heap.get? p = some (seqObj "list" out c) → StrsAre out.toList ys → ys.Perm l → sortedS ys = true → Q (.ref p) s') :
    wpAny (model P w) A (call (.builtin "sorted") [.ref a]) Q E s := by
  obtain ⟨o, es, ep, t, ho, hex, hd, L⟩ := H
  refine Calls.call_function_entry kind_sorted plain_sorted entry_sorted (args_sorted1 _) ?_
  unfold Builtin.«sorted»
  refine wpAny_bind (m := checkCount "sorted" 1 1 _) (wpAny_pure ?_)
  refine wpAny_bind (collect_set (A := A.in1) hh ⟨o, ho, hex.1, hd⟩ L.fits L.few L.ris L.led fun s1 vs k1 hz g1 o1 pm => ?_)
  obtain ⟨xs, hS, px⟩ := strs_perm pm (strs_of_fine _ L.fine)
  have hvl : vs.length ≤ sizeLine := by
    rw [pm.length_eq, List.length_map, Array.length_toList]
    exact fits_of_scanBound L.few
  refine wpAny_bind (wpAny_newList ?_ hvl)
  have hoL : (s1.heap.push (seqObj "list" vs.toArray 0)).get? s1.heap.objs.size = some (seqObj "list" vs.toArray 0) := Heap.get?_push_size _ rfl
  refine wpAny_bind (wpAny_holding (wpAny_call_entry slot_list_sort ⟨_, hoL, rfl⟩ entry_list_sort (list_sort_treeKAny strKind_oneLt hoL hS.keysOf (fun v₁ v₂ rest e => keyKind_strs (by rw [← e]; exact hS)) hvl fun st' hp hs => ⟨_, rfl, ?_⟩) (args_list_sort _)))
  obtain ⟨ys, h1, h2, h3⟩ := sorted_out_str hS hp hs
  obtain ⟨c, hc⟩ := sortedHeap_at (vs := vs) (out := (arrOf st').map (·.2)) hoL
  refine wpAny_pure ⟨_, rfl, hQ _ s1.heap.objs.size _ c ys (fun b u e => ?_) g1 o1 hz hc h1 (h2.trans (px.trans L.perm)) h3⟩
  have q := k1 b u e
  have hlt := Heap.lt_size q
  show (sortedHeap (s1.heap.push (seqObj "list" vs.toArray 0)) s1.heap.objs.size vs _).get? b = some u
  rw [sortedHeap_old (Nat.ne_of_lt hlt) (by rw [size_push']; exact Nat.lt_succ_of_lt hlt)]
  exact Heap.get?_push_of_some _ q
end
theorem boot_sorted : bootBuiltins "sorted" = some (.builtin "sorted") := by decide +kernel
def tSortSet (K : PySem.W.Frag) (ta : TE) : TE := fun σ H Q => ta σ H fun x H1 => ∃ xs : List Str, Of K H1 x xs ∧ xs.length ≤ 3000 ∧ ∀ p, H1 p = none → Q (.ref p) (upd H1 p (.lst ((srt (metK xs)).map V.str)))
theorem pe_sortSet {X : Cx} {a : Expr} {ta : TE} {p p2 q pos : Pos} (hc : X.calm = true) (hg : Gl X "sorted") (hm : X.mg "sorted" = none) (hg2 : Gl X "set") (hm2 : X.mg "set" = none) (ha : PE X a ta)
    (na : starEach [a] X.env = (false, eval a X.env) :: starEach [] X.env := by rfl) : PE X (.Call (.Name "sorted" p) [.Call (.Name "set" p2) [a] [] q] [] pos) (tSortSet X.K ta) := by
  refine ⟨fun pins s σ H Q I h => Call_ (ld_blt I hg hm boot_sorted (callWith_builtin1 (args_cons (Call_ (ld_blt I hg2 hm2 boot_set ?_)) rfl) rfl rfl))⟩
  refine callWith_type1 (args_cons (thn (ha.run pins s σ H _ I h) fun v s1 ⟨x, H1, I1, r1, q1⟩ => args_nil ?_) na) na rfl
  obtain ⟨xs, hof, hz, q1⟩ := q1
  have sb : (3000 : Nat) + 1 < scanBound := by decide
  have hF : Fills X.prog X.w X.A X.xe s1 v (metK xs) := by
    rcases hof with ⟨l, rfl, hq | hq⟩ | ⟨y, rfl, rfl⟩
    · cases r1
      obtain ⟨its, r, pl, _⟩ := I1.tuple hq
      exact fills_tup xs (I1.ok.hd hc) pl (by simpa using strsAre_of r) (by omega)
    · cases r1
      obtain ⟨its, r, pl, _⟩ := I1.list hq
      exact fills_lst xs (I1.ok.hd hc) pl.isList (by simpa using strsAre_of r) (by omega)
    · obtain ⟨t, rfl⟩ := r1
      refine fills_str (I1.ok.hd hc) ?_
      unfold sgns at hz
      rw [List.length_map, ← len_tl] at hz
      omega
  refine set_by (l := metK xs) hF fun s2 D => args_nil ?_
  obtain ⟨tk, e2⟩ := D.same
  have I2 : Inv X pins σ H1 s2 := by rw [e2]; exact I1.kept D.keep
  have hm3 : (metK xs).length ≤ 3000 := by
    have := met_len xs []
    rw [List.length_nil, Nat.zero_add] at this
    exact Nat.le_trans this hz
  refine sorted_texts D.at_ (I2.ok.hd hc) fun s' p' out c ys k g o hp hg' hi hy hs => ?_
  have ey := sorted_srt hy hs
  subst ey
  have hlen : ((srt (metK xs)).map V.str).length ≤ sizeLine := by rw [List.length_map, hy.length_eq, sizeLine_eq]; omega
  have hn : H1 p' = none := I2.hok.fresh hp
  have J : Inv X pins σ (upd H1 p' (.lst ((srt (metK xs)).map V.str))) { s2 with heap := s'.heap, gens := s'.gens, drawn := s'.drawn, toks := s'.toks } :=
    I2.call (ch := []) (Un.laid k hp hn) (I2.hok.laid k hp ⟨hlen, out.toList, c, vals_of_strs hi, hg'⟩) (by rw [g]; exact I2.bare) (fun _ z => nomatch z)
  have e : s' = { s2 with heap := s'.heap, gens := s'.gens, drawn := s'.drawn, toks := s'.toks } := by
    cases s'
    cases s2
    cases o
    rfl
  rw [e]
  exact ⟨.ref p', _, J, rfl, q1 p' hn⟩
end QSR
namespace PD
open PySem PySem.Spec PyProof.Rows L2 TL
def sortSetD (d : D) : Option D := (setOfD d).bind fun xs => if xs.length ≤ 3000 then some (.list ((srt (QS.metK xs)).map .str)) else none
theorem pd_sortSet {X : Cx} {a : Expr} {ma : ME} {p p2 q pos : Pos} (hc : X.calm = true) (hm : X.mg "sorted" = none) (hm2 : X.mg "set" = none) (ha : PD X a ma) (hg : Gl X "sorted" := by rfl) (hg2 : Gl X "set" := by rfl)
    (na : starEach [a] X.env = (false, eval a X.env) :: starEach [] X.env := by rfl) : PD X (.Call (.Name "sorted" p) [.Call (.Name "set" p2) [a] [] q] [] pos) (mUn sortSetD ma) := by
  obtain ⟨ta, h1, s1⟩ := ha.ex
  refine ⟨_, QSR.pe_sortSet hc hg hm hg2 hm2 h1 na, fun F σ H ρ δ d δ' G e Q q => ?_⟩
  obtain ⟨⟨x, δ1⟩, e1, e⟩ := Option.bind_eq_some_iff.mp e
  obtain ⟨z, e3, e⟩ := Option.map_eq_some_iff.mp e
  cases e
  refine s1 F σ H ρ δ x δ1 G e1 _ fun v H1 G1 M1 R1 => ?_
  dsimp only at e3
  obtain ⟨xs, e4, e3⟩ := Option.bind_eq_some_iff.mp e3
  split at e3
  · rename_i hz
    cases e3
    refine ⟨xs, ?_, hz, fun p' hp' => ?_⟩
    · unfold setOfD at e4
      split at e4
      · cases R1 with
        | tup hl r1 => exact .inl ⟨_, rfl, .inl (by rw [← r1.strs e4]; exact hl.sq)⟩
      · cases R1 with
        | lst hl r1 => exact .inl ⟨_, rfl, .inr (by rw [← r1.strs e4]; exact hl.sq)⟩
      · cases e4
        cases R1
        exact .inr ⟨_, rfl, rfl⟩
      · cases e4
    · exact q _ _ (G1.keep (upd_keeps hp')) (M1.trans (Mv.same (upd_keeps hp'))) (.lst ⟨G1.mfree hp', upd_same⟩ (Reps.strsOf _))
  · cases e3
end PD

namespace PD
open PySem PySem.Spec PyProof.Rows L2
/-! ### x in t, t a tuple of data of any depth -/
section
variable {X : Cx}
def rInTD (K : PySem.W.Frag) : R2 := fun x y H Q => ∃ d ds, Dp K H x d ∧ Dp K H y (.tuple ds) ∧ SeqAt.shaped d = true ∧ SeqAt.shaped (.tuple ds) = true ∧ Q (.bl (ds.any fun z => PyData.eqv z d)) H
theorem op_inTD (hu : X.A.units + 65 < cLine) : OpR X (compareOp .In) (rInTD X.K) := by
  intro pins s σ H x y v u Q I rx ry h
  obtain ⟨d, ds, hd, he, sd, se, q⟩ := h
  obtain ⟨as, r1⟩ := Dp.reads I d x v hd rx
  obtain ⟨bs, r2⟩ := Dp.reads I (.tuple ds) y u he ry
  exact SeqAt.in_tuple_reads r2 r1 (SeqAt.canLay_of_shaped se) (SeqAt.canLay_of_shaped sd) (room_in_shaped sd hu) ⟨.bl _, H, I, rfl, q⟩
def inTD : D → D → Option D
  | d, .tuple ds => if SeqAt.shaped d && SeqAt.shaped (.tuple ds) then some (.bool (ds.any fun z => PyData.eqv z d)) else none
  | _, _ => none
theorem ops_inTD {K} : OpS K (rInTD K) inTD := fun F σ H ρ δ x y d e z G rx ry hz Q q => by
  unfold inTD at hz
  split at hz
  · split at hz
    · rename_i h
      rw [Bool.and_eq_true] at h
      cases hz
      exact ⟨_, _, rx.dp (SeqAt.canLay_of_shaped h.1), ry.dp (SeqAt.canLay_of_shaped h.2), h.1, h.2, q _ H (fun _ _ h => h) (.bl _)⟩
    · cases hz
  · cases hz
theorem cs_inTD (hu : X.A.units + 65 < cLine) : CmpS X .In inTD := ⟨_, op_inTD hu, ops_inTD⟩
end
/-! ### a chain of three comparisons -/
def tChain3 (r r' r'' : R2) (ta tb tc td : TE) : TE := fun σ H Q => ta σ H fun x H1 => tb σ H1 fun y H2 => r x y H2 fun z H3 => ∃ k, z = .bl k ∧
  (if k = true then tc σ H3 fun w H4 => r' y w H4 fun z' H5 => ∃ k', z' = .bl k' ∧ (if k' = true then td σ H5 fun w' H6 => r'' w w' H6 Q else Q (.bl false) H5) else Q (.bl false) H3)
section
variable {X : Cx} {a b c d : Expr} {ta tb tc td : TE} {ma mb mc md : ME} {pos : Pos}
theorem pe_chain3 {op op' op'' : CmpOp} {r r' r'' : R2} (ho : OpR X (compareOp op) r) (ho' : OpR X (compareOp op') r') (ho'' : OpR X (compareOp op'') r'') (ha : PE X a ta) (hb : PE X b tb) (hc : PE X c tc) (hd : PE X d td)
    (hm : lastMarks [op, op', op''] [b, c, d] = false := by with_unfolding_all rfl) : PE X (.Compare a [op, op', op''] [b, c, d] pos) (tChain3 r r' r'' ta tb tc td) := by
  refine ⟨fun pins s σ H Q I h => ?_⟩
  refine Compare_chain (thn (ha.run pins s σ H _ I h) fun v s1 ⟨x, H1, I1, r1, q1⟩ => chain_link (thn (hb.run pins s1 σ H1 _ I1 q1) fun u s2 ⟨y, H2, I2, r2, q2⟩ =>
    thn (ho pins s2 σ H2 x y v u _ I2 r1 r2 q2) fun d s3 ⟨z, H3, I3, r3, k, e, q3⟩ => ?_)) hm
  subst e
  cases r3
  refine wpAny_truthy_bool ?_
  cases k with
  | false => exact ite_ff ⟨.bl false, H3, I3, rfl, q3⟩
  | true =>
    refine ite_tt (chain_link (thn (hc.run pins s3 σ H3 _ I3 q3) fun w' s4 ⟨z', H4, I4, r4, q4⟩ => thn (ho' pins s4 σ H4 y z' u w' _ I4 r2 r4 q4) fun d s5 ⟨z, H5, I5, r5, k, e, q5⟩ => ?_))
    subst e
    cases r5
    refine wpAny_truthy_bool ?_
    cases k with
    | false => exact ite_ff ⟨.bl false, H5, I5, rfl, q5⟩
    | true => exact ite_tt (chain_last (thn (hd.run pins s5 σ H5 _ I5 q5) fun w2 s6 ⟨z2, H6, I6, r6, q6⟩ => ho'' pins s6 σ H6 z' z2 w' w2 Q I6 r4 r6 q6))
end
/-! ### a def that shows things: called where no repr is under way -/
section
variable {X : Cx} {k : Nat} {f : Addr} {fd : FuncData} {ps : List Str} {sp : Sp} {x : Str} {p pos : Pos} {e : Expr} {es : List Expr} {t : TA}
theorem run_fnG {pins : List (Addr × Obj)} {σ : L2.St} {H : Hp} {s : Shared} {Q : VK} {us : List Value} {vs : List V} {E : XK} (F : FnG X.prog X.w X.K X.mg X.base k f fd ps sp) (gd : X.A.guards = some []) (hr : Room k X.A) (hb : Binds X.K fd ps []) (hx : Passes CX0 X E)
    (I : Inv X pins σ H s) (r : Vals vs us) (h : sp vs H Q E) : wpAny (model X.prog X.w) X.A (call (.ref f) us) (EP X pins σ Q) X.xe s := by
  have hl : (us ++ []).length = ps.length := by rw [List.append_nil, ← r.length]; exact F.ln _ _ _ _ h
  refine wpAny_call (codeAny_mono (F.go X.A X.stack s H ⟨us, []⟩ (us ++ []) vs Q E hr gd I.env0 (hb s us I.kIn hl) (by rw [List.append_nil]; exact r) h) fun r s' hq => ?_)
  cases r with
  | error e => exact hx pins σ H s e s' I hq
  | ok fl =>
    cases fl with
    | ret u => exact I.after hq
    | next => exact False.elim hq
    | brk => exact False.elim hq
    | cont => exact False.elim hq
theorem pe_callG {E : XK} (F : FnG X.prog X.w X.K X.mg X.base k f fd ps sp) (gd : X.A.guards = some []) (hr : Room k X.A) (hg : Gl X x) (hm : X.mg x = some (.ref f)) (hk : PySem.W.keepIn X.K (.ref f) = true) (hb : Binds X.K fd ps []) (hx : Passes CX0 X E)
    (ha : PA X (e :: es) t) (hdb : (x == ("__debug__" : Str)) = false := by decide) (he : starEach (e :: es) X.env = (false, eval e X.env) :: starEach es X.env := by rfl) (hpl : (backTo pos (starEach es X.env)).any (·.1) = false := by rfl) :
    PE X (.Call (.Name x p) (e :: es) [] pos) (tCall sp [] E t) := by
  refine ⟨fun pins s σ H Q I h => ?_⟩
  refine wpAny_Call_Name_kw (ld_glob I hg hm ?_ hdb)
  refine PySem.W.callWith_K (h₀ := X.base) I.ok.mod.kin hk (thn (ha.run pos pins s σ H _ I h) fun us s1 ⟨vs, H1, I1, r, q⟩ => ⟨I1.kIn, ?_⟩) he hpl
  exact run_fnG F gd hr hb hx I1 r (by simpa using q)
theorem pd_callG {m : List D → Option D} {E : XK} {r : MA} (Fn : FnG X.prog X.w X.K X.mg X.base k f fd ps (spP X.K m)) (gd : X.A.guards = some []) (hr : Room k X.A) (hm : X.mg x = some (.ref f)) (hk : PySem.W.keepIn X.K (.ref f) = true) (hb : Binds X.K fd ps []) (hx : Passes CX0 X E)
    (ha : PDA X (e :: es) r) (hg : Gl X x := by rfl) (hdb : (x == ("__debug__" : Str)) = false := by decide) (he : starEach (e :: es) X.env = (false, eval e X.env) :: starEach es X.env := by rfl) (hpl : (backTo pos (starEach es X.env)).any (·.1) = false := by rfl) :
    PD X (.Call (.Name x p) (e :: es) [] pos) (mCall m r) := by
  obtain ⟨t, h1, s1⟩ := ha.ex
  refine ⟨_, pe_callG Fn gd hr hg hm hk hb hx h1 hdb he hpl, fun F σ H ρ δ d δ' G e Q q => ?_⟩
  obtain ⟨⟨ds, δ1⟩, e1, e⟩ := Option.bind_eq_some_iff.mp e
  obtain ⟨z, e3, e⟩ := Option.map_eq_some_iff.mp e
  cases e
  refine s1 F σ H ρ δ ds _ G e1 _ fun vs H1 G1 M1 R1 => ?_
  rw [List.append_nil]
  exact ⟨_, ds, _, G1.mm, R1, e3, fun v H2 k R2 => q v H2 (G1.keep k) (M1.trans (Mv.same k)) R2⟩
end
section
variable {P : Program} {w : World} {K : PySem.W.Frag} {mg : Str → Option Value} {base : Heap}
theorem okG {x qual : Str} {st : Stmt} {f : Addr} {fd : FuncData} {N ps : List Str} {k : Nat} {s : MS} (F : Fun K x qual st f fd) (S : FnScope N ps (defScope st)) (hn : ps.length ≤ N.length)
    (hb : ∀ (cdv : Value) (A : Around) (outer : List Env) (s0 : Shared) (H : Hp) (E : XK), Room k (A.deeper (envOfC qual (defScope st) s0.heap.objs.size f cdv)) → A.guards = some [] → PDSs (cxOf CX0 P w K mg base N qual (defScope st) f cdv A outer s0 H E).nox (defBody st) s) :
    FnG P w K mg base (k + 1) f fd ps (spP K (fnP N.length ps.length s)) := by
  refine fn_okG F S (fun vs H Q E h => ?_) (fun cdv A outer s0 H vs Q E hr gd h => ?_)
  · obtain ⟨M, ds, r, hM, R, hm, q⟩ := h
    unfold fnP at hm
    split at hm
    · rename_i hz; rw [R.length]; exact hz.1
    · cases hm
  · obtain ⟨M, ds, r, hM, R, hm, q⟩ := h
    unfold fnP at hm
    split at hm
    · rename_i hz
      obtain ⟨t, p1, s1⟩ := (hb cdv A outer s0 H E hr gd).ex
      refine ⟨t, p1, ?_⟩
      obtain ⟨⟨r', δ'⟩, e1, e2⟩ := Option.map_eq_some_iff.mp hm
      cases e2
      generalize hres : s (slots N.length (ds.map Sl.val)) ⟨[], 0, [], none⟩ = res at e1
      have nun : ∀ (i : Nat) es, (slots N.length (ds.map Sl.val))[i]? ≠ some (.own es) := fun i es h => by
        rcases slots_get h with h | h
        · rw [List.getElem?_map] at h
          obtain ⟨d, _, h⟩ := Option.map_eq_some_iff.mp h
          cases h
        · cases h
      let Fr0 : Fr := ⟨M, none, H⟩
      have eM : Mm Fr0 (start N vs) (slots N.length (ds.map Sl.val)) = M := by
        funext a
        refine propext ⟨fun z => ?_, .inl⟩
        rcases z with z | ⟨i, es, f1, _⟩
        · exact z
        · exact (nun i es f1).elim
      have G : Good K Fr0 (start N vs) H (slots N.length (ds.map Sl.val)) ⟨[], 0, [], none⟩ := by
        refine ⟨?_, fun i d h => ?_, fun i es h => (nun i es h).elim, fun i j es _ _ h => (nun i es h).elim, hM, fun i h => ?_, fun p h => (nomatch h), fun _ _ e _ => e⟩
        · unfold L2.start slots
          simp only [List.length_append, List.length_map, List.length_replicate, R.length]
        · rw [eM]
          rcases slots_get h with h | h
          · rw [List.getElem?_map] at h
            obtain ⟨d', h1, h2⟩ := Option.map_eq_some_iff.mp h
            cases h2
            obtain ⟨v, g1, g2⟩ := R.get' h1
            exact ⟨v, start_get g1, g2⟩
          · cases h
        · rcases slots_get h with h | h
          · rw [List.getElem?_map] at h
            obtain ⟨d', h1, h2⟩ := Option.map_eq_some_iff.mp h
            cases h2
          · cases h
      cases res with
      | none => cases e1
      | some p =>
        obtain ⟨fl, ρ1, δ1⟩ := p
        refine s1 Fr0 (start N vs) H _ ⟨[], 0, [], none⟩ fl ρ1 δ1 G hres _ fun σ' H' G' M' => ?_
        have an : Mv (Mm Fr0 σ' ρ1) H' M H' := fun a o e n => ⟨e, fun z => n (.inl z)⟩
        have kp : ∀ a o, H a = some o → H' a = some o := fun a o e => G'.fr a o e fun p h => nomatch h
        cases fl with
        | nx => cases e1; exact q _ _ kp .non
        | rt d => cases e1; exact fun v R1 => q _ _ kp (R1.mv an)
        | bk => cases e1
        | ct => cases e1
    · cases hm
end
end PD

namespace PD
open PySem PySem.Spec PyProof.Rows L2
def mChain3 (f g h : D → D → Option D) (a b c d : ME) : ME := fun ρ δ => (a ρ δ).bind fun p => (b ρ p.2).bind fun q => (f p.1 q.1).bind fun z => match z with
  | .bool true => (c ρ q.2).bind fun w => (g q.1 w.1).bind fun y => match y with
    | .bool true => (d ρ w.2).bind fun u => (h w.1 u.1).map fun t => (t, u.2)
    | .bool false => some (.bool false, w.2)
    | _ => none
  | .bool false => some (.bool false, q.2)
  | _ => none
theorem snd_chain3 {K : PySem.W.Frag} {r r' r'' : R2} {f g h : D → D → Option D} {ta tb tc td : TE} {a b c d : ME} (o : OpS K r f) (o' : OpS K r' g) (o'' : OpS K r'' h) (ha : Snd K ta a) (hb : Snd K tb b) (hc : Snd K tc c) (hd : Snd K td d) : Snd K (tChain3 r r' r'' ta tb tc td) (mChain3 f g h a b c d) := fun F σ H ρ δ dd δ' G e Q q => by
  unfold mChain3 at e
  obtain ⟨⟨x, δ1⟩, e1, e⟩ := Option.bind_eq_some_iff.mp e
  obtain ⟨⟨y, δ2⟩, e2, e⟩ := Option.bind_eq_some_iff.mp e
  obtain ⟨z, e3, e⟩ := Option.bind_eq_some_iff.mp e
  refine ha F σ H ρ δ x δ1 G e1 _ fun v H1 G1 M1 R1 => hb F σ H1 ρ δ1 y δ2 G1 e2 _ fun u H2 G2 M2 R2 => ?_
  refine o F σ H2 ρ δ2 v u x y z G2 (R1.mv M2) R2 e3 _ fun w H3 k R3 => ?_
  have M3 : Mv (Mm F σ ρ) H (Mm F σ ρ) H3 := (M1.trans M2).trans (Mv.same k)
  split at e
  · cases R3
    refine ⟨true, rfl, iteT ?_⟩
    obtain ⟨⟨w, δ3⟩, e4, e⟩ := Option.bind_eq_some_iff.mp e
    obtain ⟨y', e5, e⟩ := Option.bind_eq_some_iff.mp e
    refine hc F σ H3 ρ δ2 w δ3 (G2.keep k) e4 _ fun t H4 G4 M4 R4 => ?_
    refine o' F σ H4 ρ δ3 u t y w _ G4 (R2.mv ((Mv.same k).trans M4)) R4 e5 _ fun w' H5 k' R5 => ?_
    have M5 : Mv (Mm F σ ρ) H (Mm F σ ρ) H5 := (M3.trans M4).trans (Mv.same k')
    split at e
    · cases R5
      refine ⟨true, rfl, iteT ?_⟩
      obtain ⟨⟨w2, δ5⟩, e6, e⟩ := Option.bind_eq_some_iff.mp e
      obtain ⟨y2, e7, e⟩ := Option.map_eq_some_iff.mp e
      cases e
      refine hd F σ H5 ρ δ3 w2 δ5 (G4.keep k') e6 _ fun t2 H6 G6 M6 R6 => ?_
      exact o'' F σ H6 ρ δ5 t t2 w w2 _ G6 (R4.mv ((Mv.same k').trans M6)) R6 e7 _ fun w3 H7 k2 R7 => q _ _ (G6.keep k2) ((M5.trans M6).trans (Mv.same k2)) R7
    · cases R5
      cases e
      exact ⟨false, rfl, iteF (q _ _ (G4.keep k') M5 (.bl _))⟩
    · cases e
  · cases R3
    cases e
    exact ⟨false, rfl, iteF (q _ _ (G2.keep k) M3 (.bl _))⟩
  · cases e
section
variable {X : Cx} {a b c d : Expr} {ma mb mc md : ME} {pos : Pos}
theorem pd_chain3 {op op' op'' : CmpOp} {f g h : D → D → Option D} (h1 : CmpS X op f) (h2 : CmpS X op' g) (h3 : CmpS X op'' h) (ha : PD X a ma) (hb : PD X b mb) (hc : PD X c mc) (hd : PD X d md) (hm : lastMarks [op, op', op''] [b, c, d] = false := by with_unfolding_all rfl) :
    PD X (.Compare a [op, op', op''] [b, c, d] pos) (mChain3 f g h ma mb mc md) := by
  obtain ⟨r, o, s⟩ := h1.ex
  obtain ⟨r', o', s'⟩ := h2.ex
  obtain ⟨r'', o'', s''⟩ := h3.ex
  obtain ⟨ta, p1, s1⟩ := ha.ex
  obtain ⟨tb, p2, s2⟩ := hb.ex
  obtain ⟨tc, p3, s3⟩ := hc.ex
  obtain ⟨td, p4, s4⟩ := hd.ex
  exact ⟨_, pe_chain3 o o' o'' p1 p2 p3 p4 hm, snd_chain3 s s' s'' s1 s2 s3 s4⟩
end
section
variable {ρ : List Sl} {δ : Dk}
theorem we_chain3 {f g h : D → D → Option D} {a b c d : ME} {P : D → Dk → Prop} (p : WE a ρ δ fun x δ1 => WE b ρ δ1 fun y δ2 => W1 (f x y) fun z => ∃ t, z = .bool t ∧ if t = true then WE c ρ δ2 fun w δ3 => W1 (g y w) fun v => ∃ t, v = .bool t ∧ if t = true then WE d ρ δ3 fun u δ4 => W1 (h w u) fun r => P r δ4 else P (.bool false) δ3 else P (.bool false) δ2) : WE (mChain3 f g h a b c d) ρ δ P := by
  obtain ⟨x, δ1, e1, y, δ2, e2, z, e3, t, rfl, p⟩ := p
  have hd : ∀ R, (mChain3 f g h a b c d ρ δ = R) ↔ ((match (PyData.bool t : D) with
      | .bool true => (c ρ δ2).bind fun w => (g y w.1).bind fun y => match y with
        | .bool true => (d ρ w.2).bind fun u => (h w.1 u.1).map fun t => (t, u.2)
        | .bool false => some (.bool false, w.2)
        | _ => none
      | .bool false => some (.bool false, δ2)
      | _ => none) = R) := fun R => by
    unfold mChain3
    rw [e1]
    show ((b ρ δ1).bind _ = R) ↔ _
    rw [e2]
    show ((f x y).bind _ = R) ↔ _
    rw [e3]
    rfl
  cases t with
  | false =>
    rw [if_neg Bool.false_ne_true] at p
    exact ⟨_, _, (hd _).mpr rfl, p⟩
  | true =>
    rw [if_pos rfl] at p
    obtain ⟨w, δ3, e4, v, e5, t, rfl, p⟩ := p
    cases t with
    | false =>
      rw [if_neg Bool.false_ne_true] at p
      refine ⟨_, _, (hd _).mpr ?_, p⟩
      show ((c ρ δ2).bind _) = _
      rw [e4]
      show ((g y w).bind _) = _
      rw [e5]
      rfl
    | true =>
      rw [if_pos rfl] at p
      obtain ⟨u, δ4, e6, r, e7, p⟩ := p
      refine ⟨_, _, (hd _).mpr ?_, p⟩
      show ((c ρ δ2).bind _) = _
      rw [e4]
      show ((g y w).bind _) = _
      rw [e5]
      show ((d ρ δ3).bind _) = _
      rw [e6]
      show ((h w u).map _) = _
      rw [e7]
      rfl
end
end PD

namespace PD
open PySem PySem.Spec PyProof.Rows L2
/-! ### a list of one number that goes from hand to hand beside the first draw's deck -/
def mLft (i : Nat) : ME := fun ρ δ => match ρ[i]? with
  | some (.fix .left) => if δ.rests = [] then δ.lft.map fun n => (.int n, δ) else none
  | _ => none
def sLft (i : Nat) (m : ME) : MS := fun ρ δ => match ρ[i]? with
  | some (.fix .left) => (m ρ δ).bind fun p => match p.1 with
    | .int n => if p.2.rests = [] ∧ p.2.lft.isSome = true then some (.nx, ρ, { p.2 with lft := some n }) else none
    | _ => none
  | _ => none
def mNilL (i : Nat) : MA := fun ρ δ => match ρ[i]? with
  | some (.fix .left) => if δ.rests = [] ∧ δ.lft.isSome = true then some ([], δ) else none
  | _ => none
def unL (s : Sl) : Sl := match s with
  | .fix .left => .no
  | s => s
def isL (s : Sl) : Bool := match s with
  | .fix .left => true
  | _ => false
def isDk (s : Option Sl) : Bool := match s with
  | some (.fix .deck) => true
  | _ => false
theorem isDk_of {s : Option Sl} (h : isDk s = true) : s = some .deck := by
  unfold isDk at h
  split at h
  · rfl
  · cases h
/-- the def's own list at i goes from hand to hand from here on -/
def sLend (j i : Nat) (s : MS) : MS := fun ρ δ => match ρ[i]? with
  | some (.own (.lst [.int n])) => if δ.rests = [] ∧ δ.lft = none ∧ isDk ρ[j]? = true ∧ ρ.all (fun s => !isL s) = true then
      (s (ρ.set i .left) { δ with lft := some n }).bind fun p => if p.2.2.rests = [] then some (p.1, p.2.1.map unL, { p.2.2 with lft := none }) else none
    else none
  | _ => none
theorem two_of {H : Hp} {p : DP} {δ : Dk} {n : Int} (h : DeckAt H p δ) (h0 : δ.rests = []) (hn : δ.lft = some n) : H p.2 = some (.lst [.int n]) := by
  rw [h.two, dkTwo, if_pos h0, hn]; rfl
/-- the deck with another number -/
theorem DeckAt.left {H : Hp} {p : DP} {δ : Dk} (h : DeckAt H p δ) (h0 : δ.rests = []) (n : Int) : DeckAt (upd H p.2 (.lst [.int n])) p { δ with lft := some n } := by
  refine ⟨h.ne, h.ne2, h.ne3, by rw [upd_ne h.ne, h.one]; rfl, ?_, by rw [upd_ne h.ne3.symm, h.tri]⟩
  rw [upd_same]
  show _ = some (HO.lst (if δ.rests = [] then _ else _))
  rw [if_pos h0]
  rfl
section
variable {X : Cx} {a b e tg : Expr} {ma mb : ME} {p p0 pos : Pos} {x : Str}
theorem pd_lft (i : Nat) {j : Nat} {c : Pos} (hN : X.N[i]? = some x := by rfl) (hv : Vis X.env.scope x := by first | exact Or.inl rfl | exact Or.inr (Or.inl rfl) | exact Or.inr (Or.inr rfl)) (hyd : (x == ("__debug__" : Str)) = false := by decide) (hcd : (x == ("__classdict__" : Str)) = false := by decide) (hs : PlainIx (.Constant (.int 0) j c) := by exact fun _ _ => rfl) :
    PD X (.Subscript (.Name x p0) (.Constant (.int 0) j c) pos) (mLft i) := by
  refine ⟨_, pe_ix ix_list (pe_var hN hv hyd hcd) pe_int hs, fun F σ H ρ δ d δ' G e Q q => ?_⟩
  unfold mLft at e
  split at e
  · rename_i hi
    split at e
    · rename_i h0
      obtain ⟨n, hn, e⟩ := Option.map_eq_some_iff.mp e
      cases e
      obtain ⟨pp, hp, hsl⟩ := G.dsl i hi
      obtain ⟨_, _, _, dk⟩ := G.dck pp hp
      exact ⟨_, hsl, _, _, 0, .int n, rfl, rfl, SqL.of (two_of dk h0 hn), rfl, q _ _ G (Mv.refl _ _) (.int n)⟩
    · cases e
  · cases e
theorem pds_lft (i : Nat) {p1 p3 : Pos} {j : Nat} {c : Pos} (he : PD X e ma) (hP : PG X (.Subscript (.Name x p1) (.Constant (.int 0) j c) p3) (gSub (tVar i) (tC (.int 0)) rSetL) := by exact pg_sub (pe_var (by rfl) (by first | exact Or.inl rfl | exact Or.inr (Or.inl rfl) | exact Or.inr (Or.inr rfl)) (by decide) (by decide)) pe_int set_list)
    (hs : swapsWithSole [.Subscript (.Name x p1) (.Constant (.int 0) j c) p3] e pos.line X.env = pure false := by rfl) (hw : swappedStores [.Subscript (.Name x p1) (.Constant (.int 0) j c) p3] e X.env = pure none := by rfl) (h1 : (assignEach [.Subscript (.Name x p1) (.Constant (.int 0) j c) p3] X.env).map (·.2) = [assign (.Subscript (.Name x p1) (.Constant (.int 0) j c) p3) X.env] := by rfl) :
    PDS X (.Assign [.Subscript (.Name x p1) (.Constant (.int 0) j c) p3] e pos) (sLft i ma) := by
  obtain ⟨t, q1, s1⟩ := he.ex
  refine ⟨_, ps_asg q1 hP hs hw h1, fun F σ H ρ δ fl ρ' δ' G e D q => ?_⟩
  unfold sLft at e
  split at e
  · rename_i hi
    obtain ⟨⟨y, δ1⟩, e1, e⟩ := Option.bind_eq_some_iff.mp e
    dsimp only at e
    split at e
    · rename_i n
      split at e
      · rename_i h0
        obtain ⟨h0, hn⟩ := h0
        obtain ⟨n0, hn⟩ := Option.isSome_iff_exists.mp hn
        cases e
        obtain ⟨pp, hp, hsl⟩ := G.dsl i hi
        refine s1 F σ H ρ δ _ _ G e1 _ fun u H1 G1 M1 R1 => ?_
        cases R1
        obtain ⟨_, _, _, dk⟩ := G1.dck pp hp
        obtain ⟨G2, M2⟩ := G1.deck (δ' := { δ1 with lft := some n }) hp (H' := upd H1 pp.2 (.lst [.int n])) (fun a o _ n2 _ ea => by rw [upd_ne n2]; exact ea) (dk.left h0 n)
        exact ⟨_, hsl, _, [.int n0], 0, 0, rfl, rfl, two_of dk h0 hn, rfl, q _ _ G2 (M1.trans M2)⟩
      · cases e
    · cases e
  · cases e
/-- arguments with the list last -/
structure PDAL (X : Cx) (es : List Expr) (m : MA) : Prop where
  ex : ∃ t, PA X es t ∧ ∀ F σ H ρ δ ds δ', Good X.K F σ H ρ δ → m ρ δ = some (ds, δ') → ∀ Q : List V → Hp → Prop, (∀ p vs H', F.dk = some p → δ'.rests = [] → δ'.lft.isSome = true → Good X.K F σ H' ρ δ' → Mv (Mm F σ ρ) H (Mm F σ ρ) H' → Reps X.K (Mm F σ ρ) H' vs ds → Q (vs ++ [.ref p.2]) H') → t σ H Q
theorem pdal_left (i : Nat) (hN : X.N[i]? = some x := by rfl) (hv : Vis X.env.scope x := by first | exact Or.inl rfl | exact Or.inr (Or.inl rfl) | exact Or.inr (Or.inr rfl)) (hyd : (x == ("__debug__" : Str)) = false := by decide) (hcd : (x == ("__classdict__" : Str)) = false := by decide)
    (he : starEach [.Name x p0] X.env = (false, eval (.Name x p0) X.env) :: starEach [] X.env := by rfl) : PDAL X [.Name x p0] (mNilL i) := by
  refine ⟨_, pa_cons (pe_var hN hv hyd hcd) pa_nil he, fun F σ H ρ δ ds δ' G e Q q => ?_⟩
  unfold mNilL at e
  split at e
  · rename_i hi
    split at e
    · rename_i h0
      cases e
      obtain ⟨pp, hp, hsl⟩ := G.dsl i hi
      exact ⟨_, hsl, q pp [] H hp h0.1 h0.2 G (Mv.refl _ _) .nil⟩
    · cases e
  · cases e
theorem pdal_cons {es : List Expr} {m : ME} {r : MA} (h : PD X e m) (g : PDAL X es r) (hs : starEach (e :: es) X.env = (false, eval e X.env) :: starEach es X.env := by rfl) : PDAL X (e :: es) (mCons m r) := by
  obtain ⟨t, h1, s1⟩ := h.ex
  obtain ⟨u, h2, s2⟩ := g.ex
  refine ⟨_, pa_cons h1 h2 hs, fun F σ H ρ δ ds δ' G e Q q => ?_⟩
  obtain ⟨⟨x, δ1⟩, e1, e⟩ := Option.bind_eq_some_iff.mp e
  obtain ⟨⟨y, δ2⟩, e2, e⟩ := Option.map_eq_some_iff.mp e
  cases e
  refine s1 F σ H ρ δ x δ1 G e1 _ fun v H1 G1 M1 R1 => s2 F σ H1 ρ δ1 y _ G1 e2 _ fun p vs H2 hp h0 hn G2 M2 R2 => ?_
  exact q p (v :: vs) H2 hp h0 hn G2 (M1.trans M2) (.cons (R1.mv M2) R2)
/-- a def whose first argument is the deck and whose last one is the list -/
def spKL (K : PySem.W.Frag) (m : List D → Dk → Option (D × Dk)) : Sp := fun vs H Q _ => ∃ (M : Addr → Prop) (p : DP) (ws : List V) (ds : List D) (δ : Dk) (r : D) (δ' : Dk), vs = .ref p.1 :: (ws ++ [.ref p.2]) ∧ (∀ a, M a → H a ≠ none) ∧ M p.1 ∧ M p.2 ∧ M p.3 ∧ DeckAt H p δ ∧
  Reps K M H ws ds ∧ m ds δ = some (r, δ') ∧ ∀ v H', (∀ a o, a ≠ p.1 → a ≠ p.2 → a ≠ p.3 → H a = some o → H' a = some o) → DeckAt H' p δ' → Rep K M H' v r → Q v H'
def fnKL (n np : Nat) (s : MS) : List D → Dk → Option (D × Dk) := fun ds δ => if ds.length + 2 = np ∧ np ≤ n then outP (s (slots n (.deck :: (ds.map .val ++ [.left]))) δ) else none
theorem pd_callKL (i : Nat) {CX : CXT} {k : Nat} {f : Addr} {fd : FuncData} {ps : List Str} {m : List D → Dk → Option (D × Dk)} {x y : Str} {E : XK} {py : Pos} {es : List Expr} {r : MA} (Fn : FnOk X.prog X.w X.K X.mg X.base CX k f fd ps (spKL X.K m)) (hr : Room k X.A) (hm : X.mg x = some (.ref f)) (hk : PySem.W.keepIn X.K (.ref f) = true) (hb : Binds X.K fd ps []) (hx : Passes CX X E)
    (ha : PDAL X es r) (hN : X.N[i]? = some y := by rfl) (hv : Vis X.env.scope y := by first | exact Or.inl rfl | exact Or.inr (Or.inl rfl) | exact Or.inr (Or.inr rfl)) (hyd : (y == ("__debug__" : Str)) = false := by decide) (hcd : (y == ("__classdict__" : Str)) = false := by decide)
    (hg : Gl X x := by rfl) (hdb : (x == ("__debug__" : Str)) = false := by decide) (he : starEach (.Name y py :: es) X.env = (false, eval (.Name y py) X.env) :: starEach es X.env := by rfl) (hpl : (backTo pos (starEach es X.env)).any (·.1) = false := by rfl) :
    PD X (.Call (.Name x p) (.Name y py :: es) [] pos) (mCallK i m r) := by
  obtain ⟨t, h1, s1⟩ := ha.ex
  refine ⟨_, pe_call Fn hr hg hm hk hb .nil hx (pa_cons (pe_var hN hv hyd hcd) h1 he) hdb he hpl, fun F σ H ρ δ d δ' G e Q q => ?_⟩
  unfold mCallK at e
  split at e
  · rename_i hi
    obtain ⟨⟨ds, δ1⟩, e1, e⟩ := Option.bind_eq_some_iff.mp e
    obtain ⟨pp, hp, hs⟩ := G.dsl i hi
    refine ⟨_, hs, s1 F σ H ρ δ ds _ G e1 _ fun pp' vs H1 hp' _ _ G1 M1 R1 => ?_⟩
    rw [hp] at hp'
    cases hp'
    try dsimp only
    rw [List.append_nil]
    obtain ⟨d1, d2, d4, d3⟩ := G1.dck pp hp
    exact ⟨_, pp, vs, ds, δ1, d, δ', rfl, G1.mm, .inl d1, .inl d2, .inl d4, d3, R1, e, fun v H2 k hd R2 => q v H2 (G1.deck hp k hd).1 (M1.trans (G1.deck hp k hd).2) R2⟩
  · cases e
end
theorem unL_own {ρ : List Sl} {j : Nat} {w : Ow} : (ρ.map unL)[j]? = some (.own w) → ρ[j]? = some (.own w) := fun h => by
  rw [List.getElem?_map] at h
  obtain ⟨s, h1, h2⟩ := Option.map_eq_some_iff.mp h
  cases s with
  | no => cases h2
  | val d => cases h2
  | own o => cases h2; exact h1
  | fix k => cases k <;> cases h2
theorem unL_val {ρ : List Sl} {j : Nat} {w : D} : (ρ.map unL)[j]? = some (.val w) → ρ[j]? = some (.val w) := fun h => by
  rw [List.getElem?_map] at h
  obtain ⟨s, h1, h2⟩ := Option.map_eq_some_iff.mp h
  cases s with
  | no => cases h2
  | val d => cases h2; exact h1
  | own o => cases h2
  | fix k => cases k <;> cases h2
theorem unL_fix {ρ : List Sl} {j : Nat} {k : Fx} : (ρ.map unL)[j]? = some (.fix k) → ρ[j]? = some (.fix k) ∧ k ≠ .left := fun h => by
  rw [List.getElem?_map] at h
  obtain ⟨s, h1, h2⟩ := Option.map_eq_some_iff.mp h
  cases s with
  | no => cases h2
  | val d => cases h2
  | own o => cases h2
  | fix k => cases k <;> cases h2 <;> exact ⟨h1, fun z => by cases z⟩
theorem snd_lend {K t s} (j i : Nat) (h : SndS K t s) : SndS K t (sLend j i s) := fun F σ H ρ δ fl ρ' δ' G e D q => by
  unfold sLend at e
  split at e
  · rename_i n hi
    split at e
    · rename_i h0
      obtain ⟨h0, hl0, hj, hall⟩ := h0
      replace hj := isDk_of hj
      obtain ⟨⟨fl1, ρ1, δ1⟩, e1, e⟩ := Option.bind_eq_some_iff.mp e
      dsimp only at e
      split at e
      · rename_i h1
        cases e
        obtain ⟨a, xs, f1, f2, r, n1, n2⟩ := G.uni i [.int n] hi
        have hxs : xs = [V.int n] := by
          cases r with
          | cons r t => cases r; cases t; rfl
        subst hxs
        obtain ⟨p, hp, hs⟩ := G.dsl j hj
        obtain ⟨d1, d2, d3, dk⟩ := G.dck p hp
        have il : i < ρ.length := by
          rcases Nat.lt_or_ge i ρ.length with z | z
          · exact z
          · rw [List.getElem?_eq_none z] at hi; cases hi
        have a1 : p.1 ≠ a := fun z => n1 (z ▸ d1)
        have a2 : p.2 ≠ a := fun z => n1 (z ▸ d2)
        have a3 : p.3 ≠ a := fun z => n1 (z ▸ d3)
        let p' : DP := ⟨p.1, a, p.3, p.x⟩
        let F' : Fr := ⟨fun b => F.M0 b ∨ b = a, some p', fun b => if b = p.2 then H b else F.H0 b⟩
        have two := dk.two
        rw [dkTwo, if_pos h0, hl0] at two
        have own1 : ∀ (k : Nat) w, (ρ.set i .left)[k]? = some (.own w) → ρ[k]? = some (.own w) ∧ k ≠ i := fun k w f => by
          by_cases hk : i = k
          · subst hk; rw [List.getElem?_set_self il] at f; cases f
          · rw [List.getElem?_set_ne hk] at f; exact ⟨f, fun z => hk z.symm⟩
        have hM : ∀ b, Mm F' σ (ρ.set i .left) b → Mm F σ ρ b := fun b z => by
          rcases z with z | ⟨k, w, g1, g2⟩
          · rcases z with z | rfl
            · exact .inl z
            · exact .inr ⟨i, _, hi, f1⟩
          · exact .inr ⟨k, w, (own1 k w g1).1, g2⟩
        have mv : Mv (Mm F σ ρ) H (Mm F' σ (ρ.set i .left)) H := fun b o g z => ⟨g, fun y => z (hM b y)⟩
        have G' : Good K F' σ H (ρ.set i .left) { δ with lft := some n } := by
          refine ⟨by rw [List.length_set]; exact G.len, fun k d f => ?_, fun k w f => ?_, fun k l ds es b g1 g2 g3 g4 => G.inj k l ds es b (own1 k _ g1).1 (own1 l _ g2).1 g3 g4, fun b z => ?_, fun {k} l f => ?_, fun p'' hp' => ?_, fun b o f z => ?_⟩
          · by_cases hk : i = k
            · subst hk; rw [List.getElem?_set_self il] at f; cases f
            · rw [List.getElem?_set_ne hk] at f
              obtain ⟨v, g1, g2⟩ := G.val k d f
              exact ⟨v, g1, g2.mv mv⟩
          · obtain ⟨f, hk⟩ := own1 k w f
            obtain ⟨b, o, g1, g2, g3, g4, g5⟩ := G.own k w f
            refine ⟨b, o, g1, g2, g3.mv mv, fun z => ?_, ?_⟩
            · rcases z with z | rfl
              · exact g4 z
              · exact hk (G.inj k i _ _ _ f hi g1 f1)
            · show (if b = p.2 then H b else F.H0 b) = none
              rw [if_neg (fun z => g4 (by rw [z]; exact d2))]
              exact g5
          · rcases z with z | rfl
            · exact G.m0 b z
            · rw [f2]; exact fun z => nomatch z
          · by_cases hk : i = l
            · subst hk; rw [List.getElem?_set_self il] at f; cases f; exact ⟨p', rfl, f1⟩
            · rw [List.getElem?_set_ne hk] at f
              have g := G.dsl l f
              cases k with
              | deck =>
                obtain ⟨pp, g1, g2⟩ := g
                rw [hp] at g1; cases g1
                exact ⟨p', rfl, g2⟩
              | fn b => exact g
              | left =>
                have := List.all_eq_true.mp hall _ (List.mem_of_getElem? f)
                cases this
          · cases hp'
            refine ⟨.inl d1, .inr rfl, .inl d3, a1, dk.ne2, fun z => a3 z.symm, ?_, ?_, dk.tri⟩
            · show H p.1 = some (.lst (.ref p.3 :: .int δ.k :: dkTl _ _))
              rw [dk.one]
              unfold dkTl
              rw [if_pos h0, if_pos (show ({ δ with lft := some n } : Dk).rests = [] from h0)]
            · show H a = some (.lst (if δ.rests = [] then _ else _))
              rw [if_pos h0, f2]
              rfl
          · replace f : (if b = p.2 then H b else F.H0 b) = some o := f
            by_cases hb : b = p.2
            · rw [if_pos hb] at f; exact f
            · rw [if_neg hb] at f
              obtain ⟨z1, z2, z3⟩ := z p' rfl
              exact G.fr b o f fun pp hpp => by rw [hp] at hpp; cases hpp; exact ⟨z1, hb, z3⟩
        refine h F' σ H (ρ.set i .left) _ _ ρ1 δ1 G' e1 D fun σ' H' G2 M2 => ?_
        have hM2 : ∀ b, Mm F σ' (ρ1.map unL) b → Mm F' σ' ρ1 b := fun b z => by
          rcases z with z | ⟨k, w, g1, g2⟩
          · exact .inl (.inl z)
          · exact .inr ⟨k, w, unL_own g1, g2⟩
        have mv2 : Mv (Mm F' σ' ρ1) H' (Mm F σ' (ρ1.map unL)) H' := fun b o g z => ⟨g, fun y => z (hM2 b y)⟩
        obtain ⟨_, _, _, dk2⟩ := G2.dck p' rfl
        have G3 : Good K F σ' H' (ρ1.map unL) { δ1 with lft := none } := by
          refine ⟨by rw [List.length_map]; exact G2.len, fun k d f => ?_, fun k w f => ?_, fun k l ds es b g1 g2 g3 g4 => G2.inj k l ds es b (unL_own g1) (unL_own g2) g3 g4, fun b z => G2.m0 b (.inl z), fun {k} l f => ?_, fun p'' hp' => ?_, fun b o f z => ?_⟩
          · obtain ⟨v, g1, g2⟩ := G2.val k d (unL_val f)
            exact ⟨v, g1, g2.mv mv2⟩
          · obtain ⟨b, o, g1, g2, g3, g4, g5⟩ := G2.own k w (unL_own f)
            refine ⟨b, o, g1, g2, g3.mv mv2, fun z => g4 (.inl z), ?_⟩
            replace g5 : (if b = p.2 then H b else F.H0 b) = none := g5
            by_cases hb : b = p.2
            · rw [if_pos hb, hb, two] at g5; cases g5
            · rw [if_neg hb] at g5; exact g5
          · obtain ⟨f, hk⟩ := unL_fix f
            have g := G2.dsl l f
            cases k with
            | deck =>
              obtain ⟨pp, g1, g2⟩ := g
              cases g1
              exact ⟨p, hp, g2⟩
            | fn b => exact g
            | left => exact (hk rfl).elim
          · rw [hp] at hp'; cases hp'
            refine ⟨d1, d2, d3, dk.ne, dk.ne2, dk.ne3, ?_, ?_, dk2.tri⟩
            · have := dk2.one
              unfold dkTl at this ⊢
              rw [if_pos h1] at this
              rw [if_pos (show ({ δ1 with lft := none } : Dk).rests = [] from h1)]
              exact this
            · show _ = some (HO.lst (if δ1.rests = [] then _ else _))
              rw [if_pos h1]
              refine G2.fr p.2 _ ?_ fun pp hpp => ?_
              · show (if p.2 = p.2 then H p.2 else F.H0 p.2) = _
                rw [if_pos rfl]
                exact two
              · cases hpp
                exact ⟨fun z => dk.ne z.symm, a2, dk.ne3⟩
          · obtain ⟨z1, z2, z3⟩ := z p hp
            refine G2.fr b o ?_ fun pp hpp => ?_
            · show (if b = p.2 then H b else F.H0 b) = _
              rw [if_neg z2]
              exact f
            · cases hpp
              exact ⟨z1, (fun y => by subst y; rw [n2] at f; cases f), z3⟩
        have M3 : Mv (Mm F σ ρ) H (Mm F σ' (ρ1.map unL)) H' := (mv.trans M2).trans mv2
        have qq := q σ' H' G3 M3
        cases fl with
        | nx => exact qq
        | bk => exact qq
        | ct => exact qq
        | rt d => exact fun v R => qq v (R.mv mv2)
      · cases e
    · cases e
  · cases e
theorem pdss_lend {X : Cx} {rest : List Stmt} {m : MS} (j i : Nat) (h : PDSs X rest m) : PDSs X rest (sLend j i m) := by
  obtain ⟨t, p1, s1⟩ := h.ex
  exact ⟨_, p1, snd_lend j i s1⟩
/-! ### what they come to -/
section
variable {ρ : List Sl} {δ : Dk}
theorem we_lft {i : Nat} {n : Int} {P : D → Dk → Prop} (h0 : δ.rests = []) (hn : δ.lft = some n) : WE (mLft i) ρ δ P ↔ ρ[i]? = some .left ∧ P (.int n) δ := by
  constructor
  · rintro ⟨d, δ', e, p⟩
    unfold mLft at e
    split at e
    · rename_i hi
      rw [if_pos h0, hn] at e
      cases e
      exact ⟨hi, p⟩
    · cases e
  · rintro ⟨hi, p⟩
    refine ⟨_, _, ?_, p⟩
    unfold mLft
    rw [hi]
    dsimp only
    rw [if_pos h0, hn]
    rfl
theorem wa_nilL {i : Nat} {P : List D → Dk → Prop} (h0 : δ.rests = []) (hn : δ.lft.isSome = true) : WA (mNilL i) ρ δ P ↔ ρ[i]? = some .left ∧ P [] δ := by
  constructor
  · rintro ⟨d, δ', e, p⟩
    unfold mNilL at e
    split at e
    · rename_i hi
      rw [if_pos ⟨h0, hn⟩] at e
      cases e
      exact ⟨hi, p⟩
    · cases e
  · rintro ⟨hi, p⟩
    refine ⟨_, _, ?_, p⟩
    unfold mNilL
    rw [hi]
    dsimp only
    rw [if_pos ⟨h0, hn⟩]
theorem ws_lft {i : Nat} {m : ME} {P : Fl → List Sl → Dk → Prop} (hi : ρ[i]? = some .left) (h : WE m ρ δ fun d δ1 => ∃ n, d = .int n ∧ (δ1.rests = [] ∧ δ1.lft.isSome = true) ∧ P .nx ρ { δ1 with lft := some n }) : WS (sLft i m) ρ δ P := by
  obtain ⟨_, δ1, e1, n, rfl, h0, p⟩ := h
  refine ⟨_, _, _, ?_, p⟩
  unfold sLft
  rw [hi]
  dsimp only
  rw [e1, Option.bind_some]
  dsimp only
  rw [if_pos h0]
theorem ws_lend {j i : Nat} {n : Int} {s : MS} {P : Fl → List Sl → Dk → Prop} (hi : ρ[i]? = some (.uni [.int n])) (hc : δ.rests = [] ∧ δ.lft = none ∧ isDk ρ[j]? = true ∧ ρ.all (fun s => !isL s) = true)
    (h : WS s (ρ.set i .left) { δ with lft := some n } fun f ρ1 δ1 => δ1.rests = [] ∧ P f (ρ1.map unL) { δ1 with lft := none }) : WS (sLend j i s) ρ δ P := by
  obtain ⟨f, ρ1, δ1, e, h1, p⟩ := h
  refine ⟨_, _, _, ?_, p⟩
  unfold sLend
  rw [hi]
  dsimp only
  rw [if_pos hc, e, Option.bind_some]
  dsimp only
  rw [if_pos h1]
theorem wk_fnKL {n np : Nat} {s : MS} {ds : List D} {δ : Dk} {P : D → Dk → Prop} (h : WS s (slots n (.deck :: (ds.map .val ++ [.left]))) δ (onRt P)) (hl : ds.length + 2 = np ∧ np ≤ n := by exact ⟨rfl, by decide⟩) : WK (fnKL n np s) ds δ P := by
  obtain ⟨f, ρ', δ', e, p⟩ := h
  unfold WK fnKL
  rw [if_pos hl, e]
  cases f with
  | rt d => exact ⟨_, _, rfl, p⟩
  | nx => exact ⟨_, _, rfl, p⟩
  | bk => exact p.elim
  | ct => exact p.elim
end
section
variable {P : Program} {w : World} {K : PySem.W.Frag} {mg : Str → Option Value} {base : Heap}
theorem okKL {x qual : Str} {st : Stmt} {f : Addr} {fd : FuncData} {N ps : List Str} {k : Nat} {s : MS} (F : Fun K x qual st f fd) (S : FnScope N ps (defScope st)) (hn : ps.length ≤ N.length)
    (hb : ∀ (cdv : Value) (A : Around) (outer : List Env) (s0 : Shared) (H : Hp) (E : XK), Room k (A.deeper (envOfC qual (defScope st) s0.heap.objs.size f cdv)) → PDSs (cxOf CX0 P w K mg base N qual (defScope st) f cdv A outer s0 H E).nox (defBody st) s) :
    FnOk P w K mg base CX0 (k + 1) f fd ps (spKL K (fnKL N.length ps.length s)) := by
  refine F.ok S (fun vs H Q E h => ?_) (fun cdv A outer s0 H vs Q E hr h => ?_)
  · obtain ⟨M, p, ws, ds, δ, r, δ', rfl, hM, _, _, _, _, R, hm, q⟩ := h
    unfold fnKL at hm
    split at hm
    · rename_i hz
      have := hz.1
      simp only [List.length_cons, List.length_append, List.length_nil, R.length]
      omega
    · cases hm
  · obtain ⟨M, p, ws, ds, δ, r, δ', rfl, hM, m1, m2, m3, dk, R, hm, q⟩ := h
    unfold fnKL at hm
    split at hm
    · rename_i hz
      obtain ⟨t, p1, s1⟩ := (hb cdv A outer s0 H E hr).ex
      refine ⟨t, p1, ?_⟩
      generalize hres : s (slots N.length (Sl.deck :: (ds.map Sl.val ++ [.left]))) δ = res at hm
      have cas : ∀ (i : Nat) sl, (slots N.length (Sl.deck :: (ds.map Sl.val ++ [.left])))[i]? = some sl → (i = 0 ∧ sl = .deck) ∨ (∃ j d, i = j + 1 ∧ ds[j]? = some d ∧ sl = .val d) ∨ (i = ds.length + 1 ∧ sl = .left) ∨ sl = .no := fun i sl h => by
        rcases slots_get h with h | h
        · cases i with
          | zero => cases h; exact .inl ⟨rfl, rfl⟩
          | succ i =>
            rw [List.getElem?_cons_succ] at h
            rcases Nat.lt_or_ge i ds.length with hl | hl
            · rw [List.getElem?_append_left (by rw [List.length_map]; exact hl), List.getElem?_map] at h
              obtain ⟨d, h1, h2⟩ := Option.map_eq_some_iff.mp h
              exact .inr (.inl ⟨i, d, rfl, h1, h2.symm⟩)
            · rw [List.getElem?_append_right (by rw [List.length_map]; exact hl), List.length_map] at h
              rcases Nat.eq_or_lt_of_le hl with h0 | h0
              · rw [← h0, Nat.sub_self] at h
                cases h
                exact .inr (.inr (.inl ⟨by omega, rfl⟩))
              · rw [List.getElem?_eq_none (by simp; omega)] at h
                cases h
        · exact .inr (.inr (.inr h))
      have nun : ∀ (i : Nat) es, (slots N.length (Sl.deck :: (ds.map Sl.val ++ [.left])))[i]? ≠ some (.own es) := fun i es h => by
        rcases cas i _ h with ⟨_, h⟩ | ⟨_, _, _, _, h⟩ | ⟨_, h⟩ | h <;> cases h
      let Fr0 : Fr := ⟨M, some p, H⟩
      have eM : Mm Fr0 (start N (V.ref p.1 :: (ws ++ [V.ref p.2]))) (slots N.length (Sl.deck :: (ds.map Sl.val ++ [.left]))) = M := by
        funext a
        refine propext ⟨fun z => ?_, .inl⟩
        rcases z with z | ⟨i, es, f1, _⟩
        · exact z
        · exact (nun i es f1).elim
      have hlw := R.length
      have G : Good K Fr0 (start N (V.ref p.1 :: (ws ++ [V.ref p.2]))) H (slots N.length (Sl.deck :: (ds.map Sl.val ++ [.left]))) δ := by
        refine ⟨?_, fun i d h => ?_, fun i es h => (nun i es h).elim, fun i j es _ _ h => (nun i es h).elim, hM, fun {k} i h => ?_, fun p' h => ?_, fun _ _ e _ => e⟩
        · unfold L2.start slots
          simp only [List.length_append, List.length_map, List.length_replicate, List.length_cons, List.length_nil, hlw]
        · rw [eM]
          rcases cas i _ h with ⟨_, h⟩ | ⟨j, d', rfl, h1, h⟩ | ⟨_, h⟩ | h
          · cases h
          · cases h
            obtain ⟨v, g1, g2⟩ := R.get' h1
            refine ⟨v, start_get ?_, g2⟩
            rw [List.getElem?_cons_succ]
            have hj : j < ws.length := by
              rcases Nat.lt_or_ge j ws.length with z | z
              · exact z
              · rw [List.getElem?_eq_none z] at g1; cases g1
            rw [List.getElem?_append_left hj]
            exact g1
          · cases h
          · cases h
        · rcases cas i _ h with ⟨hi, hk⟩ | ⟨j, d', hi, h1, hk⟩ | ⟨hi, hk⟩ | hk
          · cases hk; subst hi; exact ⟨p, rfl, start_get rfl⟩
          · cases hk
          · clear h
            cases hk
            subst hi
            refine ⟨p, rfl, start_get ?_⟩
            rw [List.getElem?_cons_succ, List.getElem?_append_right (by omega), hlw, Nat.sub_self]
            rfl
          · cases hk
        · cases h
          exact ⟨m1, m2, m3, dk⟩
      cases res with
      | none => cases hm
      | some pp =>
        obtain ⟨fl, ρ1, δ1⟩ := pp
        refine s1 Fr0 (start N (V.ref p.1 :: (ws ++ [V.ref p.2]))) H _ δ fl ρ1 δ1 G hres _ fun σ' H' G' M' => ?_
        have an : Mv (Mm Fr0 σ' ρ1) H' M H' := fun a o e n => ⟨e, fun z => n (.inl z)⟩
        have kp : ∀ a o, a ≠ p.1 → a ≠ p.2 → a ≠ p.3 → H a = some o → H' a = some o := fun a o n1 n2 n3 e => G'.fr a o e fun p' h => by cases h; exact ⟨n1, n2, n3⟩
        cases fl with
        | nx => cases hm; exact q _ _ kp (G'.dck p rfl).2.2.2 .non
        | rt d => cases hm; exact fun v R1 => q _ _ kp (G'.dck p rfl).2.2.2 (R1.mv an)
        | bk => cases hm
        | ct => cases hm
    · cases hm
theorem noneKL {x qual : Str} {st : Stmt} {f : Addr} {fd : FuncData} {N ps : List Str} (k : Nat) (F : Fun K x qual st f fd) (S : FnScope N ps (defScope st)) : FnOk P w K mg base CX0 (k + 1) f fd ps (spKL K fun _ _ => none) := by
  refine F.ok S (fun vs H Q E h => ?_) (fun cdv A outer s0 H vs Q E hr h => ?_)
  · obtain ⟨M, p, ws, ds, δ, r, δ', rfl, hM, _, _, _, _, R, hm, q⟩ := h
    cases hm
  · obtain ⟨M, p, ws, ds, δ, r, δ', rfl, hM, m1, m2, m3, dk, R, hm, q⟩ := h
    cases hm
end
end PD

namespace PD
open PySem PySem.Spec PyProof.Rows L2
/-! ### code that is never come to -/
theorem pd_dead {X : Cx} {e : Expr} : PD X e (fun _ _ => none) := ⟨fun _ _ _ => False, ⟨fun _ _ _ _ _ _ h => h.elim⟩, fun _ _ _ _ _ _ _ _ e => nomatch e⟩
theorem pds_dead {X : Cx} {st : Stmt} : PDS X st (fun _ _ => none) := ⟨fun _ _ _ => False, ⟨fun _ _ _ _ _ _ h => h.elim⟩, fun _ _ _ _ _ _ _ _ _ e => nomatch e⟩
theorem pdss_dead {X : Cx} {st : List Stmt} : PDSs X st (fun _ _ => none) := ⟨fun _ _ _ => False, ⟨fun _ _ _ _ _ _ h => h.elim⟩, fun _ _ _ _ _ _ _ _ _ e => nomatch e⟩
def mAny : ME := fun _ _ => none
def sAny : MS := fun _ _ => none
/-! ### isinstance(e, (T, U)) -/
def isiD2 (T U : String) (d : D) : Option D := match kitB (tyD d) T with
  | some true => some (.bool true)
  | some false => (kitB (tyD d) U).map .bool
  | none => none
section
variable {X : Cx} {a : Expr} {ma : ME} {p pos : Pos}
theorem kitB_true {a b : String} (h : kitB a b = some true) {K : PySem.W.Frag} : PySem.W.kitOne K (.type a) (.type b) = some true := kit_ty h
theorem pd_isi2 {T U : Str} {t u : String} {p2 p3 p4 : Pos} {k : Nat} (hv : bootBuiltins T = some (.type t)) (hv2 : bootBuiltins U = some (.type u)) (hm : X.mg "isinstance" = none) (hT : X.mg T = none) (hU : X.mg U = none) (ha : PD X a ma) (hg : Gl X "isinstance" := by rfl) (hgT : Gl X T := by rfl) (hgU : Gl X U := by rfl)
    (hn : T ≠ "__name__" := by decide) (hd : (T == ("__debug__" : Str)) = false := by decide) (hn2 : U ≠ "__name__" := by decide) (hd2 : (U == ("__debug__" : Str)) = false := by decide)
    (hs1 : starEach [a, .Tuple [.Name T p2, .Name U p3] k p4] X.env = (false, eval a X.env) :: starEach [.Tuple [.Name T p2, .Name U p3] k p4] X.env := by rfl) (hs2 : starEach [Expr.Tuple [.Name T p2, .Name U p3] k p4] X.env = (false, eval (.Tuple [.Name T p2, .Name U p3] k p4) X.env) :: starEach [] X.env := by rfl)
    (hs3 : starEach [Expr.Name T p2, .Name U p3] X.env = (false, eval (.Name T p2) X.env) :: starEach [.Name U p3] X.env := by rfl) (hs4 : starEach [Expr.Name U p3] X.env = (false, eval (.Name U p3) X.env) :: starEach [] X.env := by rfl)
    (hpl : (backTo pos (starEach [Expr.Tuple [.Name T p2, .Name U p3] k p4] X.env)).any (·.1) = false := by rfl) :
    PD X (.Call (.Name "isinstance" p) [a, .Tuple [.Name T p2, .Name U p3] k p4] [] pos) (mUn (isiD2 t u) ma) := by
  obtain ⟨ta, h1, s1⟩ := ha.ex
  refine ⟨_, pe_callB call_isiT hg hm (by decide +kernel) (pa_cons h1 (pa_cons (pe_tup (pa_cons (pe_bltn (v := .ty t) hgT hT hv rfl hn hd) (pa_cons (pe_bltn (v := .ty u) hgU hU hv2 rfl hn2 hd2) pa_nil hs4) hs3)) pa_nil hs2) hs1) (by decide) (by decide) hs1 hpl, fun F σ H ρ δ d δ' G e Q q => ?_⟩
  obtain ⟨⟨x, δ1⟩, e1, e⟩ := Option.bind_eq_some_iff.mp e
  obtain ⟨z, e3, e⟩ := Option.map_eq_some_iff.mp e
  cases e
  refine s1 F σ H ρ δ x δ1 G e1 _ fun v H1 G1 M1 R1 => ?_
  refine ⟨by show 2 ≤ sizeLine; decide, fun b hb => ?_⟩
  have kp := upd_keeps (o := .tup [.ty t, .ty u]) hb
  have fin : ∀ bb, PySem.W.kitAny X.K (.type (tyD x)) [.type t, .type u] = some bb → d = .bool bb → rIsiT X.K [v, .ref b] (upd H1 b (.tup [.ty t, .ty u])) Q := fun bb hk hz => by
    subst hz
    exact ⟨v, b, _, _, _, bb, rfl, upd_same, .cons (.ty t) (.cons (.ty u) .nil), (R1.mv (Mv.same kp)).ty, hk, q _ _ (G1.keep kp) (M1.trans (Mv.same kp)) (.bl _)⟩
  unfold isiD2 at e3
  split at e3
  · rename_i h
    cases e3
    exact fin true (kitAny_cons (b := true) (kit_ty h) (fun z => nomatch z) fun _ => rfl) rfl
  · rename_i h
    obtain ⟨bb, e4, e5⟩ := Option.map_eq_some_iff.mp e3
    subst e5
    refine fin bb (kitAny_cons (b := false) (kit_ty h) (fun _ => ?_) fun z => nomatch z) rfl
    refine kitAny_cons (b := bb) (kit_ty e4) (fun z => ?_) fun z => z
    rw [z]; rfl
  · cases e3
end
end PD

namespace PD
open PySem PySem.Spec PyProof.Rows L2
/-! ### t < u of tuples of texts -/
def lexS (ns ms : List Str) : Bool := Ob.lexAt (fun j => ns.getD j "" == ms.getD j "") (fun j => strLt (ns.getD j "") (ms.getD j "")) (decide (ns.length < ms.length)) 0 (min ns.length ms.length)
def rLtS (K : PySem.W.Frag) : R2 := fun x y H Q => ∃ (a b : Addr) (ns ms : List Str), x = .ref a ∧ y = .ref b ∧ SqT K H a (ns.map V.str) ∧ SqT K H b (ms.map V.str) ∧ Q (.bl (lexS ns ms)) H
theorem vals_str : ∀ {ns : List Str} {its : List Value} {j : Nat} (r : Vals (ns.map V.str) its) (h : j < its.length), ∃ t, its[j] = .str (ns.getD j "") t := fun {ns its j} r h => by
  have hl : ns.length = its.length := by have := r.length; rw [List.length_map] at this; exact this
  have hj : j < ns.length := by omega
  obtain ⟨u, e, ru⟩ := Vals.get (i := j) (x := V.str ns[j]) r (by rw [List.getElem?_map, List.getElem?_eq_getElem hj]; rfl)
  rw [List.getElem?_eq_getElem h] at e
  cases e
  obtain ⟨t, et⟩ := ru
  refine ⟨t, ?_⟩
  rw [et, List.getD_eq_getElem?_getD, List.getElem?_eq_getElem hj]
  rfl
theorem op_ltS {X : Cx} (hu : X.A.units < cLine) : OpR X (compareOp .Lt) (rLtS X.K) := by
  intro pins s σ H x y v u Q I rx ry h
  obtain ⟨a, b, ns, ms, rfl, rfl, ha, hb, q⟩ := h
  cases rx
  cases ry
  obtain ⟨its, r1, p1, _⟩ := I.tuple ha
  obtain ⟨its2, r2, p2, _⟩ := I.tuple hb
  have e1 : its.toArray.size = ns.length := by rw [List.size_toArray]; have := r1.length; rw [List.length_map] at this; exact this.symm
  have e2 : its2.toArray.size = ms.length := by rw [List.size_toArray]; have := r2.length; rw [List.length_map] at this; exact this.symm
  have at1 : ∀ j (h1 : j < its.toArray.size), ∃ t, its.toArray[j] = .str (ns.getD j "") t := fun j h1 => vals_str r1 (by simpa using h1)
  have at2 : ∀ j (h1 : j < its2.toArray.size), ∃ t, its2.toArray[j] = .str (ms.getD j "") t := fun j h1 => vals_str r2 (by simpa using h1)
  have R := Ob.RcOp.tuples_lt (A := X.A) (s := s) (e := fun j => ns.getD j "" == ms.getD j "") (r := fun j => strLt (ns.getD j "") (ms.getD j "")) p1 p2 hu (fun j h1 h2 => by
    obtain ⟨t, et⟩ := at1 j h1
    obtain ⟨t', et'⟩ := at2 j h2
    rw [et, et']
    exact SeqAt.EqAt.str_str _ _ _ _) (fun j h1 h2 _ => by
    obtain ⟨t, et⟩ := at1 j h1
    obtain ⟨t', et'⟩ := at2 j h2
    rw [et, et']
    intro prog w E Q h
    exact lt_str h)
  rw [e1, e2] at R
  have z : wpAny (model X.prog X.w) X.A (compareOp .Lt (.ref a) (.ref b)) (EP X pins σ Q) X.xe s := R X.prog X.w X.xe (EP X pins σ Q) ⟨.bl _, H, I, rfl, q⟩
  exact z
def ltSD : D → D → Option D
  | .tuple ds, .tuple es => (strsD ds).bind fun ns => (strsD es).map fun ms => .bool (lexS ns ms)
  | _, _ => none
theorem ops_ltSD {K} : OpS K (rLtS K) ltSD := fun F σ H ρ δ x y d e z G rx ry hz Q q => by
  cases d with
  | tuple ds =>
    cases e with
    | tuple es =>
      simp only [ltSD] at hz
      obtain ⟨ns, e1, hz⟩ := Option.bind_eq_some_iff.mp hz
      obtain ⟨ms, e2, hz⟩ := Option.map_eq_some_iff.mp hz
      subst hz
      cases rx with
      | tup ha r1 =>
        cases ry with
        | tup hb r2 => exact ⟨_, _, ns, ms, rfl, rfl, by rw [← r1.strs e1]; exact ha.sq, by rw [← r2.strs e2]; exact hb.sq, q _ H (fun _ _ h => h) (.bl _)⟩
    | _ => cases hz
  | _ => cases hz
/-- numbers, texts, or tuples of texts -/
def ltX : D → D → Option D := fun d e => (ltD d e).orElse fun _ => ltSD d e
theorem cs_ltX {X : Cx} (hu : X.A.units + 1 < cLine) : CmpS X .Lt ltX := ⟨_, OpR.or (OpR.or op_lt op_lt_str) (op_ltS (by omega)), OpS.or (OpS.or (ops_I0 fun _ _ _ _ => .bl _) ops_cmpS) ops_ltSD⟩
theorem lexS_two (a b c d : Str) : lexS [a, b] [c, d] = if a = c then strLt b d else strLt a c := by
  show (if (a == c) = true then (if (b == d) = true then decide (2 < 2) else strLt b d) else strLt a c) = _
  by_cases h : a = c
  · rw [if_pos h, h, if_pos (beq_self_eq_true c)]
    by_cases g : b = d
    · rw [g, if_pos (beq_self_eq_true d)]
      show false = strLt d d
      unfold strLt
      rw [decide_eq_false (List.lt_irrefl _)]
    · rw [if_neg (by simpa using g)]
  · rw [if_neg h, if_neg (by simpa using h)]
end PD

namespace PySem.W
open PySem PySem.Calls PyProof.Rows
section
variable {prog : Program} {w : World} {A : Around} {E : Value → Shared → Prop} {s : Shared}
/-! ### sorted of a tuple -/
theorem collect_tup {l : Addr} {vs : List Value} {Q : List Value → Shared → Prop} (hl : s.heap.IsTuple l vs.toArray)
    (h : Q vs { s with heap := (s.heap.push (seqObj "list" #[] 0)).update s.heap.objs.size (Obj.mapSeq (· ++ vs.toArray)) }) (hsz : vs.length ≤ sizeLine) :
    wpAny (model prog w) A (collect (.ref l)) Q E s := by
  obtain ⟨o, ho, hc, n, hd⟩ := id hl
  unfold collect
  refine wpAny_bind (wpAny_runValue (codeAny_builtin entry_proto_collect' ?_))
  show wpAny _ _ (do again (.builtin "list.__iadd__" ⟨[← newList [], .ref l], []⟩)) _ _ s
  refine wpAny_bind (wpAny_newList (wpAny_pure ⟨Code.quiet_builtin _ (by decide +kernel), codeAny_builtin entry_list_iadd' ?_⟩))
  show wpAny _ _ (Builtin.List.listExtendWith (.ref s.heap.objs.size) (.ref l) (.ref s.heap.objs.size)) _ _ { s with heap := s.heap.push (seqObj "list" #[] 0) }
  unfold Builtin.List.listExtendWith
  have ho' : (s.heap.push (seqObj "list" #[] 0)).get? l = some o := Heap.get?_push_of_some _ ho
  refine wpAny_bind (wpAny_typeOf (T := "tuple") ⟨o, ho', hc⟩ ?_)
  have ht : (Value.type "tuple" == Value.type "tuple") = true := by rfl
  rw [if_pos (by rw [ht]; simp)]
  refine wpAny_bind (listItems_at ho' hd ?_)
  refine wpAny_bind (listItems_at (xs := #[]) (n := 0) (Heap.get?_push_size _ rfl) rfl ?_)
  rw [if_neg (by simp)]
  refine wpAny_bind (listUpdate_at (xs := #[]) (n := 0) (Heap.get?_push_size _ rfl) rfl ?_ (Nat.zero_le _) (by show (#[] ++ vs.toArray).size ≤ sizeLine + 1; simp only [Array.size_append, List.size_toArray, List.length_nil]; omega))
  refine wpAny_pure ?_
  show wpAny (model prog w) A (do
      let o ← load s.heap.objs.size
      match o.data with
      | .seq xs _ => pure xs.toList
      | _ => unsupported "internal:collect") Q E { s with heap := (s.heap.push (seqObj "list" #[] 0)).update s.heap.objs.size (Obj.mapSeq (· ++ vs.toArray)) }
  refine wpAny_bind (wpAny_load (get?_update_seq (Heap.get?_push_size _ rfl) _) ?_)
  show wpAny _ _ (pure ((#[] : Array Value) ++ vs.toArray).toList) Q E _
  rw [show ((#[] : Array Value) ++ vs.toArray).toList = vs by simp]
  exact wpAny_pure h
theorem sorted_tup_of {l : Addr} {vs : List Value} {Q : Value → Shared → Prop} (hl : s.heap.IsTuple l vs.toArray) (hL : vs.length ≤ sizeLine)
    (body : ∀ E' : Value → Shared → Prop, wpAny (model prog w) A.in1.in1 (Builtin.«list.sort» ⟨[.ref (s.heap.objs.size + 1)], []⟩) (fun f s' => f = .done (.ret .none) ∧ Q (.ref (s.heap.objs.size + 1)) s') E' { s with heap := copyHeap s.heap vs }) :
    wpAny (model prog w) A (call (.builtin "sorted") [.ref l]) Q E s := by
  refine call_function_entry_kw kind_sorted plain_sorted entry_sorted (args_sorted1 _) ?_
  unfold Builtin.«sorted»
  refine wpAny_bind (m := checkCount "sorted" 1 1 _) (wpAny_pure ?_)
  refine wpAny_bind (collect_tup hl ?_ hL)
  refine wpAny_bind (wpAny_newList ?_ hL)
  have hsz : ((s.heap.push (seqObj "list" #[] 0)).update s.heap.objs.size (Obj.mapSeq (· ++ vs.toArray))).objs.size = s.heap.objs.size + 1 := by
    rw [Heap.size_update, size_push']
  show wpAny _ _ _ _ _ { s with heap := copyHeap s.heap vs }
  rw [hsz]
  refine wpAny_bind (wpAny_holding (wpAny_call_entry_kw slot_list_sort ⟨_, copyHeap_at s.heap vs, rfl⟩ entry_list_sort ?body (args_list_sort _)))
  case body =>
    show wpAny (model prog w) A.in1.in1 (Builtin.«list.sort» ⟨[.ref (s.heap.objs.size + 1)], []⟩) _ _ _
    refine wpAny_mono (body _) (fun f s' hf => ?_) fun _ _ e => e
    obtain ⟨rfl, hq⟩ := hf
    exact ⟨_, rfl, wpAny_pure ⟨_, rfl, hq⟩⟩
theorem sorted_data_tup {β : Type} {vs : List Value} {bs : List β} {enc : β → PyData} {R : Value → β → Prop} {l : Addr} {Q : Value → Shared → Prop} (hl : s.heap.IsTuple l vs.toArray) (e : EachIs R vs bs) (er : EachIs (fun v b => ∃ as, Reads s.heap v (enc b) as) vs bs) (hal : AllAlike (bs.map enc)) (hk : Sortable (bs.map enc)) (hL : bs.length ≤ sizeLine)
    (hu : ∀ b, b ∈ bs → A.units + 2 + (enc b).depth < cLine) (h : ∀ out, out.length = bs.length → EachIs R out (bs.mergeSort (dataLe false enc)) → Q (.ref (s.heap.objs.size + 1)) { s with heap := sortedAll s.heap vs (List.toArray out) }) :
    wpAny (model prog w) A (call (.builtin "sorted") [.ref l]) Q E s := by
  have er' : EachIs (fun v b => ∃ as, Reads (sortingHeap (copyHeap s.heap vs) (s.heap.objs.size + 1) vs) v (enc b) as) vs bs := er.mono fun _ _ ⟨as, r⟩ => ⟨as, PyProof.Rows.Reads.keeps (fun _ _ => sorting_copy_old) r⟩
  have hvL : vs.length ≤ sizeLine := by rw [e.length]; exact hL
  have S := SortsAt.data (prog := prog) (w := w) (A := A.in1.in1) (s := { s with heap := sortingHeap (copyHeap s.heap vs) (s.heap.objs.size + 1) vs }) (each_map (R := fun v d => ∃ as, Reads (sortingHeap (copyHeap s.heap vs) (s.heap.objs.size + 1) vs) v d as) enc er') hal hk (bound_map hu)
  refine sorted_tup_of hl hvL fun _ => list_sort_vals (s := { s with heap := copyHeap s.heap vs }) (copyHeap_at s.heap vs) S hvL ⟨rfl, ?_⟩
  exact h _ (by rw [sortVals_length false rfl]; exact e.length) (sortVals_data false e er' hal)
end
end PySem.W
namespace PD
open PySem PySem.Spec PyProof.Rows L2
/-! ### sorted, of data that are alike: tuples with a first member, or texts, or numbers -/
def allAlk (ds : List D) : Bool := ds.all fun d => ds.all fun e => PySem.W.alike d e
def isTp : D → Bool
  | .tuple (_ :: _) => true
  | _ => false
def isOth : D → Bool
  | .none => false
  | .tuple _ => false
  | _ => true
structure SortOk (ds : List D) : Prop where
  l : ds.length ≤ sizeLine
  a : allAlk ds = true
  s : (ds.all isTp || ds.all isOth) = true
  h : PyData.hasDictAll ds = false
  d : ∀ d ∈ ds, d.depth ≤ 50
instance (ds : List D) : Decidable (SortOk ds) := decidable_of_iff (ds.length ≤ sizeLine ∧ allAlk ds = true ∧ (ds.all isTp || ds.all isOth) = true ∧ PyData.hasDictAll ds = false ∧ ∀ d ∈ ds, d.depth ≤ 50) ⟨fun h => ⟨h.1, h.2.1, h.2.2.1, h.2.2.2.1, h.2.2.2.2⟩, fun h => ⟨h.1, h.2, h.3, h.4, h.5⟩⟩
abbrev sLe : V × D → V × D → Bool := PySem.W.dataLe false fun b : V × D => b.2
def srtDD (ds : List D) : List D := ds.mergeSort (PySem.W.dataLe false id)
def sortTD : List D → Option D
  | [.list ds] => if SortOk ds then some (.list (srtDD ds)) else none
  | [.tuple ds] => if SortOk ds then some (.list (srtDD ds)) else none
  | _ => none
def rSortTD (K : PySem.W.Frag) : List V → Hp → VK → Prop := fun vs H Q => ∃ (M : Addr → Prop) (a : Addr) (bs : List (V × D)), vs = [V.ref a] ∧ (SqL K H a (bs.map (·.1)) ∨ SqT K H a (bs.map (·.1))) ∧ Reps K M H (bs.map (·.1)) (bs.map (·.2)) ∧ SortOk (bs.map (·.2)) ∧
  ∀ p : Addr, H p = none → Q (.ref p) (upd H p (.lst ((bs.mergeSort sLe).map (·.1))))
theorem each_vals {α : Type} {f : α → V} : ∀ {bs : List α} {its : List Value}, Vals (bs.map f) its → PySem.W.EachIs (fun u b => RelV (f b) u) its bs
  | [], _, r => by cases r; exact .nil
  | b :: bs, _, r => by cases r with | cons h t => exact .cons h (each_vals t)
theorem vals_each {α : Type} {f : α → V} : ∀ {bs : List α} {its : List Value}, PySem.W.EachIs (fun u b => RelV (f b) u) its bs → Vals (bs.map f) its
  | _, _, .nil => .nil
  | _, _, .cons h t => .cons h (vals_each t)
theorem SortOk.sortable {ds : List D} (ok : SortOk ds) : PySem.W.Sortable ds := by
  have h := ok.s
  rw [Bool.or_eq_true] at h
  rcases h with h | h
  · refine .inl fun d hd => ?_
    have := List.all_eq_true.mp h d hd
    cases d with
    | tuple xs =>
      cases xs with
      | nil => cases this
      | cons x r => exact ⟨x, r, rfl⟩
    | _ => cases this
  · refine .inr fun d hd => ?_
    have := List.all_eq_true.mp h d hd
    cases d <;> first | exact ⟨fun e => PyData.noConfusion e, fun xs e => PyData.noConfusion e⟩ | cases this
theorem call_sortTD {X : Cx} (hu : X.A.units + 64 < cLine) : CallR X (.builtin "sorted") (rSortTD X.K) := by
  intro pins s σ H vs us Q I r h
  obtain ⟨M, a, bs, rfl, hs, rp, ok, q⟩ := h
  rw [Vals.ref1 r]
  have hal : PySem.W.AllAlike (bs.map (·.2)) := fun d hd d' hd' => by
    have h1 := List.all_eq_true.mp ok.a d hd
    exact List.all_eq_true.mp h1 d' hd'
  have hk := ok.sortable
  have hbl : bs.length ≤ sizeLine := by have := ok.l; rw [List.length_map] at this; exact this
  have hub : ∀ b : V × D, b ∈ bs → X.A.units + 2 + b.2.depth < cLine := fun b hb => by
    have := ok.d b.2 (List.mem_map.mpr ⟨b, hb, rfl⟩)
    omega
  have fin : ∀ (its out : List Value), PySem.W.EachIs (fun u (b : V × D) => RelV b.1 u) out (bs.mergeSort sLe) → EP X pins σ Q (.ref (s.heap.objs.size + 1)) { s with heap := sortedAll s.heap its (List.toArray out) } := fun its out ho => by
    obtain ⟨ep, he'⟩ := PyProof.Rows.sortedAll_at s.heap its out.toArray
    have hv := vals_each (f := fun b : V × D => b.1) ho
    refine ⟨.ref _, upd H (s.heap.objs.size + 1) (.lst ((bs.mergeSort sLe).map fun b : V × D => b.1)), I.laid (t' := s.toks) (fun _ _ => PyProof.Rows.sortedAll_old) (Nat.le_succ _) ⟨?_, out, ep, hv, he'⟩, rfl, q _ (I.hok.fresh (Nat.le_succ _))⟩
    rw [List.length_map, List.length_mergeSort]
    exact hbl
  rcases hs with hs | hs
  · obtain ⟨its, rv, hl, hz⟩ := I.list hs
    obtain ⟨as, ra⟩ := Reps.reads I rp ok.h rv
    exact PySem.W.sorted_data (bs := bs) (enc := fun b : V × D => b.2) (R := fun u b => RelV b.1 u) hl.isList (each_vals rv) (PySem.W.readsAll_each (fun b : V × D => b.2) ra) hal hk hbl hub fun out hlen ho => fin its out ho
  · obtain ⟨its, rv, hl, hz⟩ := I.tuple hs
    obtain ⟨as, ra⟩ := Reps.reads I rp ok.h rv
    exact PySem.W.sorted_data_tup (bs := bs) (enc := fun b : V × D => b.2) (R := fun u b => RelV b.1 u) hl (each_vals rv) (PySem.W.readsAll_each (fun b : V × D => b.2) ra) hal hk hbl hub fun out hlen ho => fin its out ho
theorem zip_fst {α β : Type} : ∀ {as : List α} {bs : List β}, as.length = bs.length → (as.zip bs).map (·.1) = as
  | [], [], _ => rfl
  | a :: as, b :: bs, h => by rw [List.zip_cons_cons, List.map_cons, zip_fst (by simpa using h)]
theorem zip_snd {α β : Type} : ∀ {as : List α} {bs : List β}, as.length = bs.length → (as.zip bs).map (·.2) = bs
  | [], [], _ => rfl
  | a :: as, b :: bs, h => by rw [List.zip_cons_cons, List.map_cons, zip_snd (by simpa using h)]
theorem reps_all {K M H} : ∀ {bs : List (V × D)}, Reps K M H (bs.map (·.1)) (bs.map (·.2)) → ∀ b ∈ bs, Rep K M H b.1 b.2
  | [], _, b, hb => by cases hb
  | c :: bs, r, b, hb => by
    cases r with
    | cons h t =>
      rcases List.mem_cons.mp hb with rfl | hb
      · exact h
      · exact reps_all t b hb
theorem reps_of {K M H} : ∀ {bs : List (V × D)}, (∀ b ∈ bs, Rep K M H b.1 b.2) → Reps K M H (bs.map (·.1)) (bs.map (·.2))
  | [], _ => .nil
  | c :: bs, h => .cons (h c (.head _)) (reps_of fun b hb => h b (.tail _ hb))
theorem srt_fst {es : List D} {vs : List V} (e2 : (vs.zip es).map (·.2) = es) : srtDD es = ((vs.zip es).mergeSort sLe).map (·.2) := by
  unfold srtDD
  have h := List.map_mergeSort (f := fun b : V × D => b.2) (l := vs.zip es) (r := sLe) (s := PySem.W.dataLe false id) (fun _ _ _ _ => rfl)
  rw [h, e2]
theorem cs_sortTD {K} : CallS K (rSortTD K) sortTD := fun F σ H ρ δ xs ds z G R hz Q q => by
  have fin : ∀ (vs : List V) (es : List D), Reps K (Mm F σ ρ) H vs es → SortOk es → ∀ p, H p = none → Q (.ref p) (upd H p (.lst (((vs.zip es).mergeSort sLe).map (·.1)))) ∨ z ≠ .list (srtDD es) := fun vs es rs ok p hn => by
    by_cases hze : z = .list (srtDD es)
    · subst hze
      have e1 := zip_fst rs.length
      have e2 := zip_snd rs.length
      refine .inl (q _ _ (upd_keeps hn) ?_)
      rw [srt_fst e2]
      refine .lst ⟨G.mfree hn, upd_same⟩ ((reps_of fun b hb => reps_all (by rw [e1, e2]; exact rs) b ?_).mv (Mv.same (upd_keeps hn)))
      exact (List.mergeSort_perm _ _).mem_iff.mp hb
    · exact .inr hze
  unfold sortTD at hz
  split at hz
  · split at hz
    · rename_i es ok
      cases hz
      obtain ⟨v, rfl, r⟩ := reps1 R
      cases r with
      | @lst a vs _ ha rs =>
        have e1 := zip_fst rs.length
        have e2 := zip_snd rs.length
        exact ⟨Mm F σ ρ, a, vs.zip es, rfl, .inl (by rw [e1]; exact ha.sq), by rw [e1, e2]; exact rs, by rw [e2]; exact ok, fun p hn => (fin vs es rs ok p hn).resolve_right fun h => h rfl⟩
    · cases hz
  · split at hz
    · rename_i es ok
      cases hz
      obtain ⟨v, rfl, r⟩ := reps1 R
      cases r with
      | @tup a vs _ ha rs =>
        have e1 := zip_fst rs.length
        have e2 := zip_snd rs.length
        exact ⟨Mm F σ ρ, a, vs.zip es, rfl, .inr (by rw [e1]; exact ha.sq), by rw [e1, e2]; exact rs, by rw [e2]; exact ok, fun p hn => (fin vs es rs ok p hn).resolve_right fun h => h rfl⟩
    · cases hz
  · cases hz
section
variable {X : Cx} {e : Expr} {es : List Expr} {r : MA} {p pos : Pos}
theorem pd_sortTD (hu : X.A.units + 64 < cLine) (hm : X.mg "sorted" = none) (ha : PDA X (e :: es) r) (hg : Gl X "sorted" := by rfl) (he : starEach (e :: es) X.env = (false, eval e X.env) :: starEach es X.env := by rfl) (hpl : (backTo pos (starEach es X.env)).any (·.1) = false := by rfl) : PD X (.Call (.Name "sorted" p) (e :: es) [] pos) (mCall sortTD r) :=
  pd_cb (by decide +kernel) (call_sortTD hu) cs_sortTD ha hg hm (by decide) (by decide) he hpl
end
/-! ### texts -/
theorem srtDD_str (xs : List Str) : srtDD (xs.map .str) = (srt xs).map .str := by
  unfold srtDD srt
  have h := List.map_mergeSort (f := PyData.str) (l := xs) (r := leS) (s := PySem.W.dataLe false id) (fun a _ b _ => by
    have := congrFun (congrFun (PySem.W.dataLe_str (fun x : Str => x)) a) b
    exact this.symm)
  exact h.symm
theorem hasDict_strs : ∀ xs : List Str, PyData.hasDictAll (xs.map .str) = false
  | [] => rfl
  | x :: xs => by
    show (PyData.hasDict (.str x) || PyData.hasDictAll (xs.map .str)) = false
    rw [hasDict_strs xs]; rfl
theorem sortOk_strs {xs : List Str} (h : xs.length ≤ sizeLine) : SortOk (xs.map .str) := by
  refine ⟨by rw [List.length_map]; exact h, ?_, ?_, hasDict_strs xs, fun d hd => ?_⟩
  · refine List.all_eq_true.mpr fun d hd => List.all_eq_true.mpr fun e he => ?_
    obtain ⟨x, _, rfl⟩ := List.mem_map.mp hd
    obtain ⟨y, _, rfl⟩ := List.mem_map.mp he
    simp [PySem.W.alike]
  · rw [Bool.or_eq_true]
    refine .inr (List.all_eq_true.mpr fun d hd => ?_)
    obtain ⟨x, _, rfl⟩ := List.mem_map.mp hd
    rfl
  · obtain ⟨x, _, rfl⟩ := List.mem_map.mp hd
    simp [PyData.depth]
theorem sortT_strs {xs : List Str} (h : xs.length ≤ sizeLine) : sortTD [.tuple (xs.map .str)] = some (.list ((srt xs).map .str)) ∧ sortTD [.list (xs.map .str)] = some (.list ((srt xs).map .str)) := by
  rw [← srtDD_str]
  exact ⟨if_pos (sortOk_strs h), if_pos (sortOk_strs h)⟩
/-! ### rising data stay as they are -/
def notLt (d e : D) : Prop := PySem.W.dataLt e d = false
theorem srt_stay {ds : List D} (h : ds.Pairwise notLt) : srtDD ds = ds := by
  unfold srtDD
  refine List.mergeSort_of_pairwise (h.imp fun {a b} hab => ?_)
  have : PySem.W.dataLt b a = false := hab
  rw [PySem.W.dataLe_eq]
  show (!PySem.W.dataLt b a) = true
  rw [this]
  rfl
end PD

namespace PD
open PySem PySem.Spec PyProof.Rows L2
/-! ### a dict of the def's own, from now on as it is -/
def sFrzD (i : Nat) (s : MS) : MS := fun ρ δ => match ρ[i]? with
  | some (.own (.dic es)) => s (ρ.set i (.val (.dict es))) δ
  | _ => none
theorem snd_frzD {K t s} (i : Nat) (h : SndS K t s) : SndS K t (sFrzD i s) := fun F σ H ρ δ fl ρ' δ' G e D q => by
  unfold sFrzD at e
  split at e
  · rename_i es0 hi
    obtain ⟨a, xs, e1, e2, r, n⟩ := G.dic i es0 hi
    have hl : i < ρ.length := by
      rcases Nat.lt_or_ge i ρ.length with h | h
      · exact h
      · rw [List.getElem?_eq_none h] at hi; cases hi
    have hM : ∀ b, Mm F σ (ρ.set i (.val (.dict es0))) b → Mm F σ ρ b ∧ b ≠ a := fun b z => by
      rcases z with z | ⟨j, es, f1, f2⟩
      · exact ⟨.inl z, fun y => n.1 (y ▸ z)⟩
      · by_cases hj : i = j
        · subst hj; rw [List.getElem?_set_self hl] at f1; cases f1
        · rw [List.getElem?_set_ne hj] at f1
          exact ⟨.inr ⟨j, es, f1, f2⟩, fun y => by subst y; exact hj (G.inj i j _ es b hi f1 e1 f2)⟩
    have mv : Mv (Mm F σ ρ) H (Mm F σ (ρ.set i (.val (.dict es0)))) H := fun b o f g => ⟨f, fun z => g (hM b z).1⟩
    have un : ∀ (j : Nat) es, (ρ.set i (.val (.dict es0)))[j]? = some (.own es) → ρ[j]? = some (.own es) := fun j es f => by
      by_cases hj : i = j
      · subst hj; rw [List.getElem?_set_self hl] at f; cases f
      · rw [List.getElem?_set_ne hj] at f; exact f
    have G1 : Good K F σ H (ρ.set i (.val (.dict es0))) δ := by
      refine ⟨by rw [List.length_set]; exact G.len, fun j d f => ?_, fun j es f => ?_, fun j k es fs b f1 f2 f3 f4 => G.inj j k es fs b (un j es f1) (un k fs f2) f3 f4, G.m0, fun j f => ?_, G.dck, G.fr⟩
      · by_cases hj : i = j
        · subst hj
          rw [List.getElem?_set_self hl] at f
          cases f
          exact ⟨_, e1, .dic (fun z => (hM a z).2 rfl) (.inl e2) (r.mv mv)⟩
        · rw [List.getElem?_set_ne hj] at f
          obtain ⟨v, g1, g2⟩ := G.val j d f
          exact ⟨v, g1, g2.mv mv⟩
      · obtain ⟨b, ys, g1, g2, g3, g4⟩ := G.own j es (un j es f)
        exact ⟨b, ys, g1, g2, g3.mv mv, g4⟩
      · by_cases hj : i = j
        · subst hj; rw [List.getElem?_set_self hl] at f; cases f
        · rw [List.getElem?_set_ne hj] at f
          exact G.dsl j f
    exact h F σ H _ δ fl ρ' δ' G1 e D fun σ1 H1 G2 M2 => q σ1 H1 G2 (mv.trans M2)
  · cases e
section
variable {X : Cx} {rest : List Stmt} {st : Stmt} {m : MS}
theorem pdss_frzD (i : Nat) (h : PDSs X rest m) : PDSs X rest (sFrzD i m) := by
  obtain ⟨t, p1, s1⟩ := h.ex
  exact ⟨_, p1, snd_frzD i s1⟩
end
theorem ws_frzD {ρ : List Sl} {δ : Dk} {i : Nat} {s : MS} {es : List (D × D)} {P : Fl → List Sl → Dk → Prop} (hi : ρ[i]? = some (.dic es)) (h : WS s (ρ.set i (.val (.dict es))) δ P) : WS (sFrzD i s) ρ δ P := by
  obtain ⟨f, ρ', δ', e, p⟩ := h
  refine ⟨f, ρ', δ', ?_, p⟩
  unfold sFrzD
  rw [hi]
  exact e
/-! ### xs.index(x), flat things -/
def ixOf (ds : List D) (y : D) : Option Nat := ds.findIdx? fun z => PyData.eqv z y
def idxD : D → D → Option D
  | .list ds, y => if (flatD y && ds.all flatD) = true then (ixOf ds y).map fun j => .int (j : Nat) else none
  | _, _ => none
theorem ops_idx {K} : OpS K (fun x y H Q => tyV K "list" x H ∧ rIndex K x [y] H Q) idxD := fun F σ H ρ δ x y d e z G rx ry hz Q q => by
  cases d with
  | list ds =>
    have hz : (if (flatD e && ds.all flatD) = true then (ixOf ds e).map fun j => PyData.int (j : Nat) else none) = some z := hz
    split at hz
    · rename_i hf
      rw [Bool.and_eq_true] at hf
      obtain ⟨j, e1, hz⟩ := Option.map_eq_some_iff.mp hz
      subst hz
      cases rx with
      | @lst a vs _ ha rs =>
        obtain ⟨hj, hq, hb⟩ := List.findIdx?_eq_some_iff_getElem.mp e1
        have hl := rs.length
        have hjv : j < vs.length := by omega
        refine ⟨.inl ⟨rfl, vs, ha.sq⟩, a, vs, y, j, vs[j], rfl, rfl, ha.sq, ry.flat hf.1, rs.flatAll hf.2, List.getElem?_eq_getElem hjv, ?_, fun m z' hm hz' => ?_, q _ H (fun _ _ h => h) (.int _)⟩
        · obtain ⟨d, hd, rd⟩ := rs.get (List.getElem?_eq_getElem hjv)
          rw [List.getElem?_eq_getElem hj] at hd
          cases hd
          rw [rd.eqv ry (List.all_eq_true.mp hf.2 _ (List.getElem_mem _)) hf.1]
          exact hq
        · obtain ⟨d, hd, rd⟩ := rs.get hz'
          have hmd : m < ds.length := by omega
          rw [List.getElem?_eq_getElem hmd] at hd
          cases hd
          rw [rd.eqv ry (List.all_eq_true.mp hf.2 _ (List.getElem_mem _)) hf.1]
          have := hb m hm
          simpa using this
    · cases hz
  | _ => cases hz
section
variable {X : Cx} {o e : Expr} {mo me : ME} {apos cpos : Pos}
theorem pd_index (ho : PD X o mo) (he : PD X e me) (hbase : attributeBase o "index" X.env (eval o X.env) = eval o X.env := by rfl)
    (hfew : ((backTo cpos (starEach [e] X.env)).all (fun x => !x.1) && (backToKw cpos (keywordEach [] X.env)).all (fun x => x.1.isSome)
      && decide ([e].length + ([] : List Keyword).length + (if ([] : List Keyword).isEmpty then 0 else 1) < 30)) = true := by rfl)
    (hline : (apos.endLine == cpos.line) = true := by rfl) (hs : starEach [e] X.env = (false, eval e X.env) :: starEach [] X.env := by rfl) (hplain : (backTo cpos (starEach [] X.env)).any (·.1) = false := by rfl) :
    PD X (.Call (.Attribute o "index" apos) [e] [] cpos) (mBin idxD mo me) := by
  obtain ⟨to, p1, s1⟩ := ho.ex
  obtain ⟨te, p2, s2⟩ := he.ex
  refine ⟨_, pe_bm PySem.F.plainAttrs_list PySem.F.slot_list_index PySem.F.type_list_index mt_index p1 (pa_cons p2 pa_nil hs) hbase hfew hline hs hplain, fun F σ H ρ δ d δ' G e Q q => ?_⟩
  unfold mBin at e
  obtain ⟨⟨x, δ1⟩, e1, e⟩ := Option.bind_eq_some_iff.mp e
  obtain ⟨⟨y, δ2⟩, e2, e⟩ := Option.bind_eq_some_iff.mp e
  obtain ⟨z, e3, e⟩ := Option.map_eq_some_iff.mp e
  cases e
  refine s1 F σ H ρ δ x δ1 G e1 _ fun v H1 G1 M1 R1 => ⟨?_, ?_⟩
  · cases x with
    | list ds =>
      cases R1 with
      | lst ha rs => exact .inl ⟨rfl, _, ha.sq⟩
    | _ => cases e3
  · refine s2 F σ H1 ρ δ1 y δ2 G1 e2 _ fun u H2 G2 M2 R2 => ?_
    exact (ops_idx F σ H2 ρ δ2 v u x y _ G2 (R1.mv M2) R2 e3 Q fun w H3 k R3 => q w H3 (G2.keep k) ((M1.trans M2).trans (Mv.same k)) R3).2
end
theorem idx_strs {xs : List Str} {x : Str} (h : x ∈ xs) : ∃ j, idxD (.list (xs.map .str)) (.str x) = some (.int (j : Nat)) ∧ xs[j]? = some x ∧ ∀ k, k < j → xs[k]? ≠ some x := by
  have he : ∀ a b : Str, PyData.eqv (.str a) (.str b) = decide (a = b) := fun a b => by
    show (a == b) = _
    by_cases h : a = b
    · rw [decide_eq_true h, h]; exact beq_self_eq_true b
    · rw [decide_eq_false h]; exact beq_eq_false_iff_ne.mpr h
  have hf : (flatD (.str x) && (xs.map PyData.str).all flatD) = true := by
    rw [Bool.and_eq_true]
    refine ⟨rfl, List.all_eq_true.mpr fun d hd => ?_⟩
    obtain ⟨y, _, rfl⟩ := List.mem_map.mp hd
    rfl
  have ei : ixOf (xs.map .str) (.str x) = xs.findIdx? fun y => decide (y = x) := by
    unfold ixOf
    rw [List.findIdx?_map]
    exact congrArg (fun f => List.findIdx? f xs) (funext fun y => he y x)
  cases hj : xs.findIdx? fun y => decide (y = x) with
  | none =>
    have := List.findIdx?_eq_none_iff.mp hj x h
    simp at this
  | some j =>
    obtain ⟨h1, h2, h3⟩ := List.findIdx?_eq_some_iff_getElem.mp hj
    refine ⟨j, ?_, ?_, fun k hk e => ?_⟩
    · show (if (flatD (.str x) && (xs.map PyData.str).all flatD) = true then (ixOf (xs.map .str) (.str x)).map fun j => PyData.int (j : Nat) else none) = _
      rw [if_pos hf, ei, hj]
      rfl
    · rw [List.getElem?_eq_getElem h1, of_decide_eq_true h2]
    · have hk2 : k < xs.length := by omega
      rw [List.getElem?_eq_getElem hk2] at e
      have := h3 k hk
      rw [Option.some.inj e] at this
      simp at this
end PD

namespace PD
open PySem PySem.Spec PyProof.Rows L2
/-! ### what may raise: none within is an exception -/
abbrev MR1 := List Sl → Dk → Option (Option (Fl × List Sl × Dk))
def PostExc (K : PySem.W.Frag) (F : Fr) (W : L2.St → Hp → Prop) (D : Ends) (σ : L2.St) (H : Hp) (ρ : List Sl) (r : Option (Fl × List Sl × Dk)) : Prop := match r with
  | none => ∀ σ' H' ρ' δ', Good K F σ' H' ρ' δ' → W σ' H'
  | some p => ∀ σ' H', Good K F σ' H' p.2.1 p.2.2 → Mv (Mm F σ ρ) H (Mm F σ' p.2.1) H' → match p.1 with
    | .nx => D.nx σ' H'
    | .bk => D.bk σ' H'
    | .ct => D.ct σ' H'
    | .rt d => ∀ v, Rep K (Mm F σ' p.2.1) H' v d → D.rt v H'
def SndExc (K : PySem.W.Frag) (W : L2.St → Hp → Prop) (t : TS) (m : MR1) : Prop := ∀ F σ H ρ δ r, Good K F σ H ρ δ → m ρ δ = some r → ∀ D : Ends, PostExc K F W D σ H ρ r → t D σ H
structure PDExc (X : Cx) (W : L2.St → Hp → Prop) (st : Stmt) (m : MR1) : Prop where
  ex : ∃ t, PS X st t ∧ SndExc X.K W t m
structure PDExcs (X : Cx) (W : L2.St → Hp → Prop) (sts : List Stmt) (m : MR1) : Prop where
  ex : ∃ t, PSs X sts t ∧ SndExc X.K W t m
def exLift (m : MS) : MR1 := fun ρ δ => (m ρ δ).map some
def exNext : MR1 := fun ρ δ => some (some (.nx, ρ, δ))
def exSeq (a b : MR1) : MR1 := fun ρ δ => (a ρ δ).bind fun r => match r with
  | none => some none
  | some (.nx, ρ', δ') => b ρ' δ'
  | some p => some (some p)
def exIf (c : MT) (a b : MR1) : MR1 := fun ρ δ => (c ρ δ).bind fun p => if p.1 = true then a ρ p.2 else b ρ p.2
def forR (g : MG) (s : MR1) : List D → MR1
  | [] => fun ρ δ => some (some (.nx, ρ, δ))
  | d :: ds => fun ρ δ => (g d ρ).bind fun ρ1 => (s ρ1 δ).bind fun r => match r with
    | none => some none
    | some (.nx, ρ', δ') => forR g s ds ρ' δ'
    | some (.ct, ρ', δ') => forR g s ds ρ' δ'
    | some (.bk, ρ', δ') => some (some (.nx, ρ', δ'))
    | some (.rt d, ρ', δ') => some (some (.rt d, ρ', δ'))
def exFor (mi : MA) (g : MG) (s : MR1) : MR1 := fun ρ δ => (mi ρ δ).bind fun p => forR g s p.1 ρ p.2
def exRaise : MR1 := fun _ _ => some none
theorem sndr_lift {K W t m} (h : SndS K t m) : SndExc K W t (exLift m) := fun F σ H ρ δ r G e D q => by
  obtain ⟨⟨fl, ρ', δ'⟩, e1, e2⟩ := Option.map_eq_some_iff.mp e
  subst e2
  exact h F σ H ρ δ fl ρ' δ' G e1 D fun σ' H' G' M' => q σ' H' G' M'
theorem sndr_seq {K W t u a b} (h : SndExc K W t a) (g : SndExc K W u b) : SndExc K W (tSeq t u) (exSeq a b) := fun F σ H ρ δ r G e D q => by
  unfold exSeq at e
  obtain ⟨r1, e1, e⟩ := Option.bind_eq_some_iff.mp e
  match r1, e1, e with
  | none, e1, e => cases e; exact h F σ H ρ δ none G e1 _ q
  | some (.nx, ρ1, δ1), e1, e =>
    refine h F σ H ρ δ _ G e1 _ fun σ1 H1 G1 M1 => g F σ1 H1 ρ1 δ1 r G1 e D ?_
    cases r with
    | none => exact q
    | some p => exact fun σ2 H2 G2 M2 => q σ2 H2 G2 (M1.trans M2)
  | some (.bk, ρ1, δ1), e1, e => cases e; exact h F σ H ρ δ _ G e1 _ fun σ1 H1 G1 M1 => q σ1 H1 G1 M1
  | some (.ct, ρ1, δ1), e1, e => cases e; exact h F σ H ρ δ _ G e1 _ fun σ1 H1 G1 M1 => q σ1 H1 G1 M1
  | some (.rt d, ρ1, δ1), e1, e => cases e; exact h F σ H ρ δ _ G e1 _ fun σ1 H1 G1 M1 => q σ1 H1 G1 M1
section
variable {X : Cx} {W : L2.St → Hp → Prop} {st : Stmt} {rest : List Stmt} {m : MS} {a b : MR1} {c e tg iter : Expr} {nc : MT} {pos : Pos} {sl : List Nat} {mg : MG} {mi : MA}
theorem pdr_of (h : PDS X st m) : PDExc X W st (exLift m) := by
  obtain ⟨t, p, s⟩ := h.ex
  exact ⟨t, p, sndr_lift s⟩
theorem pdrs_of (h : PDSs X rest m) : PDExcs X W rest (exLift m) := by
  obtain ⟨t, p, s⟩ := h.ex
  exact ⟨t, p, sndr_lift s⟩
theorem pdrs_cons (h1 : PDExc X W st a) (h2 : PDExcs X W rest b) : PDExcs X W (st :: rest) (exSeq a b) := by
  obtain ⟨t, p1, s1⟩ := h1.ex
  obtain ⟨u, p2, s2⟩ := h2.ex
  exact ⟨_, pss_cons p1 p2, sndr_seq s1 s2⟩
theorem pdrs_one (h1 : PDExc X W st a) : PDExcs X W [st] a := by
  obtain ⟨t, p1, s1⟩ := h1.ex
  exact ⟨_, pss_one p1, s1⟩
theorem pdr_if {x y : List Stmt} (hc : PDT X c nc) (ha : PDExcs X W x a) (hb : PDExcs X W y b) : PDExc X W (.If c x y pos) (exIf nc a b) := by
  obtain ⟨t, p0, s0⟩ := hc.ex
  obtain ⟨u, p1, s1⟩ := ha.ex
  obtain ⟨w, p2, s2⟩ := hb.ex
  refine ⟨_, ps_if p0 p1 p2, fun F σ H ρ δ r G e D q => ?_⟩
  obtain ⟨⟨x, δ1⟩, e1, e⟩ := Option.bind_eq_some_iff.mp e
  refine s0 F σ H ρ δ x δ1 G e1 _ fun H1 G1 M1 => ?_
  have q1 : PostExc X.K F W D σ H1 ρ r := by
    cases r with
    | none => exact q
    | some p => exact fun σ2 H2 G2 M2 => q σ2 H2 G2 (M1.trans M2)
  cases x with
  | true => exact iteT (s1 F σ H1 ρ δ1 r G1 e D q1)
  | false => exact iteF (s2 F σ H1 ρ δ1 r G1 e D q1)
theorem pdr_for {body : List Stmt} (hp : PassesOwn (model X.prog X.w) X.A X.env X.xe) (hc : X.calm = true) (hi : PDI X tg iter mi) (hg : PDG X tg sl mg) (hb : PDExcs X W body a) (hs : ∀ x, foldedSetIterable iter X.env x = pure x := by intro _; rfl) :
    PDExc X W (.For tg iter body [] pos) (exFor mi mg a) := by
  obtain ⟨wi, p1, s1⟩ := hi.ex
  obtain ⟨g, p2, s2⟩ := hg.ex
  obtain ⟨tb, p3, s3⟩ := hb.ex
  refine ⟨_, ps_for hp hc p1 p2 p3 hs, fun F σ0 H0 ρ0 δ0 r G e D q => ?_⟩
  obtain ⟨⟨ds, δ1⟩, e1, e⟩ := Option.bind_eq_some_iff.mp e
  refine s1 F σ0 H0 ρ0 δ0 ds δ1 G e1 _ fun J H1 G1 M1 Wk => ?_
  refine ⟨fun i k σ H => k = ds.length - i ∧ i ≤ ds.length ∧ ∃ ρ δ, Good X.K F σ H ρ δ ∧ Mv (Mm F σ0 ρ0) H1 (Mm F σ ρ) H ∧ forR mg a (ds.drop i) ρ δ = some r, ⟨_, rfl, Nat.zero_le _, ρ0, δ1, G1, Mv.refl _ _, e⟩, ?_⟩
  rintro i k σ H ⟨rfl, hile, ρ, δ, G2, M2, ef⟩
  by_cases hlt : i < ds.length
  · obtain ⟨go, yl⟩ := (Wk _ H M2 G2.mm i).1 hlt
    have hld : i < ds.length := hlt
    rw [List.drop_eq_getElem_cons hld] at ef
    refine .inr ⟨go, fun σ H => ∃ ρ δ, Good X.K F σ H ρ δ ∧ Mv (Mm F σ0 ρ0) H1 (Mm F σ ρ) H ∧ forR mg a (ds.drop (i + 1)) ρ δ = some r, fun σ' H' h => ⟨ds.length - (i + 1), by omega, rfl, hlt, h⟩, fun x H3 hy => ?_⟩
    obtain ⟨kp, dx, edx, rdx⟩ := yl x H3 hy
    rw [List.getElem?_eq_getElem hld] at edx
    cases edx
    replace G2 := G2.keep kp
    replace M2 := M2.trans (Mv.same kp)
    unfold forR at ef
    obtain ⟨ρ2, f1, ef⟩ := Option.bind_eq_some_iff.mp ef
    obtain ⟨r1, f2, ef⟩ := Option.bind_eq_some_iff.mp ef
    refine s2 F σ H3 ρ δ x _ ρ2 G2 rdx f1 _ fun σ2 G3 M3 _ => ?_
    refine s3 F σ2 H3 ρ2 δ r1 G3 f2 _ ?_
    match r1, ef with
    | none, ef => cases ef; exact q
    | some (.nx, ρ3, δ3), ef => exact fun σ4 H4 G4 M4 => ⟨ρ3, δ3, G4, (M2.trans M3).trans M4, ef⟩
    | some (.ct, ρ3, δ3), ef => exact fun σ4 H4 G4 M4 => ⟨ρ3, δ3, G4, (M2.trans M3).trans M4, ef⟩
    | some (.bk, ρ3, δ3), ef => cases ef; exact fun σ4 H4 G4 M4 => q σ4 H4 G4 (M1.trans ((M2.trans M3).trans M4))
    | some (.rt d, ρ3, δ3), ef => cases ef; exact fun σ4 H4 G4 M4 => q σ4 H4 G4 (M1.trans ((M2.trans M3).trans M4))
  · have hi' : i = ds.length := by omega
    subst hi'
    rw [List.drop_of_length_le (Nat.le_refl _)] at ef
    cases ef
    exact .inl ⟨(Wk _ H M2 G2.mm ds.length).2 (Nat.le_refl _), q σ H G2 (M1.trans M2)⟩
/-- raise NoFit('text'), the class without own __init__ -/
theorem pdr_raise {Wx : L2.WX} {C : Addr} {bmB : List Value} {B newId initId : String} {x s : Str} {j : Nat} {p p2 p3 : Pos} (hc : X.calm = true) (tk : Takes X Wx) (F : ExcBaseFacts B newId initId bmB) (q : PySem.W.excIn X.K C bmB newId = true) (gC : X.mg x = some (.ref C)) (kC : PySem.W.keepIn X.K (.ref C) = true) (r : Raises X (.ref C)) (hg : Gl X x := by rfl)
    (hdb : (x == ("__debug__" : Str)) = false := by decide) : PDExc X (fun σ H => Wx (.ref C) none σ H) (.Raise (some (.Call (.Name x p) [.Constant (.str s) j p2] [] p3)) none pos) exRaise := by
  refine ⟨_, ps_raise hc tk (pmk_own F q gC kC r hg hdb), fun F σ H ρ δ r G e D q => ?_⟩
  cases e
  exact q σ H ρ δ G
end
/-! ### a def that may raise -/
def outR (o : Option (Option (Fl × List Sl × Dk))) : Option (Option D) := o.bind fun r => match r with
  | none => some none
  | some p => (outP (some p)).map fun z => some z.1
def fnR (n np : Nat) (s : MR1) : List D → Option (Option D) := fun ds => if ds.length = np ∧ np ≤ n then outR (s (slots n (ds.map .val)) ⟨[], 0, [], none⟩) else none
def spR (K : PySem.W.Frag) (C : Addr) (m : List D → Option (Option D)) : Sp := fun vs H Q E => ∃ (M : Addr → Prop) (ds : List D) (r : Option D), (∀ a, M a → H a ≠ none) ∧ Reps K M H vs ds ∧ m ds = some r ∧ match r with
  | some z => ∀ v H', (∀ a o, H a = some o → H' a = some o) → Rep K M H' v z → Q v H'
  | none => ∀ H', (∀ a o, H a = some o → H' a = some o) → E (.ref C) none H'
section
variable {P : Program} {w : World} {K : PySem.W.Frag} {mg : Str → Option Value} {base : Heap}
theorem okR {x qual : Str} {st : Stmt} {f C : Addr} {fd : FuncData} {N ps : List Str} {k : Nat} {s : MR1} (F : Fun K x qual st f fd) (S : FnScope N ps (defScope st)) (hn : ps.length ≤ N.length)
    (hb : ∀ (cdv : Value) (A : Around) (outer : List Env) (s0 : Shared) (H : Hp) (E : XK), Room k (A.deeper (envOfC qual (defScope st) s0.heap.objs.size f cdv)) → PDExcs (cxOf (L2.CX P w) P w K mg base N qual (defScope st) f cdv A outer s0 H E) (fun _ H' => E (.ref C) none H') (defBody st) s) :
    FnOk P w K mg base (L2.CX P w) (k + 1) f fd ps (spR K C (fnR N.length ps.length s)) := by
  refine F.okX S (fun vs H Q E h => ?_) (fun cdv A outer s0 H vs Q E hr h => ?_)
  · obtain ⟨M, ds, r, hM, R, hm, q⟩ := h
    unfold fnR at hm
    split at hm
    · rename_i hz; rw [R.length]; exact hz.1
    · cases hm
  · obtain ⟨M, ds, r, hM, R, hm, q⟩ := h
    unfold fnR at hm
    split at hm
    · rename_i hz
      obtain ⟨t, p1, s1⟩ := (hb cdv A outer s0 H E hr).ex
      refine ⟨t, p1, ?_⟩
      generalize hres : s (slots N.length (ds.map Sl.val)) ⟨[], 0, [], none⟩ = res at hm
      have nun : ∀ (i : Nat) es, (slots N.length (ds.map Sl.val))[i]? ≠ some (.own es) := fun i es h => by
        rcases slots_get h with h | h
        · rw [List.getElem?_map] at h
          obtain ⟨d, _, h⟩ := Option.map_eq_some_iff.mp h
          cases h
        · cases h
      let Fr0 : Fr := ⟨M, none, H⟩
      have eM : Mm Fr0 (start N vs) (slots N.length (ds.map Sl.val)) = M := by
        funext a
        refine propext ⟨fun z => ?_, .inl⟩
        rcases z with z | ⟨i, es, f1, _⟩
        · exact z
        · exact (nun i es f1).elim
      have G : Good K Fr0 (start N vs) H (slots N.length (ds.map Sl.val)) ⟨[], 0, [], none⟩ := by
        refine ⟨?_, fun i d h => ?_, fun i es h => (nun i es h).elim, fun i j es _ _ h => (nun i es h).elim, hM, fun i h => ?_, fun p h => (nomatch h), fun _ _ e _ => e⟩
        · unfold L2.start slots
          simp only [List.length_append, List.length_map, List.length_replicate, R.length]
        · rw [eM]
          rcases slots_get h with h | h
          · rw [List.getElem?_map] at h
            obtain ⟨d', h1, h2⟩ := Option.map_eq_some_iff.mp h
            cases h2
            obtain ⟨v, g1, g2⟩ := R.get' h1
            exact ⟨v, start_get g1, g2⟩
          · cases h
        · rcases slots_get h with h | h
          · rw [List.getElem?_map] at h
            obtain ⟨d', h1, h2⟩ := Option.map_eq_some_iff.mp h
            cases h2
          · cases h
      cases res with
      | none => cases hm
      | some r0 =>
        refine s1 Fr0 (start N vs) H _ ⟨[], 0, [], none⟩ r0 G hres _ ?_
        cases r0 with
        | none =>
          cases hm
          exact fun σ' H' ρ' δ' G' => q H' fun a o e => G'.fr a o e fun p h => nomatch h
        | some p =>
          obtain ⟨fl, ρ1, δ1⟩ := p
          intro σ' H' G' M'
          have an : Mv (Mm Fr0 σ' ρ1) H' M H' := fun a o e n => ⟨e, fun z => n (.inl z)⟩
          have kp : ∀ a o, H a = some o → H' a = some o := fun a o e => G'.fr a o e fun p h => nomatch h
          cases fl with
          | nx => cases hm; exact q _ _ kp .non
          | rt d => cases hm; exact fun v R1 => q _ _ kp (R1.mv an)
          | bk => cases hm
          | ct => cases hm
    · cases hm
end
end PD

namespace PD
open PySem PySem.Spec PyProof.Rows L2
/-! ### a slot that nothing is said of -/
theorem Good.reslot {K F σ H ρ δ} (G : Good K F σ H ρ δ) {i : Nat} (hi : ρ[i]? = some .no) (x : Option V) : Good K F (σ.set i x) H ρ δ ∧ Mm F (σ.set i x) ρ = Mm F σ ρ := by
  have ne : ∀ (j : Nat) s, ρ[j]? = some s → s ≠ .no → (σ.set i x)[j]? = σ[j]? := fun j s hj hs => by
    rw [List.getElem?_set_ne fun e => hs (by rw [← e, hi] at hj; exact (Option.some.inj hj).symm)]
  have eM : Mm F (σ.set i x) ρ = Mm F σ ρ := by
    funext a
    refine propext ⟨fun z => ?_, fun z => ?_⟩
    · rcases z with z | ⟨j, es, f1, f2⟩
      · exact .inl z
      · rw [ne j _ f1 (fun e => by cases e)] at f2
        exact .inr ⟨j, es, f1, f2⟩
    · rcases z with z | ⟨j, es, f1, f2⟩
      · exact .inl z
      · refine .inr ⟨j, es, f1, ?_⟩
        rw [ne j _ f1 (fun e => by cases e)]
        exact f2
  refine ⟨⟨by rw [List.length_set]; exact G.len, fun j d h => ?_, fun j w h => ?_, fun j k ds es a h1 h2 h3 h4 => ?_, G.m0, fun {k} j h => ?_, G.dck, G.fr⟩, eM⟩
  · rw [eM, ne j _ h (fun e => by cases e)]
    exact G.val j d h
  · rw [eM, ne j _ h (fun e => by cases e)]
    exact G.own j w h
  · rw [ne j _ h1 (fun e => by cases e)] at h3
    rw [ne k _ h2 (fun e => by cases e)] at h4
    exact G.inj j k ds es a h1 h2 h3 h4
  · rw [ne j _ h (fun e => by cases e)]
    exact G.dsl j h
section
variable {X : Cx} {e : Expr} {es : List Expr} {r : MA}
theorem pda_meet (h : ∀ (pn : List (Addr × Obj)) (xe : Value → Shared → Prop), PDA (X.tr pn xe) es r) : ∃ t, (∀ (pn : List (Addr × Obj)) (xe : Value → Shared → Prop), PA (X.tr pn xe) es t) ∧ SndA X.K t r :=
  ⟨fun σ H Q => ∀ pn xe, (h pn xe).ex.choose σ H Q, fun pn xe => ⟨fun pos pins s σ H Q I q => (h pn xe).ex.choose_spec.1.run pos pins s σ H Q I (q pn xe)⟩, fun F σ H ρ δ d δ' G e Q q pn xe => (h pn xe).ex.choose_spec.2 F σ H ρ δ d δ' G e Q q⟩
def noB (ρ : List Sl) (i : Nat) : Bool := match ρ[i]? with
  | some .no => true
  | _ => false
theorem noB_of {ρ : List Sl} {i : Nat} (h : noB ρ i = true) : ρ[i]? = some .no := by
  unfold noB at h
  split at h
  · assumption
  · cases h
/-- try: x = f(..) except C as n: suite, where the suite does nothing as long as c holds -/
def sTryE (i ie : Nat) (m : List D → Option (Option D)) (r : MA) (c : List Sl → Bool) : MS := fun ρ δ => (r ρ δ).bind fun p => (m p.1).bind fun z => match z with
  | some d => if i < ρ.length then some (.nx, ρ.set i (.val d), p.2) else none
  | none => if (noB ρ ie && c ρ) = true then some (.nx, ρ, p.2) else none
theorem pds_tryE {f C : Addr} {fd : FuncData} {ps : List Str} {k : Nat} {m : List D → Option (Option D)} {y found n cn : Str} {i ie : Nat} {b₀ : Stmt} {suite : List Stmt} {p np pos1 pos2 pos3 pos4 pos : Pos} {ts : Addr → TS} {c : List Sl → Bool}
    (Fn : FnOk X.prog X.w X.K X.mg X.base (L2.CX X.prog X.w) k f fd ps (spR X.K C m)) (hr : Room k X.A) (hm : X.mg y = some (.ref f)) (hk : PySem.W.keepIn X.K (.ref f) = true) (hb : Binds X.K fd ps [])
    (ha : ∀ (pn : List (Addr × Obj)) (xe : Value → Shared → Prop), PDA (X.tr pn xe) (e :: es) r) (hN : X.N.Nodup) (tk : Takes X fun _ _ _ _ => False) (hc : Names X cn (.ref C)) (hex : PySem.W.exmOne X.K (.ref C) (.ref C) = some true)
    (hsu : ∀ (a : Addr) (oe : Obj) (pn : List (Addr × Obj)), Zc (.ref C) none oe → (∃ vs, oe.data = .fields vs) → PSs (X.suite a ((a, oe) :: pn)) (b₀ :: suite) (ts a))
    (hts : ∀ F σ H ρ δ a, Good X.K F σ H ρ δ → σ[ie]? = some (some (.ref a)) → c ρ = true → ∀ D : Ends, (∀ H', (∀ b o, H b = some o → H' b = some o) → D.nx σ H') → ts a D σ H)
    (hi : X.N[i]? = some found := by rfl) (hie : X.N[ie]? = some n := by rfl) (hln : X.env.kindOf n = some .local := by rfl) (hs : X.stack = X.env :: X.outer := by rfl) (hf : X.env.frame = some X.env.locals := by rfl)
    (hx : Loc X.env.scope found := by first | exact Or.inl rfl | exact Or.inr rfl) (hsw : ∀ (pn : List (Addr × Obj)) (xe : Value → Shared → Prop), swapsWith (.Call (.Name y p) (e :: es) [] pos2) (some (.Name found pos1)) pos3.line X.env = pure false := by intro _ _; rfl)
    (hfn : X.fn found = true ∨ X.env.scope.names.lookup found = some .local := by first | exact .inl rfl | exact .inr rfl) (hg : Gl X y := by rfl) (hdb : (y == ("__debug__" : Str)) = false := by decide)
    (he : starEach (e :: es) X.env = (false, eval e X.env) :: starEach es X.env := by rfl) (hpl : (backTo pos2 (starEach es X.env)).any (·.1) = false := by rfl) :
    PDS X (.Try [.Assign [.Name found pos1] (.Call (.Name y p) (e :: es) [] pos2) pos3] [.ExceptHandler (some (.Name cn np)) (some n) (b₀ :: suite) pos4] [] [] pos) (sTryE i ie m r c) := by
  obtain ⟨ta, pta, sta⟩ := pda_meet ha
  refine ⟨_, ps_try_as hs hf hN hie hln hc tk (tb := fun W => tAsg (tCallS (spR X.K C m) (L2.WE W) ta) (gName i)) (ts := fun a cls d D σ H => cls = .ref C ∧ d = none ∧ ts a D σ H) (fun W pn xe tkW hp => ?_) (fun a oe cls d pn hz hv => ?_), fun F σ H ρ δ fl ρ' δ' G e D q => ?_⟩
  · exact pss_one (ps_set (X := X.tr pn xe) hN hi hx (pe_callS (X := X.tr pn xe) Fn hr hg hm hk hb (fun σ => passAt tkW σ) (pta pn xe) hdb he hpl) (hsw pn xe) hfn)
  · by_cases hcd : cls = .ref C ∧ d = none
    · obtain ⟨rfl, rfl⟩ := hcd
      exact ⟨fun pins s σ H D I h => (hsu a oe pn hz hv).run pins s σ H D I h.2.2⟩
    · exact ⟨fun pins s σ H D I h => absurd ⟨h.1, h.2.1⟩ hcd⟩
  · unfold sTryE at e
    obtain ⟨⟨xs, δ1⟩, e1, e⟩ := Option.bind_eq_some_iff.mp e
    obtain ⟨z, e2, e⟩ := Option.bind_eq_some_iff.mp e
    dsimp only at e e2
    refine sta F σ H ρ δ xs δ1 G e1 _ fun vs H1 G1 M1 R1 => ?_
    cases z with
    | some d =>
      dsimp only at e
      split at e
      · rename_i hil
        cases e
        refine ⟨_, xs, some d, G1.mm, R1, e2, fun v H2 k2 R2 => ?_⟩
        exact (pg_set i) F σ H2 ρ δ' v d _ (G1.keep k2) R2 rfl _ fun σ' G' M' _ => q σ' H2 G' ((M1.trans (Mv.same k2)).trans M')
      · cases e
    | none =>
      dsimp only at e
      split at e
      · rename_i hno0
        rw [Bool.and_eq_true] at hno0
        have hno : ρ[ie]? = some .no ∧ c ρ = true := ⟨noB_of hno0.1, hno0.2⟩
        cases e
        refine ⟨_, xs, none, G1.mm, R1, e2, fun H2 k2 => ?_⟩
        have G2 := G1.keep k2
        refine ⟨true, hex, fun _ a hna => ⟨rfl, rfl, ?_⟩, fun h => by cases h⟩
        obtain ⟨G3, eM3⟩ := G2.reslot hno.1 (some (.ref a))
        have hiel : ie < σ.length := by
          rw [G.len]
          exact (List.getElem?_eq_some_iff.mp hno.1).1
        refine hts F _ H2 ρ δ' a G3 (by rw [List.getElem?_set_self hiel]) hno.2 _ fun H3 k3 => ?_
        obtain ⟨G4, eM4⟩ := (G3.keep k3).reslot hno.1 none
        refine q _ H3 G4 ?_
        rw [eM4, eM3]
        exact (M1.trans (Mv.same k2)).trans (Mv.same k3)
      · cases e
end
end PD

namespace PD
open PySem PySem.Spec PyProof.Rows L2
/-! ### if x is not None or not isinstance(e, T): return c, in the suite -/
def tSuite (K : PySem.W.Frag) (j ie : Nat) (C E : Addr) (a : Addr) : TS :=
  tIfS (tOr (tTest (tOp (fun x y H Q => y = .non ∧ Q (.bl (!decide (x = .non))) H) (tVar j) (tC .non))) (tNot (tB (tCB (rIsE K C a) (tCons (tVar ie) (tCons (tC (.ref E)) tNil)))))) (tSeq (tRet (tC (.bl false))) tNext) tNext
section
variable {X : Cx} {C E : Addr} {due n tn : Str} {j ie : Nat} {p1 p2 p3 p4 p5 p6 p7 p8 p9 pa pb pc : Pos} {k1 k2 : Nat}
theorem pss_suite {a : Addr} {oe : Obj} {pn : List (Addr × Obj)} (hE : ExcC X.K C) (hm : X.mg "isinstance" = none) (hT : X.mg tn = some (.ref E)) (hz : Zc (.ref C) none oe) (hf : ∃ vs, oe.data = .fields vs)
    (hj : X.N[j]? = some due := by rfl) (hie : X.N[ie]? = some n := by rfl) (hvj : Vis X.env.scope due := by first | exact Or.inl rfl | exact Or.inr (Or.inl rfl) | exact Or.inr (Or.inr rfl)) (hvi : Vis X.env.scope n := by first | exact Or.inl rfl | exact Or.inr (Or.inl rfl) | exact Or.inr (Or.inr rfl))
    (hg : Gl X "isinstance" := by rfl) (hgT : Gl X tn := by rfl) (h1 : (due == ("__debug__" : Str)) = false := by decide) (h2 : (due == ("__classdict__" : Str)) = false := by decide) (h3 : (n == ("__debug__" : Str)) = false := by decide) (h4 : (n == ("__classdict__" : Str)) = false := by decide) (h5 : (tn == ("__debug__" : Str)) = false := by decide)
    (ht : ∀ whole, isTrue (.Call (.Name "isinstance" p5) [.Name n p6, .Name tn p7] [] p8) X.env whole = (do let v ← whole; standAt p8; holding [v] (truthy v)) := by intro _; rfl)
    (he : starEach [.Name n p6, .Name tn p7] X.env = (false, eval (.Name n p6) X.env) :: starEach [.Name tn p7] X.env := by rfl) (he2 : starEach [.Name tn p7] X.env = (false, eval (.Name tn p7) X.env) :: starEach [] X.env := by rfl) (hpl : (backTo p8 (starEach [.Name tn p7] X.env)).any (·.1) = false := by rfl) :
    PSs (X.suite a ((a, oe) :: pn)) [.If (.BoolOp .Or [.Compare (.Name due p1) [.IsNot] [.Constant .none k1 p2] p3, .UnaryOp .Not (.Call (.Name "isinstance" p5) [.Name n p6, .Name tn p7] [] p8) p9] pa) [.Return (some (.Constant (.bool false) k2 pb)) pc] [] p4] (tSuite X.K j ie C E a) := by
  refine pss_one (ps_if (PW.pt (pw_or (pt_cmpR op_notN (pe_var hj hvj h1 h2) pe_non (nomark _)) (pw_or1 (pt_not (pt_val (pe_callB (call_isE hE hz hf) hg hm (by decide +kernel) (pa_cons (pe_var hie hvi h3 h4) (pa_cons (pe_glob hgT hT (by rfl) h5) pa_nil he2) he) (by decide) (by decide) he hpl) ht))))) (pss_cons (ps_ret pe_bl) pss_nil) pss_nil)
end
theorem tsuite_of {K : PySem.W.Frag} {j ie : Nat} {C E : Addr} (hk : PySem.W.kitOne K (.ref C) (.ref E) = some true) {F σ H ρ δ a} (G : Good K F σ H ρ δ) (he : σ[ie]? = some (some (.ref a))) (hd : ρ[j]? = some (.val .none)) (D : Ends) (h : D.nx σ H) : tSuite K j ie C E a D σ H := by
  obtain ⟨v, e1, r⟩ := G.val j _ hd
  cases r
  refine ⟨_, e1, rfl, _, rfl, ?_⟩
  show if (!decide (V.non = V.non)) = true then _ else _
  rw [decide_eq_true rfl, Bool.not_true, if_neg Bool.false_ne_true]
  refine ⟨_, he, .ref E, .ref E, true, rfl, fun u hu => ?_, hk, _, rfl, ?_⟩
  · exact hu
  · show if (!true) = true then _ else _
    rw [if_neg (by decide)]
    exact h
end PD

namespace PD
open PySem PySem.Spec PyProof.Rows L2
/-! ### x = dict(list of pairs), a dict of the def's own -/
def pairE : D → Option (Key × D)
  | .tuple [k, v] => (keyOf k).map fun kk => (kk, v)
  | _ => none
def pairsE : List D → Option (List (Key × D))
  | [] => some []
  | d :: ds => (pairE d).bind fun p => (pairsE ds).map fun ps => p :: ps
def sDictP (i : Nat) (m : ME) : MS := fun ρ δ => (m ρ δ).bind fun p => match p.1 with
  | .list ds => (pairsE ds).bind fun ps => if i < ρ.length then some (.nx, ρ.set i (.dic ((putAll [] ps).map fun e => (keyD e.1, e.2))), p.2) else none
  | _ => none
theorem kV_of {K M H v d kk} (r : Rep K M H v d) (h : keyOf d = some kk) : v = kV kk := by
  cases r <;> first | (simp [keyOf] at h; done) | skip
  · simp [keyOf] at h; subst h; rfl
  · simp [keyOf] at h; subst h; rfl
theorem RepD.merge {K M H} : ∀ {kvs : List (Key × V)} {es : List (Key × D)} {ps : List (Key × V)} {qs : List (Key × D)}, RepD K M H kvs es → RepD K M H ps qs → RepD K M H (mergeK kvs ps) (putAll es qs)
  | _, _, _, _, R, .nil => R
  | kvs, es, _, _, R, .cons (k := k) (v := v) (ps := ps) (d := d) (es := qs) r t => by
    show RepD K M H (mergeK (putK kvs k v) ps) (putAll (putP es k d) qs)
    exact RepD.merge (R.put k r) t
theorem pairs_rep {K M H} : ∀ {vs : List V} {ds : List D} {ps : List (Key × D)}, Reps K M H vs ds → pairsE ds = some ps → ∃ (as : List Addr) (kvs : List (Key × V)), vs = as.map V.ref ∧ Paired (fun p kv => SqT K H p [kV kv.1, kv.2]) as kvs ∧ RepD K M H kvs ps
  | _, _, _, .nil, h => by cases h; exact ⟨[], [], rfl, .nil, .nil⟩
  | _, _, _, .cons r t, h => by
    unfold pairsE at h
    obtain ⟨p, e1, h⟩ := Option.bind_eq_some_iff.mp h
    obtain ⟨ps, e2, h⟩ := Option.map_eq_some_iff.mp h
    cases h
    obtain ⟨as, kvs, rfl, hp, hr⟩ := pairs_rep t e2
    unfold pairE at e1
    split at e1
    · obtain ⟨kk, e3, e4⟩ := Option.map_eq_some_iff.mp e1
      cases e4
      cases r with
      | tup ha rs =>
        obtain ⟨v, w, rfl, r1, r2⟩ := reps2 rs
        have := kV_of r1 e3
        subst this
        exact ⟨_ :: as, (kk, w) :: kvs, rfl, .cons ha.sq hp, .cons r2 hr⟩
    · cases e1
section
variable {X : Cx} {e : Expr} {ma : ME} {pos : Pos}
theorem pds_dictP (i : Nat) {x : Str} {pos' p2 p3 : Pos} (hc : X.calm = true) (hN : X.N.Nodup) (hm : X.mg "dict" = none) (he : PD X e ma) (hi : X.N[i]? = some x := by rfl) (hx : Loc X.env.scope x := by first | exact Or.inl rfl | exact Or.inr rfl) (hs : swapsWith (.Call (.Name "dict" p2) [e] [] p3) (some (.Name x pos')) pos.line X.env = pure false := by rfl) (hf : X.fn x = true ∨ X.env.scope.names.lookup x = some .local := by first | exact .inl rfl | exact .inr rfl)
    (hg : Gl X "dict" := by rfl) (hst : starEach [e] X.env = (false, eval e X.env) :: starEach [] X.env := by rfl) (hpl : (backTo p3 (starEach [] X.env)).any (·.1) = false := by rfl) :
    PDS X (.Assign [.Name x pos'] (.Call (.Name "dict" p2) [e] [] p3) pos) (sDictP i ma) := by
  obtain ⟨t, p1, s1⟩ := he.ex
  refine ⟨_, ps_set hN hi hx (pe_callTy (call_dictP hc) hg hm (by decide +kernel) (pa_cons p1 pa_nil hst) (by decide) (by decide) hst hpl) hs hf, fun F σ H ρ δ fl ρ' δ' G e D q => ?_⟩
  obtain ⟨⟨d, δ1⟩, e1, e⟩ := Option.bind_eq_some_iff.mp e
  dsimp only at e
  split at e
  · obtain ⟨ps, e2, e⟩ := Option.bind_eq_some_iff.mp e
    split at e
    · rename_i hz
      cases e
      refine s1 F σ H ρ δ _ _ G e1 _ fun v H1 G1 M1 R1 => ?_
      cases R1 with
      | @lst a vs _ ha r =>
        obtain ⟨as, kvs, rfl, hp, hr⟩ := pairs_rep r e2
        refine ⟨a, as, kvs, rfl, ha.sq, hp, fun p hn => ?_⟩
        have R2 : RepD X.K (Mm F σ ρ) H1 (mergeK [] kvs) (putAll [] ps) := RepD.merge .nil hr
        obtain ⟨G2, M2⟩ := G1.ownNew i hz hn (.dic R2.repK)
        exact q _ _ G2 (M1.trans M2)
    · cases e
  · cases e
end
def nonB (ρ : List Sl) (j : Nat) : Bool := match ρ[j]? with
  | some (.val .none) => true
  | _ => false
theorem nonB_of {ρ : List Sl} {j : Nat} (h : nonB ρ j = true) : ρ[j]? = some (.val .none) := by
  unfold nonB at h
  split at h
  · assumption
  · cases h
end PD

namespace PD
open PySem PySem.Spec PyProof.Rows L2
/-! ### walk rules of what may raise: N where it raises, P where it does not -/
def WR (m : MR1) (ρ : List Sl) (δ : Dk) (N : Prop) (P : Fl → List Sl → Dk → Prop) : Prop := ∃ r, m ρ δ = some r ∧ match r with
  | none => N
  | some p => P p.1 p.2.1 p.2.2
section
variable {ρ : List Sl} {δ : Dk} {N : Prop} {P : Fl → List Sl → Dk → Prop}
theorem wr_lift {m : MS} (h : WS m ρ δ P) : WR (exLift m) ρ δ N P := by
  obtain ⟨f, ρ', δ', e, p⟩ := h
  exact ⟨some (f, ρ', δ'), by unfold exLift; rw [e]; rfl, p⟩
theorem wr_raise (h : N) : WR exRaise ρ δ N P := ⟨none, rfl, h⟩
theorem wr_seq {a b : MR1} (h : WR a ρ δ N (onNx P fun ρ1 δ1 => WR b ρ1 δ1 N P)) : WR (exSeq a b) ρ δ N P := by
  obtain ⟨r, e, p⟩ := h
  match r, p with
  | none, p => exact ⟨none, by unfold exSeq; rw [e]; rfl, p⟩
  | some (.nx, ρ1, δ1), p =>
    obtain ⟨r2, e2, p2⟩ := p
    exact ⟨r2, by unfold exSeq; rw [e]; exact e2, p2⟩
  | some (.rt d, ρ1, δ1), p => exact ⟨some (.rt d, ρ1, δ1), by unfold exSeq; rw [e]; rfl, p⟩
  | some (.bk, ρ1, δ1), p => exact ⟨some (.bk, ρ1, δ1), by unfold exSeq; rw [e]; rfl, p⟩
  | some (.ct, ρ1, δ1), p => exact ⟨some (.ct, ρ1, δ1), by unfold exSeq; rw [e]; rfl, p⟩
theorem wr_if {c : MT} {a b : MR1} (h : WT c ρ δ fun x δ1 => if x = true then WR a ρ δ1 N P else WR b ρ δ1 N P) : WR (exIf c a b) ρ δ N P := by
  obtain ⟨x, δ1, e, p⟩ := h
  cases x with
  | true =>
    obtain ⟨r, e2, p2⟩ := p
    exact ⟨r, by unfold exIf; rw [e]; exact e2, p2⟩
  | false =>
    rw [if_neg Bool.false_ne_true] at p
    obtain ⟨r, e2, p2⟩ := p
    exact ⟨r, by unfold exIf; rw [e]; exact e2, p2⟩
theorem wr_for {mi : MA} {g : MG} {s : MR1} (h : WA mi ρ δ fun ds δ1 => WR (forR g s ds) ρ δ1 N P) : WR (exFor mi g s) ρ δ N P := by
  obtain ⟨ds, δ1, e, r, e2, p⟩ := h
  exact ⟨r, by unfold exFor; rw [e]; exact e2, p⟩
/-- a for that may raise, by an invariant of the items that are left -/
theorem wr_forI {g : MG} {s : MR1} (I : List D → List Sl → Dk → Prop) (hs : ∀ d ds ρ δ, I (d :: ds) ρ δ → WG g d ρ fun ρ1 => WR s ρ1 δ N fun f ρ2 δ2 => match f with
    | .nx => I ds ρ2 δ2
    | .ct => I ds ρ2 δ2
    | .bk => P .nx ρ2 δ2
    | .rt d => P (.rt d) ρ2 δ2) (h0 : ∀ ρ δ, I [] ρ δ → P .nx ρ δ) : ∀ (ds : List D) (ρ : List Sl) (δ : Dk), I ds ρ δ → WR (forR g s ds) ρ δ N P
  | [], ρ, δ, h => ⟨some (.nx, ρ, δ), rfl, h0 _ _ h⟩
  | d :: ds, ρ, δ, h => by
    obtain ⟨ρ1, e1, r, e2, p⟩ := hs d ds ρ δ h
    have e3 : ∀ z, (match r with
      | none => some none
      | some (.nx, ρ', δ') => forR g s ds ρ' δ'
      | some (.ct, ρ', δ') => forR g s ds ρ' δ'
      | some (.bk, ρ', δ') => some (some (.nx, ρ', δ'))
      | some (.rt d, ρ', δ') => some (some (.rt d, ρ', δ'))) = some z → forR g s (d :: ds) ρ δ = some z := fun z hz => by
      unfold forR
      rw [e1]
      show (s ρ1 δ).bind _ = _
      rw [e2]
      exact hz
    match r, p, e3 with
    | none, p, e3 => exact ⟨none, e3 _ rfl, p⟩
    | some (.nx, ρ2, δ2), p, e3 =>
      obtain ⟨r2, f1, f2⟩ := wr_forI I hs h0 ds ρ2 δ2 p
      exact ⟨r2, e3 _ f1, f2⟩
    | some (.ct, ρ2, δ2), p, e3 =>
      obtain ⟨r2, f1, f2⟩ := wr_forI I hs h0 ds ρ2 δ2 p
      exact ⟨r2, e3 _ f1, f2⟩
    | some (.bk, ρ2, δ2), p, e3 => exact ⟨_, e3 _ rfl, p⟩
    | some (.rt d, ρ2, δ2), p, e3 => exact ⟨_, e3 _ rfl, p⟩
end
theorem wr_fnR {n np : Nat} {s : MR1} {ds : List D} {P : Option D → Prop} (h : WR s (slots n (ds.map .val)) ⟨[], 0, [], none⟩ (P none) (onRt fun d _ => P (some d))) (hl : ds.length = np ∧ np ≤ n := by exact ⟨rfl, by decide⟩) : ∃ z, fnR n np s ds = some z ∧ P z := by
  obtain ⟨r, e, p⟩ := h
  unfold fnR
  rw [if_pos hl, e]
  match r, p with
  | none, p => exact ⟨none, rfl, p⟩
  | some (.rt d, ρ, δ), p => exact ⟨some d, rfl, p⟩
  | some (.nx, ρ, δ), p => exact ⟨some .none, rfl, p⟩
  | some (.bk, ρ, δ), p => exact p.elim
  | some (.ct, ρ, δ), p => exact p.elim
section
variable {ρ : List Sl} {δ : Dk} {P : Fl → List Sl → Dk → Prop}
theorem ws_tryE {i ie : Nat} {m : List D → Option (Option D)} {r : MA} {c : List Sl → Bool} (h : WA r ρ δ fun ds δ1 => ∃ z, m ds = some z ∧ match z with
    | some d => i < ρ.length ∧ P .nx (ρ.set i (.val d)) δ1
    | none => ρ[ie]? = some .no ∧ c ρ = true ∧ P .nx ρ δ1) : WS (sTryE i ie m r c) ρ δ P := by
  obtain ⟨ds, δ1, e, z, e2, p⟩ := h
  unfold WS sTryE
  rw [e]
  show ∃ f ρ' δ', ((m ds).bind _) = some (f, ρ', δ') ∧ _
  rw [e2]
  cases z with
  | some d => exact ⟨_, _, _, if_pos p.1, p.2⟩
  | none =>
    refine ⟨_, _, _, if_pos ?_, p.2.2⟩
    rw [p.2.1, Bool.and_true]
    unfold noB
    rw [p.1]
theorem ws_dictP {i : Nat} {m : ME} (h : WE m ρ δ fun d δ1 => ∃ ds ps, d = .list ds ∧ pairsE ds = some ps ∧ i < ρ.length ∧ P .nx (ρ.set i (.dic ((putAll [] ps).map fun e => (keyD e.1, e.2)))) δ1) : WS (sDictP i m) ρ δ P := by
  obtain ⟨d, δ1, e, ds, ps, rfl, e2, hl, p⟩ := h
  unfold WS sDictP
  rw [e]
  show ∃ f ρ' δ', ((pairsE ds).bind _) = some (f, ρ', δ') ∧ _
  rw [e2]
  exact ⟨_, _, _, if_pos hl, p⟩
theorem pairsE_map {α : Type} (f : α → D) (k : α → Key) (v : α → D) (h : ∀ a, pairE (f a) = some (k a, v a)) : ∀ xs : List α, pairsE (xs.map f) = some (xs.map fun a => (k a, v a))
  | [] => rfl
  | a :: xs => by
    unfold pairsE List.map
    dsimp only
    rw [h a]
    show (pairsE (xs.map f)).map _ = _
    rw [pairsE_map f k v h xs]
    rfl
end
end PD

namespace PD
open PySem PySem.Spec PyProof.Rows L2
section
variable {X : Cx} {e : Expr} {es : List Expr} {r : MA}
/-- try: x = f(..) except C as n: if due is not None or not isinstance(n, T): return False -/
theorem pds_tryIs {f C E : Addr} {fd : FuncData} {ps : List Str} {k : Nat} {m : List D → Option (Option D)} {y found n cn due tn : Str} (i ie j : Nat) {p np pos1 pos2 pos3 pos4 pos : Pos} {p1 p2 p3 p4 p5 p6 p7 p8 p9 pa pb pc : Pos} {k1 k2 : Nat}
    (Fn : FnOk X.prog X.w X.K X.mg X.base (L2.CX X.prog X.w) k f fd ps (spR X.K C m)) (hr : Room k X.A) (hm : X.mg y = some (.ref f)) (hk : PySem.W.keepIn X.K (.ref f) = true) (hb : Binds X.K fd ps [])
    (ha : ∀ (pn : List (Addr × Obj)) (xe : Value → Shared → Prop), PDA (X.tr pn xe) (e :: es) r) (hN : X.N.Nodup) (hc : X.mg cn = some (.ref C)) (hex : PySem.W.exmOne X.K (.ref C) (.ref C) = some true)
    (hE : ExcC X.K C) (hmi : X.mg "isinstance" = none) (hT : X.mg tn = some (.ref E)) (hkit : PySem.W.kitOne X.K (.ref C) (.ref E) = some true)
    (hi : X.N[i]? = some found := by rfl) (hie : X.N[ie]? = some n := by rfl) (hj : X.N[j]? = some due := by rfl) (hln : X.env.kindOf n = some .local := by rfl) (hs : X.stack = X.env :: X.outer := by rfl) (hf : X.env.frame = some X.env.locals := by rfl)
    (hx : Loc X.env.scope found := by first | exact Or.inl rfl | exact Or.inr rfl) (hsw : swapsWith (.Call (.Name y p) (e :: es) [] pos2) (some (.Name found pos1)) pos3.line X.env = pure false := by rfl)
    (hfn : X.fn found = true ∨ X.env.scope.names.lookup found = some .local := by first | exact .inl rfl | exact .inr rfl) (hg : Gl X y := by rfl) (hdb : (y == ("__debug__" : Str)) = false := by decide)
    (he : starEach (e :: es) X.env = (false, eval e X.env) :: starEach es X.env := by rfl) (hpl : (backTo pos2 (starEach es X.env)).any (·.1) = false := by rfl)
    (hgc : Gl X cn := by rfl) (hdc : (cn == ("__debug__" : Str)) = false := by decide)
    (hvj : Vis X.env.scope due := by first | exact Or.inl rfl | exact Or.inr (Or.inl rfl) | exact Or.inr (Or.inr rfl)) (hvi : Vis X.env.scope n := by first | exact Or.inl rfl | exact Or.inr (Or.inl rfl) | exact Or.inr (Or.inr rfl))
    (hgi : Gl X "isinstance" := by rfl) (hgT : Gl X tn := by rfl) (h1 : (due == ("__debug__" : Str)) = false := by decide) (h2 : (due == ("__classdict__" : Str)) = false := by decide) (h3 : (n == ("__debug__" : Str)) = false := by decide) (h4 : (n == ("__classdict__" : Str)) = false := by decide) (h5 : (tn == ("__debug__" : Str)) = false := by decide)
    (ht : ∀ whole, isTrue (.Call (.Name "isinstance" p5) [.Name n p6, .Name tn p7] [] p8) X.env whole = (do let v ← whole; standAt p8; holding [v] (truthy v)) := by intro _; rfl)
    (he1 : starEach [.Name n p6, .Name tn p7] X.env = (false, eval (.Name n p6) X.env) :: starEach [.Name tn p7] X.env := by rfl) (he2 : starEach [.Name tn p7] X.env = (false, eval (.Name tn p7) X.env) :: starEach [] X.env := by rfl) (hpl2 : (backTo p8 (starEach [.Name tn p7] X.env)).any (·.1) = false := by rfl) :
    PDS X (.Try [.Assign [.Name found pos1] (.Call (.Name y p) (e :: es) [] pos2) pos3] [.ExceptHandler (some (.Name cn np)) (some n) [.If (.BoolOp .Or [.Compare (.Name due p1) [.IsNot] [.Constant .none k1 p2] p3, .UnaryOp .Not (.Call (.Name "isinstance" p5) [.Name n p6, .Name tn p7] [] p8) p9] pa) [.Return (some (.Constant (.bool false) k2 pb)) pc] [] p4] pos4] [] [] pos) (sTryE i ie m r fun ρ => nonB ρ j) :=
  pds_tryE (X := X) (i := i) (ie := ie) (ts := tSuite X.K j ie C E) Fn hr hm hk hb ha hN takes0 ⟨hgc, hdc, .inl hc⟩ hex
    (fun a oe pn hz hv => pss_suite (X := X) (j := j) (ie := ie) hE hmi hT hz hv hj hie hvj hvi hgi hgT h1 h2 h3 h4 h5 ht he1 he2 hpl2)
    (fun F σ H ρ δ a G hei hcc D h => tsuite_of hkit G hei (nonB_of hcc) D (h _ fun _ _ z => z))
    hi hie hln hs hf hx (fun _ _ => hsw) hfn hg hdb he hpl
end
end PD

set_option maxHeartbeats 1000000
namespace K67
open PySem PySem.Spec PyProof.Rows L2 PD
def topS (i : Nat) : Stmt := PySem.Challenge.pw_tonguehouse_k67_deltas_led.main.body.getD i (.Pass ⟨0, 0, 0, 0⟩)
abbrev s_rows_by_name : Stmt := topS 4
abbrev N_rows_by_name : List Str := ["rows", "row"]
theorem sc_rows_by_name : FnScope N_rows_by_name ["rows"] (defScope s_rows_by_name) := ⟨rfl, rfl, rfl, by decide +kernel, rfl, by decide +kernel, by decide +kernel⟩
abbrev s_led : Stmt := topS 5
abbrev N_led : List Str := ["rows", "delta", "gone", "come", "names", "name"]
theorem sc_led : FnScope N_led ["rows", "delta"] (defScope s_led) := ⟨rfl, rfl, rfl, by decide +kernel, rfl, by decide +kernel, by decide +kernel⟩
abbrev s_l_draws : Stmt := topS 7
abbrev N_l_draws : List Str := ["_law_script", "_law_cells", "_law_cell"]
theorem sc_l_draws : FnScope N_l_draws ["_law_script"] (defScope s_l_draws) := ⟨rfl, rfl, rfl, by decide +kernel, rfl, by decide +kernel, by decide +kernel⟩
abbrev s_l_next : Stmt := topS 8
abbrev N_l_next : List Str := ["_law_drawn", "_law_many", "_law_cells", "_law_nth", "_law_rests", "_law_spot", "_law_digit", "_law_prime", "_law_mixed", "_law_again"]
theorem sc_l_next : FnScope N_l_next ["_law_drawn", "_law_many"] (defScope s_l_next) := ⟨rfl, rfl, rfl, by decide +kernel, rfl, by decide +kernel, by decide +kernel⟩
abbrev s_l_names : Stmt := topS 9
abbrev N_l_names : List Str := ["_law_drawn", "_law_many", "_law_left", "_law_stem", "_law_k", "_law_spot"]
theorem sc_l_names : FnScope N_l_names ["_law_drawn", "_law_many"] (defScope s_l_names) := ⟨rfl, rfl, rfl, by decide +kernel, rfl, by decide +kernel, by decide +kernel⟩
abbrev s_l_row : Stmt := topS 10
abbrev N_l_row : List Str := ["_law_drawn", "_law_name", "_law_pieces"]
theorem sc_l_row : FnScope N_l_row ["_law_drawn", "_law_name"] (defScope s_l_row) := ⟨rfl, rfl, rfl, by decide +kernel, rfl, by decide +kernel, by decide +kernel⟩
abbrev s_l_list : Stmt := topS 11
abbrev N_l_list : List Str := ["_law_drawn", "_law_names_here", "_law_name"]
theorem sc_l_list : FnScope N_l_list ["_law_drawn", "_law_names_here"] (defScope s_l_list) := ⟨rfl, rfl, rfl, by decide +kernel, rfl, by decide +kernel, by decide +kernel⟩
abbrev s_l_led : Stmt := topS 12
abbrev N_l_led : List Str := ["_law_rows", "_law_change", "_law_held", "_law_row_here", "_law_name", "_law_known"]
theorem sc_l_led : FnScope N_l_led ["_law_rows", "_law_change"] (defScope s_l_led) := ⟨rfl, rfl, rfl, by decide +kernel, rfl, by decide +kernel, by decide +kernel⟩
abbrev s_law : Stmt := topS 13
abbrev N_law : List Str := ["_law_script", "_law_drawn", "_law_names_here", "_law_turn", "_law_rows", "_law_held", "_law_row_here", "_law_gone", "_law_name", "_law_change", "_law_kept", "_law_due", "_law_found", "e"]
theorem sc_law : FnScope N_law ["_law_script"] (defScope s_law) := ⟨rfl, rfl, rfl, by decide +kernel, rfl, by decide +kernel, by decide +kernel⟩
structure Tx (K : PySem.W.Frag) (mg : Str → Option Value) where
  a_rows_by_name : Addr
  d_rows_by_name : FuncData
  F_rows_by_name : Fun K "rows_by_name" "rows_by_name" s_rows_by_name a_rows_by_name d_rows_by_name
  g_rows_by_name : mg "rows_by_name" = some (.ref a_rows_by_name)
  b_rows_by_name : Binds K d_rows_by_name ["rows"] []
  a_led : Addr
  d_led : FuncData
  F_led : Fun K "led" "led" s_led a_led d_led
  g_led : mg "led" = some (.ref a_led)
  b_led : Binds K d_led ["rows", "delta"] []
  a_l_draws : Addr
  d_l_draws : FuncData
  F_l_draws : Fun K "_law_draws" "_law_draws" s_l_draws a_l_draws d_l_draws
  g_l_draws : mg "_law_draws" = some (.ref a_l_draws)
  b_l_draws : Binds K d_l_draws ["_law_script"] []
  a_l_next : Addr
  d_l_next : FuncData
  F_l_next : Fun K "_law_next" "_law_next" s_l_next a_l_next d_l_next
  g_l_next : mg "_law_next" = some (.ref a_l_next)
  b_l_next : Binds K d_l_next ["_law_drawn", "_law_many"] []
  a_l_names : Addr
  d_l_names : FuncData
  F_l_names : Fun K "_law_names" "_law_names" s_l_names a_l_names d_l_names
  g_l_names : mg "_law_names" = some (.ref a_l_names)
  b_l_names : Binds K d_l_names ["_law_drawn", "_law_many"] []
  a_l_row : Addr
  d_l_row : FuncData
  F_l_row : Fun K "_law_row" "_law_row" s_l_row a_l_row d_l_row
  g_l_row : mg "_law_row" = some (.ref a_l_row)
  b_l_row : Binds K d_l_row ["_law_drawn", "_law_name"] []
  a_l_list : Addr
  d_l_list : FuncData
  F_l_list : Fun K "_law_list" "_law_list" s_l_list a_l_list d_l_list
  g_l_list : mg "_law_list" = some (.ref a_l_list)
  b_l_list : Binds K d_l_list ["_law_drawn", "_law_names_here"] []
  a_l_led : Addr
  d_l_led : FuncData
  F_l_led : Fun K "_law_led" "_law_led" s_l_led a_l_led d_l_led
  g_l_led : mg "_law_led" = some (.ref a_l_led)
  b_l_led : Binds K d_l_led ["_law_rows", "_law_change"] []
  a_law : Addr
  d_law : FuncData
  F_law : Fun K "law" "law" s_law a_law d_law
  g_law : mg "law" = some (.ref a_law)
  b_law : Binds K d_law ["_law_script"] []
  m_dict : mg "dict" = none
  m_int : mg "int" = none
  m_isinstance : mg "isinstance" = none
  m_len : mg "len" = none
  m_list : mg "list" = none
  m_range : mg "range" = none
  m_repr : mg "repr" = none
  m_sorted : mg "sorted" = none
  m_tuple : mg "tuple" = none
  x_a : Addr
  x_g : mg "NoFit" = some (.ref x_a)
  x_k : PySem.W.keepIn K (.ref x_a) = true
  x_x : PySem.W.excIn K x_a [.type "ValueError", .type "Exception", .type "BaseException", .type "object"] "ValueError.__new__" = true
  x_s : PySem.W.subIn K (.ref x_a) (.type "BaseException") = some true
  x_t : PySem.W.typeIn K (.ref x_a) = some (.type "type")
  x_c : ExcC K x_a
  x_m : PySem.W.exmOne K (.ref x_a) (.ref x_a) = some true
  y_a : Addr
  y_g : mg "HouseError" = some (.ref y_a)
  x_i : PySem.W.kitOne K (.ref x_a) (.ref y_a) = some true
section
variable {P : Program} {w : World} {K : PySem.W.Frag} {mg : Str → Option Value} {base : Heap}
def m_rows_by_name : MS := (sRet (mDcN (kFor (mItems (mVar 0)) [1] (gSet 1) mYes (kOne (mBin subD' (mVar 1) (mC (.int 0))) (mVar 1)))))
def f_rows_by_name : List D → Option D := fnP 2 1 m_rows_by_name
theorem ok_rows_by_name (T : Tx K mg) : FnOk P w K mg base CX0 1 T.a_rows_by_name T.d_rows_by_name ["rows"] (spP K f_rows_by_name) := okP (k := 0) T.F_rows_by_name sc_rows_by_name (by decide) fun cdv A outer s0 H E hr =>
  ((pdss_one (pds_ret (pd_dcN (own := [("row", 1)]) rfl sc_rows_by_name.nd (pdi_seq (pd_var 0)) (blkOk_by (own := [("row", 1)]) (N := N_rows_by_name) (sc := defScope s_rows_by_name) (by decide +kernel)) (fun _ _ _ _ _ => (pdg_name 1 sc_rows_by_name.nd)) (fun _ _ _ _ _ => pdts_nil) (by decide) (bk_nil (fun _ _ _ _ _ => (pd_ix (hu_of hr) (pd_var 1) pd_int)) (fun _ _ _ _ _ => (pd_var 1)))))) : PDSs _ _ m_rows_by_name)
def n_rows_by_name : MN := (mDcE (kFor (mItems (mVar 0)) [1] (gSet 1) mYes (kOne (mBin subD' (mVar 1) (mC (.int 0))) (mVar 1))))
def fN_rows_by_name : List D → Option (List (D × D)) := fnN 2 1 n_rows_by_name
theorem okN_rows_by_name (T : Tx K mg) : FnOk P w K mg base CX0 1 T.a_rows_by_name T.d_rows_by_name ["rows"] (spN K fN_rows_by_name) := okN (k := 0) T.F_rows_by_name sc_rows_by_name (by decide) rfl fun cdv A outer s0 H E hr =>
  ((pdn_dc (own := [("row", 1)]) rfl sc_rows_by_name.nd (pdi_seq (pd_var 0)) (blkOk_by (own := [("row", 1)]) (N := N_rows_by_name) (sc := defScope s_rows_by_name) (by decide +kernel)) (fun _ _ _ _ _ => (pdg_name 1 sc_rows_by_name.nd)) (fun _ _ _ _ _ => pdts_nil) (by decide) (bk_nil (fun _ _ _ _ _ => (pd_ix (hu_of hr) (pd_var 1) pd_int)) (fun _ _ _ _ _ => (pd_var 1)))) : PDN _ _ n_rows_by_name)
theorem ok_l_draws (T : Tx K mg) : FnOk P w K mg base CX0 1 T.a_l_draws T.d_l_draws ["_law_script"] (spDeck K) := by
  refine T.F_l_draws.ok sc_l_draws (fun vs H Q E h => ?_) (fun cdv A outer s0 H vs Q E hr h => ?_)
  · obtain ⟨a, ns, rfl, _⟩ := h
    rfl
  · obtain ⟨a, ns, rfl, hS, q⟩ := h
    refine ⟨_, pss_cons (ps_set (i := 1) sc_l_draws.nd rfl (by first | exact Or.inl rfl | exact Or.inr rfl)
        (pe_op op_cat (pe_callTy call_list_of (by rfl) T.m_list (by decide +kernel) (pa_cons (pe_slice sl_list (pv 0) po_none (po_some pe_int)) pa_nil))
          (pe_op op_rep (pe_lst (pa_cons pe_int pa_nil)) (pe_callTy call_int1 (by rfl) T.m_int (by decide +kernel) (pa_cons (pe_cmp (pc_eqI (pe_callB call_len (by rfl) T.m_len PySem.boot_len (pa_cons (pv 0) pa_nil)) pe_int)) pa_nil)))))
      (pss_one (ps_ret (pe_lst (pa_cons (pv 1) (pa_cons pe_int (pa_cons (pe_lc (own := [("_law_cell", 2)]) (g := gName 2) (tt := tYes) rfl sc_l_draws.nd (pi_list (pv 1))
        (blkOk_by (own := [("_law_cell", 2)]) (N := N_l_draws) (sc := defScope s_l_draws) (by decide +kernel)) (fun _ _ _ _ _ => pg_name (i := 2) sc_l_draws.nd rfl (Or.inl rfl)) (fun _ _ _ _ _ => pts_nil)
        (fun _ _ _ _ _ => pe_op op_mul (pv 2) (pe_callTy call_int1 (by rfl) T.m_int (by decide +kernel) (pa_cons (pe_cmp (pc_ge (pv 2) (pe_op op_pow pe_int pe_int))) pa_nil)))) pa_nil)))))), ?_⟩
    refine ⟨.ref a, rfl, 63, rfl, a, _, rfl, hS, fun s hs => ?_⟩
    have e63 : cutV (ns.map V.int) none (some 63) = (ns.take 63).map V.int := by rw [cut63, List.map_take]
    rw [e63]
    refine ⟨s, _, rfl, .inl (SqL.of upd_same), fun l hl => ?_⟩
    refine ⟨by decide, fun z hz => ?_⟩
    have sm1 : Same H (upd (upd (upd H s (.lst ((ns.take 63).map V.int))) l (.lst ((ns.take 63).map V.int))) z (.lst [.int 0])) := ((same_new hs).trans (same_new hl)).trans (same_new hz)
    refine ⟨.ref a, rfl, .ref a, _, rfl, .inl ⟨_, sm1.seq hS, rfl⟩, ?_⟩
    refine ⟨_, _, rfl, rfl, .inr ⟨decide (((ns.map V.int).length : Int) = 0), rfl, ?_⟩⟩
    generalize hbb : (decide (((ns.map V.int).length : Int) = 0)) = bb
    refine ⟨z, _, _, rfl, rfl, upd_same, by cases bb <;> decide, by cases bb <;> decide, by cases bb <;> decide, fun r hr2 => ?_⟩
    rw [rep0]
    have nlz : l ≠ z := ne_of_none (show (upd (upd H s (.lst ((ns.take 63).map V.int))) l (.lst ((ns.take 63).map V.int))) l = some _ from upd_same) hz
    have nlr : l ≠ r := ne_of_none (show (upd (upd (upd H s (.lst ((ns.take 63).map V.int))) l (.lst ((ns.take 63).map V.int))) z (.lst [.int 0])) l = some _ by rw [upd_ne nlz, upd_same]) hr2
    refine ⟨l, r, _, _, rfl, rfl, by rw [upd_ne nlr, upd_ne nlz, upd_same], upd_same, ?_, fun c hc => ?_⟩
    · rw [List.length_map, List.length_map, List.length_take]
      have : (if bb = true then [(0 : Int)] else []).length ≤ 1 := by cases bb <;> decide
      have := sizeBig
      omega
    have ec : (ns.take 63).map V.int ++ (if bb = true then [(0 : Int)] else []).map V.int = (cellsOf ns).map V.int := by
      rw [← List.map_append, cells_eq (by rw [← hbb, List.length_map])]
    rw [ec]
    generalize hH1 : upd (upd (upd (upd (upd H s (.lst ((ns.take 63).map V.int))) l (.lst ((ns.take 63).map V.int))) z (.lst [.int 0])) r (.lst ((if bb = true then [(0 : Int)] else []).map V.int))) c (.lst ((cellsOf ns).map V.int)) = H1
    have sm2 : Same H H1 := by rw [← hH1]; exact (sm1.trans (same_new hr2)).trans (same_new hc)
    have hc1 : H1 c = some (.lst ((cellsOf ns).map V.int)) := by rw [← hH1]; exact upd_same
    refine ⟨.ref c, rfl, ?_⟩
    refine ⟨.ref c, rfl, c, rfl, ⟨_, SqL.of hc1⟩, fun d hd => ?_⟩
    have ncd : c ≠ d := ne_of_none hc1 hd
    refine lc_list (xs := (cellsOf ns).map V.int) (fun i H2 => Same H H2 ∧ H2 c = some (.lst ((cellsOf ns).map V.int)) ∧ H2 d = some (.lst ((((cellsOf ns).map restOf).take i).map V.int))) ⟨sm2.trans (same_new hd), by rw [upd_ne ncd]; exact hc1, by rw [upd_same]; rfl⟩ (fun i H2 _ h => SqL.of h.2.1) (fun i x H2 hx h => ?_) (fun H2 h => ?_)
    · obtain ⟨h1, h2, h3⟩ := h
      rw [List.getElem?_map] at hx
      obtain ⟨n, hn, rfl⟩ := Option.map_eq_some_iff.mp hx
      refine ⟨rfl, ?_⟩
      simp only [tYes, ↓reduceIte]
      refine ⟨.int n, rfl, .int n, rfl, 10, 18, rfl, rfl, ⟨by decide, by decide, by decide⟩, n, _, rfl, rfl, .inr ⟨_, rfl, n, _, rfl, rfl, .inr ?_, _, h3, ?_, fun b o e => ?_, ?_, ?_⟩⟩
      · split <;> decide
      · have := (cells_len ns).2
        have sb := sizeBig
        simp only [List.length_map, List.length_take]
        omega
      · have hb : b ≠ d := ne_of_none (sm2 b o e) hd
        rw [upd_ne hb]
        exact h1 b o e
      · rw [upd_ne ncd]; exact h2
      · rw [upd_same, List.take_add_one (l := (cellsOf ns).map restOf) (i := i), List.getElem?_map, hn, List.map_append]
        congr 3
        unfold restOf
        have e18 : (10 : Int) ^ (18 : Int).toNat = 1000000000000000000 := by decide
        rw [e18]
        by_cases hb : (1000000000000000000 : Int) ≤ n
        · simp [hb]
        · simp [hb]
    · obtain ⟨h1, h2, h3⟩ := h
      have ei : ((cellsOf ns).map restOf).take ((cellsOf ns).map V.int).length = (cellsOf ns).map restOf := List.take_of_length_le (by simp)
      rw [ei] at h3
      refine ⟨by show 3 ≤ sizeLine; decide, fun p hp => ?_⟩
      have npc : c ≠ p := ne_of_none h2 hp
      have npd : d ≠ p := ne_of_none h3 hp
      exact q ⟨p, d, c, []⟩ _ (h1.trans (same_new hp)) (DeckN.at ⟨npd.symm, npc.symm, ncd.symm, upd_same, by show upd H2 p _ d = _; rw [upd_ne npd]; exact h3, by show upd H2 p _ c = _; rw [upd_ne npc]; exact h2⟩ (fun z => by have e := congrArg List.length z; have := (cells_len ns).1; unfold deckOf at e; simp at e; rw [e] at this; simp at this))

def prA : List Int := [2147483647, 2147483587, 2147483563]
def mxA (c k : Int) : Int := (c % 2147483629 + 69621 * k + 54321) ^ (3 : Int).toNat % prA.getD (k % 3).toNat 0
def mixA (c k : Int) : Int := ((mxA c k + 7129 * k + 41) ^ (2 : Int).toNat % 2147483477 * 2147483423 + mxA c k) % 4611686018427387847
def f_l_next : List D → Dk → Option (D × Dk) := fNext mixA
theorem ok_l_next (T : Tx K mg) : FnOk P w K mg base CX0 1 T.a_l_next T.d_l_next ["_law_drawn", "_law_many"] (spK K f_l_next) := by
  refine T.F_l_next.ok sc_l_next (fun vs H Q E h => ?_) (fun cdv A outer s0 H vs Q E hr h => ?_)
  · obtain ⟨M, p, ws, ds, δ, r, δ', rfl, hM, _, _, _, _, R, hm, q⟩ := h
    unfold f_l_next fNext at hm
    split at hm
    · rw [List.length_cons, R.length]; rfl
    · cases hm
  · obtain ⟨M, p, ws, ds, δ, rr, δ', rfl, hM, m1, m2, m3, dk, R, hm, q⟩ := h
    unfold f_l_next fNext at hm
    split at hm
    · rename_i many
      split at hm
      · rename_i ok
        obtain ⟨b0, b1, b2, b3, b4, b5⟩ := of_decide_eq_true (p := 0 < many ∧ many ≤ 10000000000000 ∧ 0 < δ.cells.length ∧ δ.rests.length = δ.cells.length ∧ 0 ≤ δ.k ∧ δ.k ≤ 1000000000) ok
        have hrs : δ.rests ≠ [] := fun z => by rw [z] at b3; simp only [List.length_nil] at b3; omega
        replace dk := dk.new hrs
        obtain ⟨v, rfl, rv⟩ := reps1 R
        cases rv
        refine ⟨_, pss_cons (ps_asg (pv 0) (L2.pg_lst rfl (pgs_cons (pg_name (i := 2) sc_l_next.nd rfl (by first | exact Or.inl rfl | exact Or.inr rfl)) (pgs_cons (pg_name (i := 3) sc_l_next.nd rfl (by first | exact Or.inl rfl | exact Or.inr rfl)) (pgs_cons (pg_name (i := 4) sc_l_next.nd rfl (by first | exact Or.inl rfl | exact Or.inr rfl)) pgs_nil)))))
          (pss_cons (ps_set (i := 5) sc_l_next.nd rfl (by first | exact Or.inl rfl | exact Or.inr rfl) (pe_op op_mod (pv 3) (pe_callB call_len (by rfl) T.m_len PySem.boot_len (pa_cons (pv 2) pa_nil))))
          (pss_cons (ps_asg (pe_op op_add (pv 3) pe_int) (pg_sub (pv 0) pe_int set_list))
          (pss_cons (ps_if (pt_cmp (pc_gt (pe_ix ix_list (pv 4) (pv 5) (fun _ _ => rfl)) pe_int))
              (pss_cons (ps_set (i := 6) sc_l_next.nd rfl (by first | exact Or.inl rfl | exact Or.inr rfl) (pe_op op_mod (pe_ix ix_list (pv 4) (pv 5) (fun _ _ => rfl)) (pv 1)))
              (pss_cons (ps_asg (pe_op op_fdivW (pe_ix ix_list (pv 4) (pv 5) (fun _ _ => rfl)) (pv 1)) (pg_sub (pv 4) (pv 5) set_list))
              (pss_one (ps_ret (pv 6)))))
              pss_nil)
          (pss_cons (ps_set (i := 7) sc_l_next.nd rfl (by first | exact Or.inl rfl | exact Or.inr rfl) (pe_ix ix_list (pe_lst (pa_cons pe_int (pa_cons pe_int (pa_cons pe_int pa_nil)))) (pe_op op_mod (pv 3) pe_int) (fun _ _ => rfl)))
          (pss_cons (ps_set (i := 8) sc_l_next.nd rfl (by first | exact Or.inl rfl | exact Or.inr rfl) (pe_op op_mod (pe_op op_pow (pe_op op_add (pe_op op_add (pe_op op_mod (pe_ix ix_list (pv 2) (pv 5) (fun _ _ => rfl)) pe_int) (pe_op op_mul pe_int (pv 3))) pe_int) pe_int) (pv 7)))
          (pss_cons (ps_set (i := 9) sc_l_next.nd rfl (by first | exact Or.inl rfl | exact Or.inr rfl) (pe_op op_mod (pe_op op_pow (pe_op op_add (pe_op op_add (pv 8) (pe_op op_mul pe_int (pv 3))) pe_int) pe_int) pe_int))
          (pss_one (ps_ret (pe_op op_mod (pe_op op_mod (pe_op op_add (pe_op op_mul (pv 9) pe_int) (pv 8)) pe_int) (pv 1)))))))))), ?_⟩
        have hlen : 0 < (((δ.cells.map V.int).length : Nat) : Int) := by rw [List.length_map]; omega
        refine ⟨.ref p.o, rfl, p.o, _, rfl, SqL.of dk.one, rfl, _, _, rfl, _, _, rfl, _, _, rfl, rfl, ?_⟩
        refine ⟨.int δ.k, rfl, .ref p.c, rfl, .ref p.c, _, rfl, .inl ⟨_, SqL.of dk.tri, rfl⟩, δ.k, _, rfl, rfl, hlen, ?_⟩
        refine ⟨.int δ.k, rfl, δ.k, 1, rfl, rfl, .ref p.o, rfl, p.o, _, 1, 1, rfl, rfl, dk.one, rfl, ?_⟩
        obtain ⟨at_, hat⟩ : ∃ at_ : Int, δ.k % (((δ.cells.map V.int).length : Nat) : Int) = at_ := ⟨_, rfl⟩
        have hat0 : 0 ≤ at_ := by rw [← hat]; exact Int.emod_nonneg _ (by omega)
        have hat1 : at_ < δ.cells.length := by rw [← hat]; have := Int.emod_lt_of_pos δ.k hlen; rw [List.length_map] at this ⊢; exact this
        have hatN : atOf δ = at_.toNat := by unfold atOf; rw [← hat, List.length_map]
        have hset : [V.ref p.c, V.int δ.k, V.ref p.r].set 1 (.int (δ.k + 1)) = [V.ref p.c, V.int (δ.k + 1), V.ref p.r] := rfl
        rw [hset]
        generalize hH1 : upd H p.o (.lst [V.ref p.c, V.int (δ.k + 1), V.ref p.r]) = H1
        have f1 : H1 p.o = some (.lst [V.ref p.c, V.int (δ.k + 1), V.ref p.r]) := by rw [← hH1]; exact upd_same
        have f2 : H1 p.r = some (.lst (δ.rests.map V.int)) := by rw [← hH1, upd_ne dk.ne.symm]; exact dk.two
        have f3 : H1 p.c = some (.lst (δ.cells.map V.int)) := by rw [← hH1, upd_ne dk.ne2.symm]; exact dk.tri
        have f4 : ∀ a o, a ≠ p.o → H a = some o → H1 a = some o := fun a o n e => by rw [← hH1, upd_ne n]; exact e
        have gr := atI_getD (xs := δ.rests) hat0 (by omega)
        have gc := atI_getD (xs := δ.cells) hat0 hat1
        generalize hrr : δ.rests.getD at_.toNat 0 = rv at gr
        refine ⟨.ref p.r, rfl, .int at_, (by rw [← hat]; rfl), p.r, _, at_, .int rv, rfl, rfl, SqL.of f2, gr, rv, 0, rfl, rfl, _, rfl, ?_⟩
        have en : nextOf mixA δ many = if 0 < rv then (rv % many, ⟨δ.cells, δ.k + 1, δ.rests.set at_.toNat (rv / many), δ.lft⟩) else (mixA (δ.cells.getD at_.toNat 0) δ.k % many, ⟨δ.cells, δ.k + 1, δ.rests, δ.lft⟩) := by
          unfold nextOf
          rw [hatN, hrr]
        rw [en] at hm
        by_cases hpos : 0 < rv
        · rw [if_pos hpos] at hm
          simp only [Option.some.injEq, Prod.mk.injEq] at hm
          obtain ⟨rfl, rfl⟩ := hm
          refine Eq.mpr (if_pos (c := decide (0 < rv) = true) (decide_eq_true hpos)) ?_
          refine ⟨.ref p.r, rfl, .int at_, (by rw [← hat]; rfl), p.r, _, at_, .int rv, rfl, rfl, SqL.of f2, gr, .int many, rfl, rv, many, rfl, rfl, b0, ?_⟩
          refine ⟨.ref p.r, rfl, .int at_, (by rw [← hat]; rfl), p.r, _, at_, .int rv, rfl, rfl, SqL.of f2, gr, .int many, rfl, rv, many, rfl, rfl, ⟨b0, log_ok b0 b1⟩, ?_⟩
          refine ⟨.ref p.r, rfl, .int at_, (by rw [← hat]; rfl), p.r, _, at_, at_.toNat, rfl, rfl, f2, by rw [List.length_map]; exact ixN_in hat0 (by omega), ?_⟩
          refine ⟨_, rfl, ?_⟩
          refine q _ _ (fun a o n1 n2 n3 e => by rw [upd_ne n2]; exact f4 a o n1 e) (DeckN.at ⟨dk.ne, dk.ne2, dk.ne3, by rw [upd_ne dk.ne]; exact f1, ?_, by rw [upd_ne dk.ne3.symm]; exact f3⟩ (fun z => hrs (by have e := congrArg List.length z; rw [List.length_set, List.length_nil] at e; exact List.length_eq_zero_iff.mp e))) (.int _)
          rw [upd_same, List.map_set]
        · rw [if_neg hpos] at hm
          simp only [Option.some.injEq, Prod.mk.injEq] at hm
          obtain ⟨rfl, rfl⟩ := hm
          refine Eq.mpr (if_neg (c := decide (0 < rv) = true) (fun z => hpos (of_decide_eq_true z))) ?_
          refine ⟨by decide, fun y hy => ?_⟩
          have npo : p.o ≠ y := ne_of_none f1 hy
          have npr : p.r ≠ y := ne_of_none f2 hy
          have npc : p.c ≠ y := ne_of_none f3 hy
          have k7 := Int.emod_nonneg δ.k (show (3 : Int) ≠ 0 by decide)
          have k7' := Int.emod_lt_of_pos δ.k (show (0 : Int) < 3 by decide)
          have gp := atI_getD (xs := prA) k7 (by show δ.k % 3 < ((3 : Nat) : Int); omega)
          have gp0 : 0 < prA.getD (δ.k % 3).toNat 0 ∧ prA.getD (δ.k % 3).toNat 0 ≤ 4000000000 := by
            have : ∀ j, j < 3 → 0 < prA.getD j 0 ∧ prA.getD j 0 ≤ 4000000000 := by decide
            exact this _ (by omega)
          generalize hc : δ.cells.getD at_.toNat 0 = cv at gc
          refine ⟨.int δ.k, rfl, δ.k, 3, rfl, rfl, (show (0 : Int) < 3 by decide), y, _, δ.k % 3, .int (prA.getD (δ.k % 3).toNat 0), rfl, rfl, SqL.of upd_same, gp, ?_⟩
          refine ⟨.ref p.c, rfl, .int at_, (by rw [← hat]; rfl), p.c, _, at_, .int cv, rfl, rfl, SqL.of (by rw [upd_ne npc]; exact f3), gc, cv, 2147483629, rfl, rfl, (show (0 : Int) < 2147483629 by decide), .int δ.k, rfl, 69621, δ.k, rfl, rfl, .inl ⟨by decide, by decide⟩, _, _, rfl, rfl, _, 54321, rfl, rfl, _, 3, rfl, rfl, ⟨by decide, by decide, mod_small cv δ.k (by decide) (by decide) (by decide) (by decide) (by decide) (by decide) b4 b5⟩, .int (prA.getD (δ.k % 3).toNat 0), rfl, _, _, rfl, rfl, gp0.1, ?_⟩
          refine ⟨.int (mxA cv δ.k), rfl, .int δ.k, rfl, 7129, δ.k, rfl, rfl, .inl ⟨by decide, by decide⟩, _, _, rfl, rfl, _, 41, rfl, rfl, _, 2, rfl, rfl, ⟨by decide, by decide, mod_small _ δ.k gp0.1 gp0.2 (by decide) (by decide) (by decide) (by decide) b4 b5⟩, _, 2147483477, rfl, rfl, (show (0 : Int) < 2147483477 by decide), ?_⟩
          refine ⟨_, rfl, _, 2147483423, rfl, rfl, .inr ⟨by decide, by decide⟩, .int (mxA cv δ.k), rfl, _, _, rfl, rfl, _, 4611686018427387847, rfl, rfl, (show (0 : Int) < 4611686018427387847 by decide), .int many, rfl, _, many, rfl, rfl, b0, ?_⟩
          exact q _ _ (fun a o n1 n2 n3 e => by
            have : a ≠ y := ne_of_none (f4 a o n1 e) hy
            rw [upd_ne this]; exact f4 a o n1 e) (DeckN.at ⟨dk.ne, dk.ne2, dk.ne3, by rw [upd_ne npo]; exact f1, by rw [upd_ne npr]; exact f2, by rw [upd_ne npc]; exact f3⟩ hrs) (by rw [hc]; exact Rep.int (mixA cv δ.k % many))
      · cases hm
    · cases hm

def m_l_led : MS := (sSeq (sAsg (mLc (mItems (mVar 0)) [3] (gSet 3) mYes (mBin subD' (mVar 3) (mC (.int 0)))) (gSet 2))
  (sSeq (sIf (mB (mBin neNilD (mLc (mItems (mBin subD' (mVar 1) (mC (.int 0)))) [4] (gSet 4) (mB (mBin (inD true) (mVar 4) (mVar 2))) (mVar 4)) (mLst mNil))) (sRet (mC .none)) sNext)
  (sSeq (sDictP 5 (mLc (mItems (mVar 0)) [3] (gSet 3) (mB (mBin (inD true) (mBin subD' (mVar 3) (mC (.int 0))) (mBin subD' (mVar 1) (mC (.int 0))))) (mTup (mCons (mBin subD' (mVar 3) (mC (.int 0))) (mCons (mVar 3) mNil)))))
  (sSeq (sFor (mItems (mBin subD' (mVar 1) (mC (.int 1)))) (gSet 3) (sPutD 5 (mVar 3) (mBin subD' (mVar 3) (mC (.int 0)))))
  (sRet (mCall tupD (mCons (mLc (mItems (mSortO 5)) [4] (gSet 4) mYes (mGetO 5 (mVar 4))) mNil)))))))
def f_l_led : List D → Option D := fnP 6 2 m_l_led
theorem ok_l_led (T : Tx K mg) : FnOk P w K mg base CX0 1 T.a_l_led T.d_l_led ["_law_rows", "_law_change"] (spP K f_l_led) := okP (k := 0) T.F_l_led sc_l_led (by decide) fun cdv A outer s0 H E hr =>
  ((pdss_cons (pds_set 2 sc_l_led.nd (pd_lc (own := [("_law_row_here", 3)]) rfl sc_l_led.nd (pdi_seq (pd_var 0)) (blkOk_by (own := [("_law_row_here", 3)]) (N := N_l_led) (sc := defScope s_l_led) (by decide +kernel)) ⟨fun _ _ _ _ _ => (pdg_name 3 sc_l_led.nd), fun _ _ _ _ _ => pdts_nil, fun _ _ _ _ _ => (pd_ix (hu_of hr) (pd_var 3) pd_int), by decide⟩)) (pdss_cons (pds_if (pdt_cmp (cs_neNil hr.units) (pd_lc (own := [("_law_name", 4)]) rfl sc_l_led.nd (pdi_seq (pd_ix (hu_of hr) (pd_var 1) pd_int)) (blkOk_by (own := [("_law_name", 4)]) (N := N_l_led) (sc := defScope s_l_led) (by decide +kernel)) ⟨fun _ _ _ _ _ => (pdg_name 4 sc_l_led.nd), fun _ _ _ _ _ => (pdts_one (pdt_cmp (cs_notin (u65 hr)) (pd_var 4) (pd_var 2) (by with_unfolding_all rfl))), fun _ _ _ _ _ => (pd_var 4), by decide⟩) (pd_lst pda_nil) (nomark _)) (pdss_one (pds_ret pd_non)) pdss_nil) (pdss_cons (pds_dictP 5 rfl sc_l_led.nd T.m_dict (pd_lc (own := [("_law_row_here", 3)]) rfl sc_l_led.nd (pdi_seq (pd_var 0)) (blkOk_by (own := [("_law_row_here", 3)]) (N := N_l_led) (sc := defScope s_l_led) (by decide +kernel)) ⟨fun _ _ _ _ _ => (pdg_name 3 sc_l_led.nd), fun _ _ _ _ _ => (pdts_one (pdt_cmp (cs_notin (u65 hr)) (pd_ix (hu_of hr) (pd_var 3) pd_int) (pd_ix (hu_of hr) (pd_var 1) pd_int) (by with_unfolding_all rfl))), fun _ _ _ _ _ => (pd_tup (pda_cons (pd_ix (hu_of hr) (pd_var 3) pd_int) (pda_cons (pd_var 3) pda_nil))), by decide⟩)) (pdss_cons (pds_for PassesOwn.never rfl (pdi_seq (pd_ix (hu_of hr) (pd_var 1) pd_int)) (pdg_name 3 sc_l_led.nd) (pdss_one (pds_putD 5 (hu_of hr) (pd_var 3) (pd_ix (hu_of hr) (pd_var 3) pd_int)))) (pdss_one (pds_ret (pd_ctup T.m_tuple (pda_cons (pd_lc (own := [("_law_name", 4)]) rfl sc_l_led.nd (pdi_seq (pd_sortO 5 rfl T.m_sorted)) (blkOk_by (own := [("_law_name", 4)]) (N := N_l_led) (sc := defScope s_l_led) (by decide +kernel)) ⟨fun _ _ _ _ _ => (pdg_name 4 sc_l_led.nd), fun _ _ _ _ _ => pdts_nil, fun _ _ _ _ _ => (pd_getO 5 (hu_of hr) (pd_var 4)), by decide⟩) pda_nil)))))))) : PDSs _ _ m_l_led)
def m_led : MR1 := (exSeq (exLift (sAsg (mVar 1) (gTupM 2 (gsCons (gSet 2) (gsCons (gSet 3) gsNil)))))
  (exSeq (exLift (sOwnC 4 fN_rows_by_name (mCons (mVar 0) mNil)))
  (exSeq (exFor (mItems (mVar 2)) (gSet 5) (exSeq (exIf (tInO true 4 (mVar 5)) exRaise (exLift sNext))
  (exLift (sDelD 4 (mVar 5)))))
  (exSeq (exLift (sUpdD 4 (mCall f_rows_by_name (mCons (mVar 3) mNil))))
  (exLift (sRet (mCall tupD (mCons (mLc (mItems (mSortO 4)) [5] (gSet 5) mYes (mGetO 4 (mVar 5))) mNil))))))))
def f_led : List D → Option (Option D) := fnR 6 2 m_led
theorem ok_led (T : Tx K mg) : FnOk P w K mg base (L2.CX P w) 2 T.a_led T.d_led ["rows", "delta"] (spR K T.x_a f_led) := okR (k := 1) T.F_led sc_led (by decide) fun cdv A outer s0 H E hr =>
  ((pdrs_cons (pdr_of (pds_asg (pd_var 1) (pdg_tup rfl (pdgs_cons (pdg_name 2 sc_led.nd) (pdgs_cons (pdg_name 3 sc_led.nd) pdgs_nil))))) (pdrs_cons (pdr_of (pds_ownC 4 sc_led.nd (okN_rows_by_name T) (hr.mono (by decide)) T.g_rows_by_name T.F_rows_by_name.kp T.b_rows_by_name pass0 (pda_cons (pd_var 0) pda_nil))) (pdrs_cons (pdr_for (passes_of rfl) rfl (pdi_seq (pd_var 2)) (pdg_name 5 sc_led.nd) (pdrs_cons (pdr_if (pdt_notInO 4 (hu_of hr) (pd_var 5)) (pdrs_one (pdr_raise (Wx := fun cls d _ H => E cls d H) rfl (takes_of rfl rfl rfl rfl) PySem.F.excBase_ValueError T.x_x T.x_g T.x_k (raises_own T.x_s T.x_t))) (pdrs_of pdss_nil)) (pdrs_one (pdr_of (pds_delD 4 (pd_var 5)))))) (pdrs_cons (pdr_of (pds_updD 4 (pd_callP (ok_rows_by_name T) (hr.mono (by decide)) T.g_rows_by_name T.F_rows_by_name.kp T.b_rows_by_name pass0 (pda_cons (pd_var 3) pda_nil)))) (pdrs_one (pdr_of (pds_ret (pd_ctup T.m_tuple (pda_cons (pd_lc (own := [("name", 5)]) rfl sc_led.nd (pdi_seq (pd_sortO 4 rfl T.m_sorted)) (blkOk_by (own := [("name", 5)]) (N := N_led) (sc := defScope s_led) (by decide +kernel)) ⟨fun _ _ _ _ _ => (pdg_name 5 sc_led.nd), fun _ _ _ _ _ => pdts_nil, fun _ _ _ _ _ => (pd_getO 4 (hu_of hr) (pd_var 5)), by decide⟩) pda_nil))))))))) : PDExcs _ _ _ m_led)
def m_l_names : MS := (sSeq (sUniS 2 (mC (.str "abcdefghijklmnopqrstuvwxyz")))
  (sSeq (sAsg (mBin joinD (mC (.str "")) (mLc (mRng1 (mCallK 0 f_l_next (mCons (mC (.int 8)) mNil))) [4] (gSet 4) mYes (mIxU 2 (mCallK 0 f_l_next (mCons (mC (.int 26)) mNil))))) (gSet 3))
  (sSeq (sAsg (mCallK 0 f_l_next (mCons (mBin addD (mCall lenD (mCons (mVar 3) mNil)) (mC (.int 1))) mNil)) (gSet 5))
  (sRetX (xLc (mRng1 (mVar 1)) [4] (gSet 4) (xBinL addD (xBin addD (mSl (mVar 3) oNo (oSome (mVar 5))) (xPop 2 (mCallK 0 f_l_next (mCons (mLenU 2) mNil)))) (mSl (mVar 3) (oSome (mVar 5)) oNo)))))))
def f_l_names : List D → Dk → Option (D × Dk) := fnK 6 2 m_l_names
theorem ok_l_names (T : Tx K mg) : FnOk P w K mg base CX0 2 T.a_l_names T.d_l_names ["_law_drawn", "_law_many"] (spK K f_l_names) := okK (k := 1) T.F_l_names sc_l_names (by decide) fun cdv A outer s0 H E hr =>
  ((pdss_cons (pds_uniS 2 rfl sc_l_names.nd T.m_list pd_str) (pdss_cons (pds_set 3 sc_l_names.nd (pd_join pd_str (pd_lc (own := [("_law_k", 4)]) rfl sc_l_names.nd (pdi_range1 T.m_range (pd_callK 0 (ok_l_next T) (hr.mono (by decide)) T.g_l_next T.F_l_next.kp T.b_l_next pass0 (pda_cons pd_int pda_nil))) (blkOk_by (own := [("_law_k", 4)]) (N := N_l_names) (sc := defScope s_l_names) (by decide +kernel)) ⟨fun _ _ _ _ _ => (pdg_name 4 sc_l_names.nd), fun _ _ _ _ _ => pdts_nil, fun _ _ _ _ _ => (pd_ixU 2 (pd_callK 0 (ok_l_next T) (hr.mono (by decide)) T.g_l_next T.F_l_next.kp T.b_l_next pass0 (pda_cons pd_int pda_nil))), by decide⟩))) (pdss_cons (pds_set 5 sc_l_names.nd (pd_callK 0 (ok_l_next T) (hr.mono (by decide)) T.g_l_next T.F_l_next.kp T.b_l_next pass0 (pda_cons (pd_add (pd_len T.m_len (pda_cons (pd_var 3) pda_nil)) pd_int) pda_nil))) (pdss_one (pds_retX (pdx_lc (own := [("_law_k", 4)]) rfl sc_l_names.nd (pdi_range1 T.m_range (pd_var 1)) (blkOk_by (own := [("_law_k", 4)]) (N := N_l_names) (sc := defScope s_l_names) (by decide +kernel)) ⟨fun _ _ _ _ _ => (pdg_name 4 sc_l_names.nd), fun _ _ _ _ _ => (pdx_addL (pdx_add (pd_sl (pd_var 3) pdo_no (pdo_some (pd_var 5))) (pdx_pop 2 (pd_callK 0 (ok_l_next T) (hr.mono (by decide)) T.g_l_next T.F_l_next.kp T.b_l_next pass0 (pda_cons (pd_lenU 2 T.m_len) pda_nil)))) (pd_sl (pd_var 3) (pdo_some (pd_var 5)) pdo_no)), by decide⟩)))))) : PDSs _ _ m_l_names)
def m_l_row : MS := (sSeq (sAsg (mBin subD' (mLst (mCons (mTup mNil) (mCons (mTup (mCons (mC (.str "go")) mNil)) (mCons (mTup (mCons (mC (.str "go")) (mCons (mTup (mCons (mC (.str "say")) (mCons (mC (.str "n")) mNil))) mNil))) (mCons (mTup (mCons (mTup (mCons (mC (.str "by")) (mCons (mC (.str "n")) (mCons (mTup (mCons (mTup (mCons (mC (.str "one")) (mCons (mTup (mCons (mC (.str "x")) mNil)) mNil))) (mCons (mTup (mCons (mC (.str "many")) (mCons (mTup mNil) mNil))) mNil))) mNil)))) mNil)) mNil))))) (mCallK 0 f_l_next (mCons (mC (.int 4)) mNil))) (gSet 2))
  (sRet (mTup (mCons (mVar 1) (mCons (mBin subD' (mLst (mCons (mC (.str "en")) (mCons (mC (.str "de")) (mCons (mC (.str "fr")) mNil)))) (mCallK 0 f_l_next (mCons (mC (.int 3)) mNil))) (mCons (mBin subD' (mLst (mCons (mC .none) (mCons (mC (.int 0)) (mCons (mC (.int 1)) (mCons (mC (.int 12)) mNil))))) (mCallK 0 f_l_next (mCons (mC (.int 4)) mNil))) (mCons (mVar 2) mNil)))))))
def f_l_row : List D → Dk → Option (D × Dk) := fnK 3 2 m_l_row
theorem ok_l_row (T : Tx K mg) : FnOk P w K mg base CX0 2 T.a_l_row T.d_l_row ["_law_drawn", "_law_name"] (spK K f_l_row) := okK (k := 1) T.F_l_row sc_l_row (by decide) fun cdv A outer s0 H E hr =>
  ((pdss_cons (pds_set 2 sc_l_row.nd (pd_ix (hu_of hr) (pd_lst (pda_cons (pd_tup pda_nil) (pda_cons (pd_tup (pda_cons pd_str pda_nil)) (pda_cons (pd_tup (pda_cons pd_str (pda_cons (pd_tup (pda_cons pd_str (pda_cons pd_str pda_nil))) pda_nil))) (pda_cons (pd_tup (pda_cons (pd_tup (pda_cons pd_str (pda_cons pd_str (pda_cons (pd_tup (pda_cons (pd_tup (pda_cons pd_str (pda_cons (pd_tup (pda_cons pd_str pda_nil)) pda_nil))) (pda_cons (pd_tup (pda_cons pd_str (pda_cons (pd_tup pda_nil) pda_nil))) pda_nil))) pda_nil)))) pda_nil)) pda_nil))))) (pd_callK 0 (ok_l_next T) (hr.mono (by decide)) T.g_l_next T.F_l_next.kp T.b_l_next pass0 (pda_cons pd_int pda_nil)))) (pdss_one (pds_ret (pd_tup (pda_cons (pd_var 1) (pda_cons (pd_ix (hu_of hr) (pd_lst (pda_cons pd_str (pda_cons pd_str (pda_cons pd_str pda_nil)))) (pd_callK 0 (ok_l_next T) (hr.mono (by decide)) T.g_l_next T.F_l_next.kp T.b_l_next pass0 (pda_cons pd_int pda_nil))) (pda_cons (pd_ix (hu_of hr) (pd_lst (pda_cons pd_non (pda_cons pd_int (pda_cons pd_int (pda_cons pd_int pda_nil))))) (pd_callK 0 (ok_l_next T) (hr.mono (by decide)) T.g_l_next T.F_l_next.kp T.b_l_next pass0 (pda_cons pd_int pda_nil))) (pda_cons (pd_var 2) pda_nil)))))))) : PDSs _ _ m_l_row)
def m_l_list : MS := (sRet (mCall tupD (mCons (mLc (mItems (mCall sortedD (mCons (mVar 1) mNil))) [2] (gSet 2) (mB (mBin gtD (mCallK 0 f_l_next (mCons (mC (.int 3)) mNil)) (mC (.int 0)))) (mCallK 0 f_l_row (mCons (mVar 2) mNil))) mNil)))
def f_l_list : List D → Dk → Option (D × Dk) := fnK 3 2 m_l_list
theorem ok_l_list (T : Tx K mg) : FnOk P w K mg base CX0 3 T.a_l_list T.d_l_list ["_law_drawn", "_law_names_here"] (spK K f_l_list) := okK (k := 2) T.F_l_list sc_l_list (by decide) fun cdv A outer s0 H E hr =>
  ((pdss_one (pds_ret (pd_ctup T.m_tuple (pda_cons (pd_lc (own := [("_law_name", 2)]) rfl sc_l_list.nd (pdi_seq (pd_sorted T.m_sorted (pda_cons (pd_var 1) pda_nil))) (blkOk_by (own := [("_law_name", 2)]) (N := N_l_list) (sc := defScope s_l_list) (by decide +kernel)) ⟨fun _ _ _ _ _ => (pdg_name 2 sc_l_list.nd), fun _ _ _ _ _ => (pdts_one (pdt_cmp cs_gt (pd_callK 0 (ok_l_next T) (hr.mono (by decide)) T.g_l_next T.F_l_next.kp T.b_l_next pass0 (pda_cons pd_int pda_nil)) pd_int (nomark _))), fun _ _ _ _ _ => (pd_callK 0 (ok_l_row T) (hr.mono (by decide)) T.g_l_row T.F_l_row.kp T.b_l_row pass0 (pda_cons (pd_var 2) pda_nil)), by decide⟩) pda_nil)))) : PDSs _ _ m_l_list)
def m_law : MS := (sSeq (sAsg (mCallK 1 f_l_names (mCons (mC (.int 8)) mNil)) (gSet 2))
  (sSeq (sFor (mRng1 (mC (.int 8))) (gSet 3) (sSeq (sAsg (mCallK 1 f_l_list (mCons (mVar 2) mNil)) (gSet 4))
  (sSeq (sAsg (mLc (mItems (mVar 4)) [6] (gSet 6) mYes (mBin subD' (mVar 6) (mC (.int 0)))) (gSet 5))
  (sSeq (sAsg (mLc (mItems (mVar 5)) [8] (gSet 8) (mB (mBin eqD (mCallK 1 f_l_next (mCons (mC (.int 4)) mNil)) (mC (.int 0)))) (mVar 8)) (gSet 7))
  (sSeq (sIf (mB (mBin eqD (mCallK 1 f_l_next (mCons (mC (.int 3)) mNil)) (mC (.int 0)))) (sAsg (mLc (mItems (mVar 2)) [8] (gSet 8) (mB (mBin eqD (mCallK 1 f_l_next (mCons (mC (.int 5)) mNil)) (mC (.int 0)))) (mVar 8)) (gSet 7)) sNext)
  (sSeq (sAsg (mTup (mCons (mCall tupD (mCons (mCall sortedD (mCons (mVar 7) mNil)) mNil)) (mCons (mCallK 1 f_l_list (mCons (mVar 2) mNil)) mNil))) (gSet 9))
  (sSeq (sAsg (mCall reprD (mCons (mLst (mCons (mVar 4) (mCons (mVar 9) mNil))) mNil)) (gSet 10))
  (sSeq (sAsg (mCall f_l_led (mCons (mVar 4) (mCons (mVar 9) mNil))) (gSet 11))
  (sSeq (sAsg (mC .none) (gSet 12))
  (sSeq (sTryE 12 13 f_led (mCons (mVar 4) (mCons (mVar 9) mNil)) (fun ρ => nonB ρ 11))
  (sIf (tOrM (mB (mBin neS (mCall reprD (mCons (mVar 12) mNil)) (mCall reprD (mCons (mVar 11) mNil)))) (mB (mBin neS (mCall reprD (mCons (mLst (mCons (mVar 4) (mCons (mVar 9) mNil))) mNil)) (mVar 10)))) (sRet (mC (.bool false))) sNext)))))))))))
  (sRet (mC (.bool true)))))
end
end K67

namespace MT
variable {α : Type} [DecidableEq α]
/-- as many as both begin with -/
def pfx : List α → List α → Nat
  | x :: xs, y :: ys => if x = y then pfx xs ys + 1 else 0
  | _, _ => 0
theorem pfx_le : ∀ a b : List α, pfx a b ≤ a.length ∧ pfx a b ≤ b.length
  | [], _ => by simp [pfx]
  | _ :: _, [] => by simp [pfx]
  | x :: xs, y :: ys => by
    have := pfx_le xs ys
    unfold pfx
    split
    · simp only [List.length_cons]; omega
    · simp
theorem pfx_take : ∀ a b : List α, a.take (pfx a b) = b.take (pfx a b)
  | [], b => by simp [pfx]
  | _ :: _, [] => by simp [pfx]
  | x :: xs, y :: ys => by
    unfold pfx
    split
    · rename_i h; subst h; rw [List.take_succ_cons, List.take_succ_cons, pfx_take xs ys]
    · simp
/-- at i, where all ahead is alike: it is alike just where i is below -/
theorem pfx_at : ∀ (a b : List α) (i : Nat), i ≤ pfx a b → ((i < a.length ∧ i < b.length ∧ a[i]? = b[i]?) ↔ i < pfx a b)
  | [], b, i, h => by simp [pfx]
  | _ :: _, [], i, h => by simp [pfx]
  | x :: xs, y :: ys, 0, h => by
    unfold pfx
    by_cases e : x = y
    · rw [if_pos e]; simp [e]
    · rw [if_neg e]; simp [e]
  | x :: xs, y :: ys, i + 1, h => by
    unfold pfx at h ⊢
    by_cases e : x = y
    · rw [if_pos e] at h ⊢
      have := pfx_at xs ys i (by omega)
      simp only [List.length_cons, List.getElem?_cons_succ]
      constructor
      · rintro ⟨a1, a2, a3⟩
        have := this.mp ⟨by omega, by omega, a3⟩
        omega
      · intro z
        obtain ⟨a1, a2, a3⟩ := this.mpr (by omega)
        exact ⟨by omega, by omega, a3⟩
    · rw [if_neg e] at h; omega
theorem pfx_ge : ∀ (c a b : List α), c.length ≤ pfx (c ++ a) (c ++ b)
  | [], a, b => Nat.zero_le _
  | x :: c, a, b => by
    have := pfx_ge c a b
    rw [List.cons_append, List.cons_append]
    unfold pfx
    rw [if_pos rfl, List.length_cons]
    omega
theorem pfx_self (a : List α) : pfx a a = a.length := by
  have h1 := pfx_ge a [] []
  rw [List.append_nil] at h1
  have h2 := (pfx_le a a).1
  omega
theorem pfx_comm : ∀ a b : List α, pfx a b = pfx b a
  | [], [] => rfl
  | [], _ :: _ => by simp [pfx]
  | _ :: _, [] => by simp [pfx]
  | x :: xs, y :: ys => by
    unfold pfx
    by_cases e : x = y
    · rw [if_pos e, if_pos e.symm, pfx_comm xs ys]
    · rw [if_neg e, if_neg fun z => e z.symm]
/-- parts that differ, with a sign behind that is in neither -/
theorem pfx_mark {x : α} : ∀ (f n l m : List α), x ∉ f → x ∉ n → f ≠ n → pfx (f ++ x :: l) (n ++ x :: m) ≤ f.length ∧ pfx (f ++ x :: l) (n ++ x :: m) ≤ n.length
  | [], [], l, m, _, _, h => absurd rfl h
  | [], y :: n, l, m, _, h2, _ => by
    have : x ≠ y := fun e => h2 (by rw [e]; simp)
    simp [pfx, this]
  | y :: f, [], l, m, h1, _, _ => by
    have : y ≠ x := fun e => h1 (by rw [e]; simp)
    simp [pfx, this]
  | y :: f, z :: n, l, m, h1, h2, h => by
    rw [List.cons_append, List.cons_append]
    unfold pfx
    by_cases e : y = z
    · subst e
      have := pfx_mark f n l m (fun q => h1 (.tail _ q)) (fun q => h2 (.tail _ q)) (fun q => h (by rw [q]))
      rw [if_pos rfl, List.length_cons, List.length_cons]
      omega
    · rw [if_neg e]; omega
/-- as many as both end with, of those that are left -/
def sfx (a b : List α) : Nat := min (pfx a.reverse b.reverse) (min a.length b.length - pfx a b)
/-- the change of a base: begin, end, what came -/
structure Ch (a b : List α) (i j : Nat) (c : List α) : Prop where
  i_eq : i = pfx a b
  j_eq : j = a.length - sfx a b
  c_eq : c = (b.drop i).take (b.length - sfx a b - i)
theorem sfx_le (a b : List α) : sfx a b ≤ a.length - pfx a b ∧ sfx a b ≤ b.length - pfx a b := by
  unfold sfx; omega
theorem sfx_drop (a b : List α) : a.drop (a.length - sfx a b) = b.drop (b.length - sfx a b) := by
  have h := pfx_take a.reverse b.reverse
  have hl : sfx a b ≤ pfx a.reverse b.reverse := Nat.min_le_left _ _
  have h2 : a.reverse.take (sfx a b) = b.reverse.take (sfx a b) := by
    have e := congrArg (List.take (sfx a b)) h
    rwa [List.take_take, List.take_take, Nat.min_eq_left hl] at e
  rw [List.take_reverse, List.take_reverse] at h2
  exact List.reverse_inj.mp h2
theorem Ch.le {a b : List α} {i j : Nat} {c : List α} (h : Ch a b i j c) : i ≤ j ∧ j ≤ a.length := by
  have := sfx_le a b
  have := pfx_le a b
  rw [h.i_eq, h.j_eq]
  omega
/-- the change made is the other row -/
theorem Ch.made {a b : List α} {i j : Nat} {c : List α} (h : Ch a b i j c) : a.take i ++ c ++ a.drop j = b := by
  have h1 := sfx_le a b
  have h2 := pfx_le a b
  rw [h.c_eq, h.j_eq, sfx_drop, h.i_eq, pfx_take]
  have e : (b.drop (pfx a b)).take (b.length - sfx a b - pfx a b) ++ b.drop (b.length - sfx a b) = b.drop (pfx a b) := by
    have : b.drop (b.length - sfx a b) = (b.drop (pfx a b)).drop (b.length - sfx a b - pfx a b) := by
      rw [List.drop_drop]
      congr 1
      omega
    rw [this, List.take_append_drop]
  rw [List.append_assoc, e, List.take_append_drop]
theorem Ch.len {a b : List α} {i j : Nat} {c : List α} (h : Ch a b i j c) : c.length + a.length = b.length + (j - i) := by
  have e := congrArg List.length h.made
  have := h.le
  rw [List.length_append, List.length_append, List.length_take, List.length_drop] at e
  omega
def chg (a b : List α) : Nat × Nat × List α := (pfx a b, a.length - sfx a b, (b.drop (pfx a b)).take (b.length - sfx a b - pfx a b))
theorem chg_ch (a b : List α) : Ch a b (chg a b).1 (chg a b).2.1 (chg a b).2.2 := ⟨rfl, rfl, rfl⟩
def apart (i j k l : Nat) : Bool := decide (j ≤ k) && (decide (i < j) || (decide (j < k) || decide (k < l)))
def both (a : List α) (m t : Nat × Nat × List α) : List α := a.take m.1 ++ m.2.2 ++ (a.drop m.2.1).take (t.1 - m.2.1) ++ t.2.2 ++ a.drop t.2.1
/-- what is met, none where it is refused -/
def met (a b c : List α) : Option (List α) :=
  if b = a ∨ b = c then some c else if c = a then some b else
    if apart (chg a b).1 (chg a b).2.1 (chg a c).1 (chg a c).2.1 then some (both a (chg a b) (chg a c))
    else if apart (chg a c).1 (chg a c).2.1 (chg a b).1 (chg a b).2.1 then some (both a (chg a c) (chg a b)) else none
theorem mark_cancel {x : α} : ∀ {f n l m : List α}, x ∉ f → x ∉ n → f ++ x :: l = n ++ x :: m → f = n ∧ l = m
  | [], [], l, m, _, _, e => by simpa using e
  | [], y :: n, l, m, _, h2, e => by simp at e; exact absurd e.1 fun q => h2 (by rw [q]; simp)
  | y :: f, [], l, m, h1, _, e => by simp at e; exact absurd e.1 fun q => h1 (by rw [q]; simp)
  | y :: f, z :: n, l, m, h1, h2, e => by
    simp only [List.cons_append, List.cons.injEq] at e
    obtain ⟨rfl, e⟩ := e
    obtain ⟨rfl, rfl⟩ := mark_cancel (fun q => h1 (.tail _ q)) (fun q => h2 (.tail _ q)) e
    exact ⟨rfl, rfl⟩
/-- the first part changed, the last one changed: both are made -/
theorem both_far {x : α} {f l n o : List α} (hf : x ∉ f) (hn : x ∉ n) (hl : x ∉ l) (ho : x ∉ o) (hfn : f ≠ n) (hlo : l ≠ o) :
    (chg (f ++ x :: l) (n ++ x :: l)).2.1 < (chg (f ++ x :: l) (f ++ x :: o)).1 ∧ both (f ++ x :: l) (chg (f ++ x :: l) (n ++ x :: l)) (chg (f ++ x :: l) (f ++ x :: o)) = n ++ x :: o := by
  have c1 := chg_ch (f ++ x :: l) (n ++ x :: l)
  have c2 := chg_ch (f ++ x :: l) (f ++ x :: o)
  generalize chg (f ++ x :: l) (n ++ x :: l) = m at c1 ⊢
  generalize chg (f ++ x :: l) (f ++ x :: o) = t at c2 ⊢
  obtain ⟨i, j, c⟩ := m
  obtain ⟨i', j', c'⟩ := t
  dsimp only at c1 c2 ⊢
  have len : (f ++ x :: l).length = f.length + 1 + l.length := by simp; omega
  have lenn : (n ++ x :: l).length = n.length + 1 + l.length := by simp; omega
  -- the first one ends ahead of the mark
  have p1 := pfx_mark f n l l hf hn hfn
  have hj : j ≤ f.length := by
    rw [c1.j_eq]
    have hs : l.length + 1 ≤ sfx (f ++ x :: l) (n ++ x :: l) := by
      unfold sfx
      have := pfx_ge ((x :: l).reverse) f.reverse n.reverse
      rw [← List.reverse_append, ← List.reverse_append, List.length_reverse, List.length_cons] at this
      rw [len, lenn]
      omega
    omega
  -- the second one begins behind it
  have hi : f.length + 1 ≤ i' := by
    rw [c2.i_eq]
    have := pfx_ge (f ++ [x]) l o
    rw [List.length_append, List.append_assoc, List.append_assoc] at this
    simpa using this
  have l1 := c1.le
  have l2 := c2.le
  refine ⟨by omega, ?_⟩
  have m1 := c1.made
  have m2 := c2.made
  -- what became of the first part
  have e1 : f.take i ++ c ++ f.drop j = n := by
    have t1 : (f ++ x :: l).take i = f.take i := List.take_append_of_le_length (by omega)
    have t2 : (f ++ x :: l).drop j = f.drop j ++ x :: l := List.drop_append_of_le_length hj
    rw [t1, t2, ← List.append_assoc] at m1
    exact List.append_cancel_right m1
  -- and of the last
  obtain ⟨d, rfl⟩ : ∃ d, i' = f.length + 1 + d := ⟨i' - (f.length + 1), by omega⟩
  obtain ⟨g, rfl⟩ : ∃ g, j' = f.length + 1 + g := ⟨j' - (f.length + 1), by omega⟩
  have ass : f ++ x :: l = (f ++ [x]) ++ l := by simp
  have ass' : f ++ x :: o = (f ++ [x]) ++ o := by simp
  have lfx : (f ++ [x]).length = f.length + 1 := by simp
  have t3 : (f ++ x :: l).take (f.length + 1 + d) = (f ++ [x]) ++ l.take d := by rw [ass, ← lfx, List.take_length_add_append]
  have t4 : (f ++ x :: l).drop (f.length + 1 + g) = l.drop g := by rw [ass, ← lfx, List.drop_length_add_append]
  have e2 : l.take d ++ c' ++ l.drop g = o := by
    rw [t3, t4, ass', List.append_assoc, List.append_assoc] at m2
    have := List.append_cancel_left m2
    rw [List.append_assoc]
    exact this
  unfold both
  dsimp only
  rw [t4]
  have t1 : (f ++ x :: l).take i = f.take i := List.take_append_of_le_length (by omega)
  have t5 : ((f ++ x :: l).drop j).take (f.length + 1 + d - j) = f.drop j ++ (x :: l.take d) := by
    rw [List.drop_append_of_le_length hj, List.take_append, List.length_drop, List.take_of_length_le (by rw [List.length_drop]; omega)]
    have : f.length + 1 + d - j - (f.length - j) = d + 1 := by omega
    rw [this, List.take_succ_cons]
  rw [t1, t5, ← e1, ← e2]
  simp
/-- changes far apart: both are told, for both turns -/
theorem met_far {x : α} {f l n o : List α} (hf : x ∉ f) (hn : x ∉ n) (hl : x ∉ l) (ho : x ∉ o) :
    met (f ++ x :: l) (n ++ x :: l) (f ++ x :: o) = some (n ++ x :: o) ∧ met (f ++ x :: l) (f ++ x :: o) (n ++ x :: l) = some (n ++ x :: o) := by
  by_cases hfn : f = n
  · subst hfn
    unfold met
    refine ⟨by rw [if_pos (.inl rfl)], ?_⟩
    by_cases h2 : o = l
    · subst h2; rw [if_pos (.inl rfl)]
    · rw [if_neg (by simpa using h2), if_pos rfl]
  by_cases hlo : l = o
  · subst hlo
    unfold met
    refine ⟨?_, by rw [if_pos (.inl rfl)]⟩
    rw [if_neg (by simpa using fun z => hfn z.symm), if_pos rfl]
  obtain ⟨h1, h2⟩ := both_far hf hn hl ho hfn hlo
  have l1 := (chg_ch (f ++ x :: l) (n ++ x :: l)).le
  have l2 := (chg_ch (f ++ x :: l) (f ++ x :: o)).le
  have ap : apart (chg (f ++ x :: l) (n ++ x :: l)).1 (chg (f ++ x :: l) (n ++ x :: l)).2.1 (chg (f ++ x :: l) (f ++ x :: o)).1 (chg (f ++ x :: l) (f ++ x :: o)).2.1 = true := by
    unfold apart
    rw [decide_eq_true (show _ ≤ _ by omega), decide_eq_true h1]
    simp
  have nap : apart (chg (f ++ x :: l) (f ++ x :: o)).1 (chg (f ++ x :: l) (f ++ x :: o)).2.1 (chg (f ++ x :: l) (n ++ x :: l)).1 (chg (f ++ x :: l) (n ++ x :: l)).2.1 = false := by
    unfold apart
    rw [decide_eq_false (show ¬ _ ≤ _ by omega)]
    rfl
  have n1 : ¬ (n ++ x :: l = f ++ x :: l ∨ n ++ x :: l = f ++ x :: o) := fun z => z.elim (fun e => hfn (mark_cancel hn hf e).1.symm) fun e => hfn (mark_cancel hn hf e).1.symm
  have n2 : ¬ (f ++ x :: o = f ++ x :: l) := fun e => hlo (mark_cancel hf hf e).2.symm
  have n3 : ¬ (f ++ x :: o = f ++ x :: l ∨ f ++ x :: o = n ++ x :: l) := fun z => z.elim n2 fun e => hfn (mark_cancel hf hn e).1
  have n4 : ¬ (n ++ x :: l = f ++ x :: l) := fun e => n1 (.inl e)
  unfold met
  rw [if_neg n1, if_neg n2, if_pos ap, if_neg n3, if_neg n4, nap, if_neg Bool.false_ne_true, if_pos ap, h2]
  exact ⟨rfl, rfl⟩
end MT

namespace DL
open PySem PySem.Spec PyProof.Rows L2 TL PD MT
local macro_rules | `(tactic| walk_at "lx") => `(tactic| simp only [wl_gen, wl_seq, wl_app, wl_at, wl_for, ws_hid, we_lenU, we_ixU, ws_setU, ws_asgX, wx_pop, wx_bin, ws_asg, ws_ret, ws_if, ws_next, ws_uni, ws_app, ws_frz, ws_aug, ws_for, onNx_nx, onNx_rt, onNx_bk, onNx_ct, onRt_rt, onRt_nx, we_var, we_c, we_bin, we_un, we_call, we_callK, wa_nil, wa_cons, we_tup, we_lst, wo_no, wo_some, we_sl, wt_b, wt_tru, wt_and, wt_or, wt_not, we_if, we_and, we_or, we_chain, we_get2, wp_nil, wp_cons, we_disp, wa_items, we_lc, wg_set, wg_tup, wg_lst, w_eqS, w_neS, wgs_nil, wgs_cons, List.getElem?_cons_zero, List.getElem?_cons_succ, Option.some.injEq, Sl.val.injEq, Sl.uni.injEq, exists_eq_left', exists_eq_left, List.set_cons_zero, List.set_cons_succ, true_and, and_true, List.length_cons, List.length_nil, List.map_cons, List.map_nil, PyData.int.injEq, PyData.bool.injEq, PyData.tuple.injEq, PyData.list.injEq, PyData.str.injEq, w_add, w_sub, w_lt, w_le, w_gt, w_ge, w_eqI, w_neI, w_intB, itemsD, truD, slots, wipeR, List.cons_append, List.nil_append, Nat.reduceAdd, Nat.reduceSub, List.replicate_succ, List.replicate_zero, ↓reduceIte, Bool.false_eq_true, Bool.not_true, Bool.not_false, decide_true, decide_false, if_true, if_false])
/-! ### rows of lists -/
structure Rw where
  nm : Str
  t : Fin 3
  n : Fin 4
  p : Fin 4
  deriving DecidableEq
def tgS (t : Fin 3) : Str := match t with | 0 => "en" | 1 => "de" | 2 => "fr"
def nbD (n : Fin 4) : D := match n with | 0 => .none | 1 => .int 0 | 2 => .int 1 | 3 => .int 12
def pcD (p : Fin 4) : D := match p with
  | 0 => .tuple []
  | 1 => .tuple [.str "go"]
  | 2 => .tuple [.str "go", .tuple [.str "say", .str "n"]]
  | 3 => .tuple [.tuple [.str "by", .str "n", .tuple [.tuple [.str "one", .tuple [.str "x"]], .tuple [.str "many", .tuple []]]]]
def er (r : Rw) : D := .tuple [.str r.nm, .str (tgS r.t), nbD r.n, pcD r.p]
def TR (rs : List Rw) : D := .tuple (rs.map er)
def az : Str := "abcdefghijklmnopqrstuvwxyz"
structure NmOk (n : Str) : Prop where
  ln : n.length ≤ 8
  asc : ∀ c ∈ tl n, 97 ≤ c ∧ c ≤ 122
theorem strOk_lt {x : Str} (h : ∀ c ∈ tl x, c < 128) : PyData.strOk x = true := by
  unfold PyData.strOk
  rw [Array.all_eq_true_iff_forall_mem]
  intro c hc
  have := h c (by unfold tl; exact Array.mem_toList_iff.mpr hc)
  exact decide_eq_true (by omega)
theorem NmOk.ok {n : Str} (h : NmOk n) : PyData.strOk n = true := strOk_lt fun c hc => by have := h.asc c hc; omega
/-! ### what a row looks like -/
theorem reprChar_az : ∀ c, c < 123 → 97 ≤ c → Builtin.Str.reprChar 39 c = [c] := by decide +kernel
theorem fold_az : ∀ (l : List Nat) (acc : Array Nat), (∀ c ∈ l, 97 ≤ c ∧ c ≤ 122) → l.foldl (fun out c => out ++ (Builtin.Str.reprChar 39 c).toArray) acc = acc ++ l.toArray
  | [], acc, _ => by simp
  | c :: l, acc, h => by
    have hc := h c (.head _)
    rw [List.foldl_cons, reprChar_az c (by omega) hc.1, fold_az l _ fun d hd => h d (.tail _ hd)]
    simp
theorem repr_az {n : Str} (h : NmOk n) : tl (reprText n) = 39 :: (tl n ++ [39]) := by
  have hq : reprQuote n = 39 := by
    unfold reprQuote
    rw [if_neg ?_]
    intro z
    simp only [Bool.and_eq_true, Array.contains_eq_mem, decide_eq_true_eq] at z
    have := h.asc 39 (by unfold tl; exact Array.mem_toList_iff.mpr z.1)
    omega
  unfold reprText
  rw [hq]
  show ((n.cps.foldl (fun out c => out ++ (Builtin.Str.reprChar 39 c).toArray) #[39]).push 39).toList = _
  rw [← Array.foldl_toList, fold_az _ _ h.asc]
  simp [tl]
def rest (t : Fin 3) (n p : Fin 4) : List Nat := [44, 32] ++ tl (PyData.shown (.str (tgS t))) ++ [44, 32] ++ tl (nbD n).shown ++ [44, 32] ++ tl (pcD p).shown ++ [41]
theorem rest_inj : ∀ t n p t' n' p', rest t n p = rest t' n' p' → t = t' ∧ n = n' ∧ p = p' := by decide +kernel
theorem rest_lt : ∀ t n p, ∀ c ∈ rest t n p, c < 128 := by decide +kernel
theorem shown_er {r : Rw} (h : NmOk r.nm) : tl (er r).shown = 40 :: 39 :: (tl r.nm ++ 39 :: rest r.t r.n r.p) := by
  have e : (er r).shown = tupleText [reprText r.nm, PyData.shown (.str (tgS r.t)), (nbD r.n).shown, (pcD r.p).shown] := by
    unfold er
    simp only [PyData.shown, PyData.shownAll]
  rw [e]
  unfold tupleText
  rw [tl_append, tl_append, tl_join]
  have e1 : tl ("(" : Str) = [40] := by decide +kernel
  have e2 : tl ((if ([reprText r.nm, PyData.shown (.str (tgS r.t)), (nbD r.n).shown, (pcD r.p).shown] : List Str).length == 1 then ",)" else ")" : String) : Str) = [41] := by show tl (Str.ofString ")") = [41]; decide +kernel
  have e3 : tl (", " : Str) = [44, 32] := by decide +kernel
  rw [e1, e2, e3]
  simp only [List.map_cons, List.map_nil, joinL, repr_az h, rest]
  simp
theorem shown_inj {a b : Rw} (ha : NmOk a.nm) (hb : NmOk b.nm) (h : (er a).shown = (er b).shown) : a = b := by
  have e := congrArg tl h
  rw [shown_er ha, shown_er hb] at e
  simp only [List.cons.injEq, true_and] at e
  have nq : ∀ {x : Str}, NmOk x → 39 ∉ tl x := fun hx z => by have := hx.asc 39 z; omega
  obtain ⟨e1, e2⟩ := mark_cancel (nq ha) (nq hb) e
  obtain ⟨f1, f2, f3⟩ := rest_inj _ _ _ _ _ _ e2
  obtain ⟨n, t, m, p⟩ := a
  obtain ⟨n', t', m', p'⟩ := b
  dsimp only at e1 f1 f2 f3
  rw [ext_tl e1, f1, f2, f3]
theorem shown_ok {a : Rw} (ha : NmOk a.nm) : PyData.strOk (er a).shown = true := strOk_lt fun c hc => by
  rw [shown_er ha] at hc
  simp only [List.mem_cons, List.mem_append] at hc
  rcases hc with rfl | rfl | hc | rfl | hc
  · decide
  · decide
  · have := ha.asc c hc; omega
  · decide
  · exact rest_lt _ _ _ c hc
/-! ### what can be shown -/
structure Sw (m k : Nat) (d : D) : Prop where
  a : ascD d = true
  b : shB d ≤ k
  s : d.showable = true
  n : d.hasDict = false
  p : d.depth ≤ m
theorem Sw.all {m k : Nat} : ∀ {ds : List D}, (∀ d ∈ ds, Sw m k d) → ascDs ds = true ∧ shBs ds ≤ (k + 2) * ds.length ∧ PyData.showableAll ds = true ∧ PyData.hasDictAll ds = false ∧ PyData.depthAll ds ≤ m
  | [], _ => by simp [ascDs, shBs, PyData.showableAll, PyData.hasDictAll, PyData.depthAll]
  | d :: ds, h => by
    have h1 := h d (.head _)
    obtain ⟨a, b, c, e, f⟩ := Sw.all fun x hx => h x (.tail _ hx)
    refine ⟨by simp only [ascDs, h1.a, a, Bool.and_self], ?_, by simp only [PyData.showableAll, h1.s, c, Bool.and_self], by simp only [PyData.hasDictAll, h1.n, e, Bool.or_self], ?_⟩
    · have := h1.b
      rw [shBs, List.length_cons, Nat.mul_succ]
      omega
    · have := h1.p
      simp only [PyData.depthAll]
      omega
theorem Sw.tup {m k : Nat} {ds : List D} (h : ∀ d ∈ ds, Sw m k d) : Sw (m + 1) ((k + 2) * ds.length + 3) (.tuple ds) := by
  obtain ⟨a, b, c, e, f⟩ := Sw.all h
  refine ⟨by simpa [ascD] using a, by simp only [shB]; omega, by simpa [PyData.showable] using c, by simpa [PyData.hasDict] using e, by simp only [PyData.depth]; omega⟩
theorem Sw.lst {m k : Nat} {ds : List D} (h : ∀ d ∈ ds, Sw m k d) : Sw (m + 1) ((k + 2) * ds.length + 3) (.list ds) := by
  obtain ⟨a, b, c, e, f⟩ := Sw.all h
  refine ⟨by simpa [ascD] using a, by simp only [shB]; omega, by simpa [PyData.showable] using c, by simpa [PyData.hasDict] using e, by simp only [PyData.depth]; omega⟩
theorem Sw.mono {m k m' k' : Nat} {d : D} (h : Sw m k d) (hm : m ≤ m') (hk : k ≤ k') : Sw m' k' d := ⟨h.a, Nat.le_trans h.b hk, h.s, h.n, Nat.le_trans h.p hm⟩
theorem Sw.ok {m k : Nat} {d : D} (h : Sw m k d) (hm : m ≤ 60) (hk : k ≤ 1000000) : ShowOk d := ⟨h.s, h.n, Nat.le_trans h.p hm, by have := shown_le d h.a; have := h.b; have := sizeBig; omega⟩
theorem sw_nm {x : Str} (h : NmOk x) : Sw 0 82 (.str x) := by
  refine ⟨?_, ?_, by simp [PyData.showable], by simp [PyData.hasDict], by simp [PyData.depth]⟩
  · simp only [ascD]
    refine List.all_eq_true.mpr fun c hc => decide_eq_true ?_
    have := h.asc c hc
    exact Nat.lt_of_le_of_lt this.2 (by decide)
  · have := h.ln
    simp only [shB]
    omega
theorem sw_tg : ∀ t : Fin 3, Sw 0 82 (.str (tgS t)) := fun t => by
  refine ⟨?_, ?_, by simp [PyData.showable], by simp [PyData.hasDict], by simp [PyData.depth]⟩
  · revert t; decide +kernel
  · revert t; decide +kernel
theorem sw_nb : ∀ n : Fin 4, Sw 0 82 (nbD n) := fun n => by
  refine ⟨?_, ?_, ?_, ?_, ?_⟩ <;> (revert n; decide +kernel)
theorem sw_pc : ∀ p : Fin 4, Sw 8 1000 (pcD p) := fun p => by
  refine ⟨?_, ?_, ?_, ?_, ?_⟩ <;> (revert p; decide +kernel)
theorem sw_er {r : Rw} (h : NmOk r.nm) : Sw 9 4100 (er r) := by
  refine Sw.mono (Sw.tup (m := 8) (k := 1000) fun d hd => ?_) (by decide) (by simp)
  simp only [List.mem_cons, List.not_mem_nil, or_false] at hd
  rcases hd with rfl | rfl | rfl | rfl
  · exact (sw_nm h).mono (by decide) (by decide)
  · exact (sw_tg _).mono (by decide) (by decide)
  · exact (sw_nb _).mono (by decide) (by decide)
  · exact sw_pc _
structure RsOk (rs : List Rw) : Prop where
  nm : ∀ r ∈ rs, NmOk r.nm
  nd : (rs.map (·.nm)).Nodup
  ln : rs.length ≤ 8
theorem sw_TR {rs : List Rw} (h : ∀ r ∈ rs, NmOk r.nm) (hl : rs.length ≤ 8) : Sw 10 33000 (TR rs) := by
  refine Sw.mono (Sw.tup (m := 9) (k := 4100) (ds := rs.map er) fun d hd => ?_) (by decide) ?_
  · obtain ⟨r, hr, rfl⟩ := List.mem_map.mp hd
    exact sw_er (h r hr)
  · rw [List.length_map]
    have : (4100 + 2) * rs.length ≤ 4102 * 8 := Nat.mul_le_mul (Nat.le_refl _) hl
    omega
theorem repr_of {m k : Nat} {d : D} (h : Sw m k d) (hm : m ≤ 60 := by decide) (hk : k ≤ 1000000 := by decide) : reprD [d] = some (.str d.shown) := if_pos (h.ok hm hk)
/-! ### rows compared -/
theorem sh_er {r : Rw} (h : NmOk r.nm) : Sh 9 (er r) := by
  have hp : ∀ p : Fin 4, Sh 8 (pcD p) := fun p => ⟨by revert p; decide +kernel, by revert p; decide +kernel⟩
  have hn : ∀ n : Fin 4, Sh 8 (nbD n) := fun n => ⟨by revert n; decide +kernel, by revert n; decide +kernel⟩
  have ht : ∀ t : Fin 3, Sh 8 (.str (tgS t)) := fun t => ⟨by revert t; decide +kernel, by revert t; decide +kernel⟩
  refine Sh.tup (k := 8) fun d hd => ?_
  simp only [List.mem_cons, List.not_mem_nil, or_false] at hd
  rcases hd with rfl | rfl | rfl | rfl
  · exact (Sh.str h.ok).mono (by decide)
  · exact ht _
  · exact hn _
  · exact hp _
theorem eqv_er (a b : Rw) : PyData.eqv (er a) (er b) = decide (a = b) := by
  obtain ⟨n, t, m, p⟩ := a
  obtain ⟨n', t', m', p'⟩ := b
  have h1 : ∀ t t' : Fin 3, PyData.eqv (.str (tgS t)) (.str (tgS t')) = decide (t = t') := by decide +kernel
  have h2 : ∀ m m' : Fin 4, PyData.eqv (nbD m) (nbD m') = decide (m = m') := by decide +kernel
  have h3 : ∀ p p' : Fin 4, PyData.eqv (pcD p) (pcD p') = decide (p = p') := by decide +kernel
  unfold er
  simp only [PyData.eqv, PyData.eqvAll, h2, h3]
  have h1' := h1 t t'
  simp only [PyData.eqv] at h1'
  rw [h1', Bool.eq_iff_iff]
  simp [Rw.mk.injEq]
theorem ne_er {a b : Rw} (ha : NmOk a.nm) (hb : NmOk b.nm) : neD (er a) (er b) = some (.bool (!decide (a = b))) := by
  rw [neD_of (sh_er ha) (sh_er hb) (by decide) (by decide), eqv_er]
end DL

namespace DL
open PySem PySem.Spec PyProof.Rows L2 PD
def prA : List Int := [2147483647, 2147483587, 2147483563]
def mxA (c k : Int) : Int := (c % 2147483629 + 69621 * k + 54321) ^ (3 : Int).toNat % prA.getD (k % 3).toNat 0
def mixA (c k : Int) : Int := ((mxA c k + 7129 * k + 41) ^ (2 : Int).toNat % 2147483477 * 2147483423 + mxA c k) % 4611686018427387847
def f_l_next : List D → Dk → Option (D × Dk) := fNext mixA
def m_rows_by_name : MS := (sRet (mDcN (kFor (mItems (mVar 0)) [1] (gSet 1) mYes (kOne (mBin subD' (mVar 1) (mC (.int 0))) (mVar 1)))))
def f_rows_by_name : List D → Option D := fnP 2 1 m_rows_by_name
def m_delta : MS := (sSeq (sAsg (mTup (mCons (mCall f_rows_by_name (mCons (mVar 0) mNil)) (mCons (mCall f_rows_by_name (mCons (mVar 1) mNil)) mNil))) (gTupM 2 (gsCons (gSet 2) (gsCons (gSet 3) gsNil))))
  (sSeq (sAsg (mLcKeys 2 [5] (gSet 5) (mB (mBin (inDict true) (mVar 5) (mVar 3))) (mVar 5)) (gSet 4))
  (sSeq (sAsg (mLc (mItems (mVar 1)) [7] (gSet 7) (tOrM (mB (mBin (inDict true) (mBin subD' (mVar 7) (mC (.int 0))) (mVar 2))) (mB (mBin neD (mBin subD' (mVar 2) (mBin subD' (mVar 7) (mC (.int 0)))) (mVar 7)))) (mVar 7)) (gSet 6))
  (sRet (mTup (mCons (mCall tupD (mCons (mVar 4) mNil)) (mCons (mCall tupD (mCons (mVar 6) mNil)) mNil)))))))
def f_delta : List D → Option D := fnP 8 2 m_delta
def m_l_names : MS := (sSeq (sUniS 2 (mC (.str "abcdefghijklmnopqrstuvwxyz")))
  (sSeq (sAsg (mBin joinD (mC (.str "")) (mLc (mRng1 (mCallK 0 f_l_next (mCons (mC (.int 8)) mNil))) [4] (gSet 4) mYes (mIxU 2 (mCallK 0 f_l_next (mCons (mC (.int 26)) mNil))))) (gSet 3))
  (sSeq (sAsg (mCallK 0 f_l_next (mCons (mBin addD (mCall lenD (mCons (mVar 3) mNil)) (mC (.int 1))) mNil)) (gSet 5))
  (sRetX (xLc (mRng1 (mVar 1)) [4] (gSet 4) (xBinL addD (xBin addD (mSl (mVar 3) oNo (oSome (mVar 5))) (xPop 2 (mCallK 0 f_l_next (mCons (mLenU 2) mNil)))) (mSl (mVar 3) (oSome (mVar 5)) oNo)))))))
def f_l_names : List D → Dk → Option (D × Dk) := fnK 6 2 m_l_names
def m_l_row : MS := (sSeq (sAsg (mBin subD' (mLst (mCons (mTup mNil) (mCons (mTup (mCons (mC (.str "go")) mNil)) (mCons (mTup (mCons (mC (.str "go")) (mCons (mTup (mCons (mC (.str "say")) (mCons (mC (.str "n")) mNil))) mNil))) (mCons (mTup (mCons (mTup (mCons (mC (.str "by")) (mCons (mC (.str "n")) (mCons (mTup (mCons (mTup (mCons (mC (.str "one")) (mCons (mTup (mCons (mC (.str "x")) mNil)) mNil))) (mCons (mTup (mCons (mC (.str "many")) (mCons (mTup mNil) mNil))) mNil))) mNil)))) mNil)) mNil))))) (mCallK 0 f_l_next (mCons (mC (.int 4)) mNil))) (gSet 2))
  (sRet (mTup (mCons (mVar 1) (mCons (mBin subD' (mLst (mCons (mC (.str "en")) (mCons (mC (.str "de")) (mCons (mC (.str "fr")) mNil)))) (mCallK 0 f_l_next (mCons (mC (.int 3)) mNil))) (mCons (mBin subD' (mLst (mCons (mC .none) (mCons (mC (.int 0)) (mCons (mC (.int 1)) (mCons (mC (.int 12)) mNil))))) (mCallK 0 f_l_next (mCons (mC (.int 4)) mNil))) (mCons (mVar 2) mNil)))))))
def f_l_row : List D → Dk → Option (D × Dk) := fnK 3 2 m_l_row
def m_l_list : MS := (sRet (mCall tupD (mCons (mLc (mItems (mCall sortedD (mCons (mVar 1) mNil))) [2] (gSet 2) (mB (mBin gtD (mCallK 0 f_l_next (mCons (mC (.int 3)) mNil)) (mC (.int 0)))) (mCallK 0 f_l_row (mCons (mVar 2) mNil))) mNil)))
def f_l_list : List D → Dk → Option (D × Dk) := fnK 3 2 m_l_list
def m_l_turned : MS := (sSeq (sAsg (mLst mNil) (gSet 3))
  (sSeq (sFor (mItems (mCall sortedD (mCons (mVar 2) mNil))) (gSet 4) (sSeq (sAsg (mLc (mItems (mVar 1)) [6] (gSet 6) (mB (mBin eqD (mBin subD' (mVar 6) (mC (.int 0))) (mVar 4))) (mVar 6)) (gSet 5))
  (sSeq (sAsg (mCallK 0 f_l_next (mCons (mC (.int 4)) mNil)) (gSet 7))
  (sSeq (sIf (mB (mBin eqD (mVar 7) (mC (.int 0)))) (sAsg (mLst (mCons (mCallK 0 f_l_row (mCons (mVar 4) mNil)) mNil)) (gSet 5)) sNext)
  (sIf (tOrM (mB (mBin gtD (mVar 7) (mC (.int 1)))) (tOrM (tAndM (mB (mBin neD (mVar 5) (mLst mNil))) (tAndM (mB (mBin eqD (mVar 7) (mC (.int 1)))) (mB (mBin eqD (mCallK 0 f_l_next (mCons (mC (.int 2)) mNil)) (mC (.int 0)))))) (mB (mBin eqD (mVar 7) (mC (.int 0)))))) (sAsg (mBin addD (mVar 3) (mVar 5)) (gSet 3)) sNext)))))
  (sRet (mCall tupD (mCons (mVar 3) mNil)))))
def f_l_turned : List D → Dk → Option (D × Dk) := fnK 8 3 m_l_turned
end DL

namespace DL
open PySem PySem.Spec PyProof.Rows L2 TL PD MT
local macro_rules | `(tactic| walk_at "lx") => `(tactic| simp only [wl_gen, wl_seq, wl_app, wl_at, wl_for, ws_hid, we_lenU, we_ixU, ws_setU, ws_asgX, ws_retX, ws_uniS, wx_binL, we_lcKeys, wx_pop, wx_bin, ws_asg, ws_ret, ws_if, ws_next, ws_uni, ws_app, ws_frz, ws_aug, ws_for, onNx_nx, onNx_rt, onNx_bk, onNx_ct, onRt_rt, onRt_nx, we_var, we_c, we_bin, we_un, we_call, we_callK, wa_nil, wa_cons, we_tup, we_lst, wo_no, wo_some, we_sl, wt_b, wt_tru, wt_and, wt_or, wt_not, we_if, we_and, we_or, we_chain, we_get2, wp_nil, wp_cons, we_disp, wa_items, we_lc, wg_set, wg_tup, wg_lst, w_eqS, w_neS, wgs_nil, wgs_cons, List.getElem?_cons_zero, List.getElem?_cons_succ, Option.some.injEq, Sl.val.injEq, Sl.uni.injEq, exists_eq_left', exists_eq_left, List.set_cons_zero, List.set_cons_succ, true_and, and_true, List.length_cons, List.length_nil, List.map_cons, List.map_nil, PyData.int.injEq, PyData.bool.injEq, PyData.tuple.injEq, PyData.list.injEq, PyData.str.injEq, w_add, w_sub, w_lt, w_le, w_gt, w_ge, w_eqI, w_neI, w_intB, itemsD, truD, slots, wipeR, List.cons_append, List.nil_append, Nat.reduceAdd, Nat.reduceSub, List.replicate_succ, List.replicate_zero, ↓reduceIte, Bool.false_eq_true, Bool.not_true, Bool.not_false, decide_true, decide_false, if_true, if_false])
theorem nx : f_l_next = fNext mixA := rfl
theorem az_len : az.length = 26 := by decide +kernel
theorem az_in : ∀ c ∈ tl az, 97 ≤ c ∧ c ≤ 122 := by decide +kernel
theorem az_nd : (tl az).Nodup := by decide +kernel
theorem signs_ch (x : Str) : PD.signs x = (tl x).map ch := rfl
theorem joinL_nil : ∀ l : List (List Nat), joinL [] l = l.flatten
  | [] => rfl
  | [a] => by simp [joinL]
  | a :: b :: r => by
    rw [joinL, joinL_nil (b :: r)]; simp
theorem chs_of {L : Str} : ∀ {out : List D}, (∀ y ∈ out, ∃ c, y = .str (ch c) ∧ c ∈ tl L) → ∃ cs : List Nat, out = (cs.map ch).map .str ∧ ∀ c ∈ cs, c ∈ tl L
  | [], _ => ⟨[], rfl, fun c hc => by simp at hc⟩
  | y :: out, h => by
    obtain ⟨c, rfl, hc⟩ := h y (.head _)
    obtain ⟨cs, rfl, hcs⟩ := chs_of fun z hz => h z (.tail _ hz)
    exact ⟨c :: cs, rfl, fun d hd => (List.mem_cons.mp hd).elim (fun e => e ▸ hc) (hcs d)⟩
theorem flat_ch : ∀ cs : List Nat, ((cs.map ch).map tl).flatten = cs
  | [] => rfl
  | c :: cs => by
    rw [List.map_cons, List.map_cons, List.flatten_cons, flat_ch cs, tl_ch]
    rfl
theorem sum_ch : ∀ cs : List Nat, ((cs.map ch).map (·.length)).sum = cs.length
  | [] => rfl
  | c :: cs => by
    rw [List.map_cons, List.map_cons, List.sum_cons, sum_ch cs, List.length_cons, len_tl, tl_ch]
    simp
    omega
theorem word_join {L : Str} {out : List D} (h : ∀ y ∈ out, ∃ c, y = .str (ch c) ∧ c ∈ tl L) (hl : out.length ≤ 100) : ∃ x : Str, joinD (.str "") (.list out) = some (.str x) ∧ x.length = out.length ∧ ∀ c ∈ tl x, c ∈ tl L := by
  obtain ⟨cs, rfl, hcs⟩ := chs_of h
  rw [List.length_map, List.length_map] at hl
  have et : tl (Txt.join (Str.ofString "") (cs.map ch)) = cs := by rw [join_eq, tl_join, tl_nil, joinL_nil, flat_ch]
  refine ⟨Txt.join "" (cs.map ch), ?_, by rw [len_tl, et]; simp, fun c hc => ?_⟩
  · show ((strsD ((cs.map ch).map .str)).bind fun zs => if joinSz "" zs then some (PyData.str (Txt.join "" zs)) else none) = _
    rw [strsD_map]
    refine if_pos (decide_eq_true ?_)
    rw [sum_ch, show (Str.ofString "").length = 0 by decide +kernel]
    omega
  · have hc : c ∈ tl (Txt.join (Str.ofString "") (cs.map ch)) := hc
    rw [et] at hc
    exact hcs c hc
/-- a name: a stem with a letter in it -/
def nmOf (a b : Str) (c : Nat) : Str := a ++ ch c ++ b
theorem nmOf_inj {a b : Str} {c d : Nat} (h : nmOf a b c = nmOf a b d) : c = d := by
  have e := congrArg tl h
  unfold nmOf at e
  rw [tl_append, tl_append, tl_append, tl_append, tl_ch, tl_ch, List.append_assoc, List.append_assoc] at e
  have := List.append_cancel_left e
  simpa using this
structure NsOk (ns : List Str) : Prop where
  nm : ∀ n ∈ ns, NmOk n
  nd : ns.Nodup
theorem erase_perm {α : Type} : ∀ {l : List α} {n : Nat} {x : α}, l[n]? = some x → (x :: l.eraseIdx n).Perm l
  | a :: l, 0, x, h => by simp at h; subst h; exact List.Perm.refl _
  | a :: l, n + 1, x, h => by
    have ih := erase_perm (l := l) (n := n) (x := x) (by simpa using h)
    show (x :: a :: l.eraseIdx n).Perm (a :: l)
    exact (List.Perm.swap a x _).trans (ih.cons a)
  | [], n, x, h => by simp at h
theorem map_erase {α β : Type} (f : α → β) : ∀ (l : List α) (n : Nat), (l.map f).eraseIdx n = (l.eraseIdx n).map f
  | [], n => by simp
  | a :: l, 0 => rfl
  | a :: l, n + 1 => by
    show f a :: (l.map f).eraseIdx n = f a :: (l.eraseIdx n).map f
    rw [map_erase f l n]
def eC (c : Nat) : D := .str (ch c)
theorem names_wp {b k : Nat} {δ : Dk} {P : D → Dk → Prop} (hD : DkOk b δ) (hb : b ≤ 1000000) (hk : k ≤ 20) (p : ∀ (ns : List Str) δ', ns.length = k → NsOk ns → DkOk (b + 40) δ' → P (.list (ns.map .str)) δ') : WK f_l_names [.int k] δ P := by
  have sb := sizeBig
  have al := az_len
  refine wk_fnK ?_
  unfold m_l_names
  rw [nx, ws_seq]
  walk_at "lx"
  refine ⟨⟨by decide, by decide⟩, ?_⟩
  have es : (PD.signs (Str.ofString "abcdefghijklmnopqrstuvwxyz")).map PyData.str = (tl az).map eC := by rw [signs_ch, List.map_map]; rfl
  rw [es, ws_seq]
  walk_at "lx"
  refine wa_rng ?_
  walk_at "lx"
  refine next_wp hD (by omega) (by decide) (by decide) fun r δ1 r0 r1 h1 => ?_
  refine ⟨r.toNat, by rw [Int.toNat_of_nonneg r0], by omega, rfl, ?_⟩
  have hrl : (rngL r.toNat).length = r.toNat := by simp [rngL]
  have lz : (tl az).length = 26 := by rw [← len_tl]; exact al
  refine wc_draw (fun j δ => DkOk (b + 1 + j) δ) (fun y => ∃ c, y = .str (ch c) ∧ c ∈ tl az) _ h1 (fun d hd j δ hj hI => ?_) (fun out δ2 ho hR hI => ?_)
  · rw [hrl] at hj
    walk_at "lx"
    refine next_wp hI (by omega) (by decide) (by decide) fun q δ3 q0 q1 h3 => ?_
    obtain ⟨x, e1, e2, hx⟩ := atI_in (xs := (tl az).map eC) q0 (by rw [List.length_map, lz]; exact q1)
    refine ⟨q, x, rfl, e1, ?_, h3⟩
    obtain ⟨c, hc, rfl⟩ := List.mem_map.mp hx
    exact ⟨c, rfl, hc⟩
  · rw [hrl] at ho hI
    obtain ⟨x, ex, xl, xc⟩ := word_join hR (by omega)
    refine ⟨by omega, .of ex ?_⟩
    rw [ws_seq]
    walk_at "lx"
    rw [w_lenS (by omega)]
    walk_at "lx"
    refine next_wp hI (by omega) (by omega) (by omega) fun a δ3 a0 a1 h3 => ?_
    refine wx_lc (wa_rng ?_)
    walk_at "lx"
    refine ⟨k, rfl, by omega, rfl, ?_⟩
    have hkl : (rngL k).length = k := by simp [rngL]
    have s1 : slD none (some a) (.str x) = some (.str (cutS x none (some a))) := by
      show (if x.length ≤ sizeLine then some (PyData.str (cutS x none (some a))) else none) = _
      rw [if_pos (by omega)]
    have s2 : slD (some a) none (.str x) = some (.str (cutS x (some a) none)) := by
      show (if x.length ≤ sizeLine then some (PyData.str (cutS x (some a) none)) else none) = _
      rw [if_pos (by omega)]
    have l12 : (cutS x none (some a)).length + (cutS x (some a) none).length = x.length := by
      obtain ⟨j, rfl⟩ := Int.eq_ofNat_of_zero_le a0
      rw [len_tl, len_tl]
      show ((x.cps.toList.drop _).take _).length + ((x.cps.toList.drop _).take _).length = _
      have e1 : HT.sIx x.length 0 none = 0 := rfl
      have e2 : HT.sIx x.length x.length (some (j : Int)) = min j x.length := HT.sIx_nat _ _ _
      have e3 : HT.sIx x.length 0 (some (j : Int)) = min j x.length := HT.sIx_nat _ _ _
      have e4 : HT.sIx x.length x.length none = x.length := rfl
      rw [e1, e2, e3, e4, List.length_take, List.length_take, List.length_drop, List.length_drop]
      have : x.cps.toList.length = x.length := (len_tl x).symm
      rw [this]
      omega
    have inx : ∀ {lo hi : Option Int} {q : Nat}, q ∈ tl (cutS x lo hi) → q ∈ tl az := fun hz => xc _ (List.mem_of_mem_drop (List.mem_of_mem_take hz))
    generalize hA : cutS x none (some a) = A at s1 l12
    generalize hB : cutS x (some a) none = B at s2 l12
    have inA : ∀ q ∈ tl A, q ∈ tl az := fun q hq => by rw [← hA] at hq; exact inx hq
    have inB : ∀ q ∈ tl B, q ∈ tl az := fun q hq => by rw [← hB] at hq; exact inx hq
    have step := compX_inv (g := gSet 4) (vs := [4]) (mx := xBinL addD (xBin addD (mSl (mVar 3) oNo (oSome (mVar 5))) (xPop 2 (mCallK 0 (fNext mixA) (mCons (mLenU 2) mNil)))) (mSl (mVar 3) (oSome (mVar 5)) oNo))
      (fun left out ρ δ => ∃ (used lf : List Nat), used.length + left.length = k ∧ (used ++ lf).Perm (tl az) ∧ out = (used.map (nmOf A B)).map .str ∧ ρ = [.deck, .val (.int k), .uni (lf.map eC), .val (.str x), .no, .val (.int a)] ∧ DkOk (b + 10 + used.length) δ)
      (fun d left out ρ δ hI => by
        obtain ⟨used, lf, hl, hp, rfl, rfl, hD4⟩ := hI
        rw [List.length_cons] at hl
        have hlen : used.length + lf.length = 26 := by rw [← List.length_append, hp.length_eq, lz]
        rw [wg_set]
        simp only [List.set_cons_zero, List.set_cons_succ]
        walk_at "lx"
        refine .of s1 ?_
        rw [List.length_map]
        refine next_wp hD4 (by omega) (by omega) (by omega) fun q δ5 q0 q1 h5 => ?_
        have hq : q.toNat < lf.length := by omega
        refine ⟨q, q.toNat, eC lf[q.toNat], rfl, by omega, ixN_in q0 q1, by rw [List.getElem?_map, List.getElem?_eq_getElem hq]; rfl, ?_⟩
        have el : (lf.map eC).eraseIdx q.toNat = (lf.eraseIdx q.toNat).map eC := map_erase ..
        simp only [el]
        have lc : (ch lf[q.toNat]).length = 1 := by rw [len_tl, tl_ch]; rfl
        refine .of (addD_str (by rw [lc]; omega)) ?_
        refine .of s2 ?_
        have l3 : (A ++ ch lf[q.toNat]).length = A.length + 1 := by rw [len_tl, tl_append, List.length_append, ← len_tl, ← len_tl, lc]
        refine .of (addD_str (by rw [l3]; omega)) ?_
        refine ⟨rfl, used ++ [lf[q.toNat]], lf.eraseIdx q.toNat, by simp; omega, ?_, ?_, rfl, h5.mono (by simp; omega)⟩
        · refine List.Perm.trans ?_ hp
          rw [List.append_assoc]
          exact List.Perm.append_left used (erase_perm (List.getElem?_eq_getElem hq))
        · rw [List.map_append, List.map_append]
          rfl)
      (rngL k) [] [.deck, .val (.int k), .uni ((tl az).map eC), .val (.str x), .no, .val (.int a)] δ3 ⟨[], tl az, by rw [hkl]; simp, List.Perm.refl _, rfl, rfl, h3.mono (by simp; omega)⟩
    obtain ⟨out2, ρe, δe, ec, used, lf, hl2, hp2, ho2, rfl, hDe⟩ := step
    rw [List.nil_append] at ho2
    subst ho2
    have hul : used.length = k := by simpa using hl2
    refine ⟨_, _, _, ec, ⟨by rw [List.length_map, List.length_map]; omega, rfl⟩, ?_⟩
    have und : used.Nodup := (List.nodup_append.mp (hp2.symm.nodup az_nd)).1
    have uin : ∀ c ∈ used, c ∈ tl az := fun c hc => hp2.mem_iff.mp (List.mem_append_left _ hc)
    refine p (used.map (nmOf A B)) δe (by rw [List.length_map]; exact hul) ⟨fun n hn => ?_, ?_⟩ (hDe.mono (by omega))
    · obtain ⟨c, hc, rfl⟩ := List.mem_map.mp hn
      refine ⟨?_, fun q hq => ?_⟩
      · unfold nmOf
        rw [len_tl, tl_append, tl_append, List.length_append, List.length_append, ← len_tl, ← len_tl, ← len_tl]
        have : (ch c).length = 1 := by rw [len_tl, tl_ch]; rfl
        omega
      · unfold nmOf at hq
        rw [tl_append, tl_append, tl_ch] at hq
        simp only [List.mem_append, List.mem_singleton] at hq
        rcases hq with (hq | hq) | hq
        · exact az_in _ (inA _ hq)
        · rw [hq]; exact az_in _ (uin _ hc)
        · exact az_in _ (inB _ hq)
    · exact List.Pairwise.map _ (fun c d hcd z => hcd (nmOf_inj z)) und
end DL

namespace DL
open PySem PySem.Spec PyProof.Rows L2 TL PD MT
local macro_rules | `(tactic| walk_at "lx") => `(tactic| simp only [wl_gen, wl_seq, wl_app, wl_at, wl_for, ws_hid, we_lenU, we_ixU, ws_setU, ws_asgX, ws_retX, ws_uniS, wx_binL, we_lcKeys, wx_pop, wx_bin, ws_asg, ws_ret, ws_if, ws_next, ws_uni, ws_app, ws_frz, ws_aug, ws_for, onNx_nx, onNx_rt, onNx_bk, onNx_ct, onRt_rt, onRt_nx, we_var, we_c, we_bin, we_un, we_call, we_callK, wa_nil, wa_cons, we_tup, we_lst, wo_no, wo_some, we_sl, wt_b, wt_tru, wt_and, wt_or, wt_not, we_if, we_and, we_or, we_chain, we_get2, wp_nil, wp_cons, we_disp, wa_items, we_lc, wg_set, wg_tup, wg_lst, w_eqS, w_neS, wgs_nil, wgs_cons, List.getElem?_cons_zero, List.getElem?_cons_succ, Option.some.injEq, Sl.val.injEq, Sl.uni.injEq, exists_eq_left', exists_eq_left, List.set_cons_zero, List.set_cons_succ, true_and, and_true, List.length_cons, List.length_nil, List.map_cons, List.map_nil, PyData.int.injEq, PyData.bool.injEq, PyData.tuple.injEq, PyData.list.injEq, PyData.str.injEq, w_add, w_sub, w_lt, w_le, w_gt, w_ge, w_eqI, w_neI, w_intB, itemsD, truD, slots, wipeR, List.cons_append, List.nil_append, Nat.reduceAdd, Nat.reduceSub, List.replicate_succ, List.replicate_zero, ↓reduceIte, Bool.false_eq_true, Bool.not_true, Bool.not_false, decide_true, decide_false, if_true, if_false])
theorem ix0T (a : D) (l : List D) : subD' (.tuple (a :: l)) (.int 0) = some a := by
  refine ix_tupl _ 0 ?_
  have : ixN (a :: l).length 0 = some 0 := by
    unfold ixN
    rw [if_pos (Int.le_refl 0), if_pos (by rw [List.length_cons]; omega)]
    rfl
  unfold atI
  rw [this]
  rfl
theorem er0 (r : Rw) : subD' (er r) (.int 0) = some (.str r.nm) := ix0T _ _
theorem row_wp {b : Nat} {δ : Dk} {nm : Str} {P : D → Dk → Prop} (hD : DkOk b δ) (hb : b ≤ 1000000) (p : ∀ (t : Fin 3) (n q : Fin 4) δ', DkOk (b + 3) δ' → P (er ⟨nm, t, n, q⟩) δ') : WK f_l_row [.str nm] δ P := by
  have sb := sizeBig
  have z0 : (0 : Nat) ≤ sizeLine := Nat.zero_le _
  have z1 : (1 : Nat) ≤ sizeLine := by omega
  have z2 : (2 : Nat) ≤ sizeLine := by omega
  have z3 : (3 : Nat) ≤ sizeLine := by omega
  have z4 : (4 : Nat) ≤ sizeLine := by omega
  refine wk_fnK ?_
  unfold m_l_row
  rw [nx, ws_seq]
  walk_at "lx"
  simp only [z0, z1, z2, z3, z4, true_and]
  refine next_wp hD (by omega) (by decide) (by decide) fun r δ1 r0 r1 h1 => ?_
  obtain ⟨i, rfl⟩ := Int.eq_ofNat_of_zero_le r0
  have hi : i < 4 := by omega
  have e1 : subD' (.list [PyData.tuple [], .tuple [.str (Str.ofString "go")], .tuple [.str (Str.ofString "go"), .tuple [.str (Str.ofString "say"), .str (Str.ofString "n")]], .tuple [.tuple [.str (Str.ofString "by"), .str (Str.ofString "n"), .tuple [.tuple [.str (Str.ofString "one"), .tuple [.str (Str.ofString "x")]], .tuple [.str (Str.ofString "many"), .tuple []]]]]]) (.int (i : Int)) = some (pcD ⟨i, hi⟩) := by
    have : i = 0 ∨ i = 1 ∨ i = 2 ∨ i = 3 := by omega
    rcases this with rfl | rfl | rfl | rfl <;> rfl
  refine .of e1 ?_
  refine next_wp h1 (by omega) (by decide) (by decide) fun r δ2 s0 s1 h2 => ?_
  obtain ⟨j, rfl⟩ := Int.eq_ofNat_of_zero_le s0
  have hj : j < 3 := by omega
  have e2 : subD' (.list [PyData.str (Str.ofString "en"), .str (Str.ofString "de"), .str (Str.ofString "fr")]) (.int (j : Int)) = some (.str (tgS ⟨j, hj⟩)) := by
    have : j = 0 ∨ j = 1 ∨ j = 2 := by omega
    rcases this with rfl | rfl | rfl <;> rfl
  refine .of e2 ?_
  refine next_wp h2 (by omega) (by decide) (by decide) fun r δ3 u0 u1 h3 => ?_
  obtain ⟨k, rfl⟩ := Int.eq_ofNat_of_zero_le u0
  have hk : k < 4 := by omega
  have e3 : subD' (.list [PyData.none, .int 0, .int 1, .int 12]) (.int (k : Int)) = some (nbD ⟨k, hk⟩) := by
    have : k = 0 ∨ k = 1 ∨ k = 2 ∨ k = 3 := by omega
    rcases this with rfl | rfl | rfl | rfl <;> rfl
  refine .of e3 ?_
  exact p ⟨j, hj⟩ ⟨k, hk⟩ ⟨i, hi⟩ δ3 h3
theorem sorted_eq {ns : List Str} (h : ns.length < 64) : sortedD [.list (ns.map .str)] = some (.list ((srt ns).map .str)) := by
  show ((strsD (ns.map .str)).bind fun xs => if xs.length < 64 then some (PyData.list ((srt xs).map .str)) else none) = _
  rw [strsD_map]
  exact if_pos h
theorem srt_ok {ns : List Str} (h : NsOk ns) : NsOk (srt ns) := ⟨fun n hn => h.nm n ((srt_perm ns).mem_iff.mp hn), (srt_perm ns).symm.nodup h.nd⟩
theorem srt_len (ns : List Str) : (srt ns).length = ns.length := (srt_perm ns).length_eq
theorem rs_ok {ns : List Str} (h : NsOk ns) (hl : ns.length = 8) {rs : List Rw} (hs : (rs.map (·.nm)).Sublist (srt ns)) : RsOk rs := by
  refine ⟨fun r hr => (srt_ok h).nm _ (hs.subset (List.mem_map.mpr ⟨r, hr, rfl⟩)), hs.nodup (srt_ok h).nd, ?_⟩
  have := hs.length_le
  rw [List.length_map, srt_len] at this
  omega
theorem list_wp {b : Nat} {δ : Dk} {ns : List Str} {P : D → Dk → Prop} (hD : DkOk b δ) (hb : b ≤ 100000) (hn : NsOk ns) (hl : ns.length = 8) (p : ∀ (rs : List Rw) δ', (rs.map (·.nm)).Sublist (srt ns) → DkOk (b + 40) δ' → P (TR rs) δ') : WK f_l_list [.list (ns.map .str)] δ P := by
  have sb := sizeBig
  refine wk_fnK ?_
  unfold m_l_list
  rw [nx]
  walk_at "lx"
  refine .of (sorted_eq (by omega)) ⟨_, rfl, rfl, ?_⟩
  have := wc_inv (g := gSet 2) (tt := mB (mBin gtD (mCallK 0 (fNext mixA) (mCons (mC (.int 3)) mNil)) (mC (.int 0)))) (te := mCallK 0 f_l_row (mCons (mVar 2) mNil)) (ρ := [.deck, .val (.list (ns.map .str)), .no]) (P := fun out δ => ∃ rs : List Rw, out = rs.map er ∧ (rs.map (·.nm)).Sublist (srt ns) ∧ DkOk (b + 40) δ)
    (fun left out δ => ∃ (done l : List Str) (rs : List Rw), done ++ l = srt ns ∧ left = l.map .str ∧ out = rs.map er ∧ (rs.map (·.nm)).Sublist done ∧ DkOk (b + 4 * done.length) δ) (fun d left out δ hI => by
      obtain ⟨done, l, rs, e1, e2, rfl, hs, hD2⟩ := hI
      match l, e2 with
      | w :: l, e2 =>
        rw [List.map_cons, List.cons.injEq] at e2
        obtain ⟨rfl, rfl⟩ := e2
        have hdl : done.length + (l.length + 1) = 8 := by
          have := congrArg List.length e1
          rw [srt_len, hl] at this
          simpa using this
        rw [wg_set]
        simp only [List.set_cons_zero, List.set_cons_succ]
        walk_at "lx"
        refine next_wp hD2 (by omega) (by decide) (by decide) fun r δ1 r0 r1 h1 => ?_
        walk_at "lx"
        by_cases hr : 0 < r
        · rw [decide_eq_true hr, if_pos rfl]
          refine row_wp h1 (by omega) fun t n q δ2 h2 => ?_
          refine ⟨done ++ [w], l, rs ++ [⟨w, t, n, q⟩], by rw [← e1]; simp, rfl, by rw [List.map_append]; rfl, ?_, h2.mono (by simp; omega)⟩
          rw [List.map_append]
          exact hs.append (List.Sublist.refl _)
        · rw [decide_eq_false hr, if_neg Bool.false_ne_true]
          exact ⟨done ++ [w], l, rs, by rw [← e1]; simp, rfl, rfl, hs.trans (List.sublist_append_left _ _), h1.mono (by simp; omega)⟩)
    (fun out δ hI => by
      obtain ⟨done, l, rs, e1, e2, rfl, hs, hD2⟩ := hI
      have : l = [] := by simpa using e2
      subst this
      rw [List.append_nil] at e1
      subst e1
      exact ⟨rs, rfl, hs, hD2.mono (by rw [srt_len, hl]; omega)⟩) ((srt ns).map .str) [] δ ⟨[], srt ns, [], rfl, rfl, rfl, List.Sublist.refl _, hD.mono (by simp)⟩
  obtain ⟨out, δ2, eo, rs, ers, hs, hD2⟩ := this
  rw [List.nil_append] at ers
  subst ers
  have hrl := (rs_ok hn hl hs).ln
  refine ⟨_, δ2, eo, by rw [List.length_map]; omega, .of (z := TR rs) rfl ?_⟩
  exact p rs δ2 hs hD2
theorem eqS_nm {a b : Str} (ha : NmOk a) (hb : NmOk b) : eqD (.str a) (.str b) = some (.bool (decide (a = b))) := eqD_str ha.ok hb.ok
theorem own_le {rs : List Rw} (h : (rs.map (·.nm)).Nodup) (x : Str) : (rs.filter fun r => decide (r.nm = x)).map (·.nm) = [] ∨ (rs.filter fun r => decide (r.nm = x)).map (·.nm) = [x] := by
  induction rs with
  | nil => exact .inl rfl
  | cons r rs ih =>
    rw [List.map_cons, List.nodup_cons] at h
    by_cases e : r.nm = x
    · refine .inr ?_
      rw [List.filter_cons, if_pos (decide_eq_true e), List.map_cons]
      have : rs.filter (fun r => decide (r.nm = x)) = [] := List.filter_eq_nil_iff.mpr fun q hq z => h.1 (by rw [e, ← of_decide_eq_true z]; exact List.mem_map.mpr ⟨q, hq, rfl⟩)
      rw [this, e]
      rfl
    · rw [List.filter_cons, if_neg (by simpa using e)]
      exact ih h.2
theorem neN (O : List Rw) (h : ∀ r ∈ O, NmOk r.nm) : neD (.list (O.map er)) (.list []) = some (.bool (!PyData.eqv (.list (O.map er)) (.list []))) := by
  refine neD_of (Sh.lst (k := 9) fun d hd => ?_) (Sh.lst (k := 9) fun d hd => by simp at hd) (by decide) (by decide)
  obtain ⟨r, hr, rfl⟩ := List.mem_map.mp hd
  exact sh_er (h r hr)
theorem turned_wp {b : Nat} {δ : Dk} {ns : List Str} {A : List Rw} {P : D → Dk → Prop} (hD : DkOk b δ) (hb : b ≤ 100000) (hn : NsOk ns) (hl : ns.length = 8) (hA : RsOk A) (p : ∀ (rs : List Rw) δ', (rs.map (·.nm)).Sublist (srt ns) → DkOk (b + 40) δ' → P (TR rs) δ') : WK f_l_turned [TR A, .list (ns.map .str)] δ P := by
  have sb := sizeBig
  refine wk_fnK ?_
  unfold m_l_turned
  rw [nx, ws_seq]
  walk_at "lx"
  refine ⟨by decide, ?_⟩
  rw [ws_seq]
  walk_at "lx"
  refine .of (sorted_eq (by omega)) ⟨_, rfl, ?_⟩
  refine ws_forI (fun left ρ δ => ∃ (done l : List Str) (rs : List Rw) (t4 t5 t7 : Sl), done ++ l = srt ns ∧ left = l.map .str ∧ (rs.map (·.nm)).Sublist done ∧ DkOk (b + 5 * done.length) δ ∧ ρ = [.deck, .val (TR A), .val (.list (ns.map .str)), .val (.list (rs.map er)), t4, t5, .no, t7]) (fun d left ρ δ hI => ?_) (fun ρ δ hI => ?_) _ _ _ ⟨[], srt ns, [], .no, .no, .no, rfl, rfl, List.Sublist.refl _, hD.mono (by simp), rfl⟩
  · obtain ⟨done, l, rs, t4, t5, t7, e1, e2, hs, hD2, rfl⟩ := hI
    match l, e2 with
    | w :: l, e2 =>
      rw [List.map_cons, List.cons.injEq] at e2
      obtain ⟨rfl, rfl⟩ := e2
      have hdl : done.length + (l.length + 1) = 8 := by
        have := congrArg List.length e1
        rw [srt_len, hl] at this
        simpa using this
      have hw : NmOk w := (srt_ok hn).nm w (by rw [← e1]; simp)
      have hrl : rs.length ≤ 8 := by have := hs.length_le; rw [List.length_map] at this; omega
      rw [wg_set]
      simp only [List.set_cons_zero, List.set_cons_succ]
      rw [ws_seq]
      walk_at "lx"
      refine ⟨A.map er, rfl, rfl, ?_⟩
      refine wc_filter er (fun r => decide (r.nm = w)) er A (fun r hr => ?_) ?_
      · rw [wg_set]
        simp only [List.set_cons_zero, List.set_cons_succ]
        walk_at "lx"
        refine .of (er0 r) (.of (eqS_nm (hA.nm r hr) hw) ?_)
        simp
      · have hol := own_le hA.nd w
        generalize hO : A.filter (fun r => decide (r.nm = w)) = O at hol ⊢
        have hO1 : O.length ≤ 1 := by
          rcases hol with h | h
          · have := congrArg List.length h; simp at this; rw [this]; decide
          · have := congrArg List.length h; simp at this; omega
        refine ⟨by rw [List.length_map]; omega, ?_⟩
        rw [ws_seq]
        walk_at "lx"
        refine next_wp hD2 (by omega) (by decide) (by decide) fun r δ1 r0 r1 h1 => ?_
        -- what is put behind
        have put : ∀ (O2 : List Rw) (δ3 : Dk) (ρ4 ρ7 : Sl), (O2.map (·.nm) = [] ∨ O2.map (·.nm) = [w]) → DkOk (b + 5 * done.length + 5) δ3 → ∃ (done' l' : List Str) (rs' : List Rw) (t4 t5 t7 : Sl), done' ++ l' = srt ns ∧ l.map PyData.str = l'.map .str ∧ (rs'.map (·.nm)).Sublist done' ∧ DkOk (b + 5 * done'.length) δ3 ∧ [Sl.deck, .val (TR A), .val (.list (ns.map .str)), .val (.list ((rs ++ O2).map er)), ρ4, .val (.list (O2.map er)), .no, ρ7] = [.deck, .val (TR A), .val (.list (ns.map .str)), .val (.list (rs'.map er)), t4, t5, .no, t7] := fun O2 δ3 ρ4 ρ7 h2 hD3 => by
          refine ⟨done ++ [w], l, rs ++ O2, _, _, _, by rw [← e1]; simp, rfl, ?_, hD3.mono (by simp; omega), rfl⟩
          rw [List.map_append]
          rcases h2 with h2 | h2
          · rw [h2, List.append_nil]; exact hs.trans (List.sublist_append_left _ _)
          · rw [h2]; exact hs.append (List.Sublist.refl _)
        have skip : ∀ (O2 : List Rw) (δ3 : Dk) (ρ4 ρ7 : Sl), DkOk (b + 5 * done.length + 5) δ3 → ∃ (done' l' : List Str) (rs' : List Rw) (t4 t5 t7 : Sl), done' ++ l' = srt ns ∧ l.map PyData.str = l'.map .str ∧ (rs'.map (·.nm)).Sublist done' ∧ DkOk (b + 5 * done'.length) δ3 ∧ [Sl.deck, .val (TR A), .val (.list (ns.map .str)), .val (.list (rs.map er)), ρ4, .val (.list (O2.map er)), .no, ρ7] = [.deck, .val (TR A), .val (.list (ns.map .str)), .val (.list (rs'.map er)), t4, t5, .no, t7] := fun O2 δ3 ρ4 ρ7 hD3 => by
          exact ⟨done ++ [w], l, rs, _, _, _, by rw [← e1]; simp, rfl, hs.trans (List.sublist_append_left _ _), hD3.mono (by simp; omega), rfl⟩
        have add : ∀ O2 : List Rw, O2.length ≤ 1 → addD (.list (rs.map er)) (.list (O2.map er)) = some (.list ((rs ++ O2).map er)) := fun O2 h2 => by
          rw [addD_lst (by rw [List.length_map, List.length_map]; omega), List.map_append]
        rw [ws_seq]
        walk_at "lx"
        have hrc : r = 0 ∨ r = 1 ∨ r = 2 ∨ r = 3 := by omega
        rcases hrc with rfl | rfl | rfl | rfl
        · simp only [decide_true, if_true]
          refine row_wp h1 (by omega) fun t n q δ2 h2 => ⟨by decide, ?_⟩
          rw [decide_eq_false (by decide), if_neg Bool.false_ne_true]
          refine ⟨Nat.zero_le _, .of (neN [⟨w, t, n, q⟩] fun r hr => by rw [List.mem_singleton.mp hr]; exact hw) ⟨_, rfl, ?_⟩⟩
          have fin := put [⟨w, t, n, q⟩] δ2 (.val (.str w)) (.val (.int 0)) (.inr rfl) (h2.mono (by omega))
          have ad := add [⟨w, t, n, q⟩] (Nat.le_refl _)
          split
          · rw [if_neg (by decide)]
            exact .of ad fin
          · exact .of ad fin
        · simp only [Int.reduceEq, decide_false, Bool.false_eq_true, if_false]
          rw [decide_eq_false (by decide), if_neg Bool.false_ne_true]
          refine ⟨Nat.zero_le _, .of (neN O fun r hr => hA.nm r (by rw [← hO] at hr; exact (List.mem_filter.mp hr).1)) ⟨_, rfl, ?_⟩⟩
          split
          · rw [if_pos (by decide)]
            refine next_wp h1 (by omega) (by decide) (by decide) fun q δ2 q0 q1 h2 => ?_
            walk_at "lx"
            split
            · exact .of (add O hO1) (put O δ2 _ _ hol (h2.mono (by omega)))
            · exact skip O δ2 _ _ (h2.mono (by omega))
          · exact skip O δ1 _ _ (h1.mono (by omega))
        · simp only [Int.reduceEq, decide_false, Bool.false_eq_true, if_false]
          rw [if_pos (by decide)]
          exact .of (add O hO1) (put O δ1 _ _ hol (h1.mono (by omega)))
        · simp only [Int.reduceEq, decide_false, Bool.false_eq_true, if_false]
          rw [if_pos (by decide)]
          exact .of (add O hO1) (put O δ1 _ _ hol (h1.mono (by omega)))
  · obtain ⟨done, l, rs, t4, t5, t7, e1, e2, hs, hD2, rfl⟩ := hI
    have : l = [] := by simpa using e2
    subst this
    rw [List.append_nil] at e1
    subst e1
    walk_at "lx"
    exact .of (z := TR rs) rfl (p rs δ hs (hD2.mono (by rw [srt_len, hl]; omega)))
end DL

namespace DL
open PySem PySem.Spec PyProof.Rows L2 TL PD MT
local macro_rules | `(tactic| walk_at "lx") => `(tactic| simp only [wl_gen, wl_seq, wl_app, wl_at, wl_for, ws_hid, we_lenU, we_ixU, ws_setU, ws_asgX, ws_retX, ws_uniS, wx_binL, we_lcKeys, wx_pop, wx_bin, ws_asg, ws_ret, ws_if, ws_next, ws_uni, ws_app, ws_frz, ws_aug, ws_for, onNx_nx, onNx_rt, onNx_bk, onNx_ct, onRt_rt, onRt_nx, we_var, we_c, we_bin, we_un, we_call, we_callK, wa_nil, wa_cons, we_tup, we_lst, wo_no, wo_some, we_sl, wt_b, wt_tru, wt_and, wt_or, wt_not, we_if, we_and, we_or, we_chain, we_get2, wp_nil, wp_cons, we_disp, wa_items, we_lc, wg_set, wg_tup, wg_lst, w_eqS, w_neS, wgs_nil, wgs_cons, List.getElem?_cons_zero, List.getElem?_cons_succ, Option.some.injEq, Sl.val.injEq, Sl.uni.injEq, exists_eq_left', exists_eq_left, List.set_cons_zero, List.set_cons_succ, true_and, and_true, List.length_cons, List.length_nil, List.map_cons, List.map_nil, PyData.int.injEq, PyData.bool.injEq, PyData.tuple.injEq, PyData.list.injEq, PyData.str.injEq, w_add, w_sub, w_lt, w_le, w_gt, w_ge, w_eqI, w_neI, w_intB, itemsD, truD, slots, wipeR, List.cons_append, List.nil_append, Nat.reduceAdd, Nat.reduceSub, List.replicate_succ, List.replicate_zero, ↓reduceIte, Bool.false_eq_true, Bool.not_true, Bool.not_false, decide_true, decide_false, if_true, if_false])
theorem compK_flat {α : Type} {g : MG} {mr : MP} {ρ : List Sl} (enc : α → D) (f : α → List (Key × D)) (δ : Dk) : ∀ xs : List α, (∀ x ∈ xs, ∃ ρ2, g (enc x) ρ = some ρ2 ∧ mr ρ2 δ = some (f x, δ)) → compK g mYes mr ρ (xs.map enc) δ = some (xs.flatMap f, δ)
  | [], _ => rfl
  | x :: xs, h => by
    obtain ⟨ρ2, e1, e2⟩ := h x (.head _)
    have ih := compK_flat enc f δ xs fun y hy => h y (.tail _ hy)
    show ((g (enc x) ρ).bind fun ρ2 => (mYes ρ2 δ).bind fun p => if p.1 = true then (mr ρ2 p.2).bind fun q => (compK g mYes mr ρ (xs.map enc) q.2).map fun r => (q.1 ++ r.1, r.2) else compK g mYes mr ρ (xs.map enc) p.2) = _
    rw [e1]
    show ((mr ρ2 δ).bind fun q => (compK g mYes mr ρ (xs.map enc) q.2).map fun r => (q.1 ++ r.1, r.2)) = _
    rw [e2]
    show ((compK g mYes mr ρ (xs.map enc) δ).map fun r => (f x ++ r.1, r.2)) = _
    rw [ih]
    rfl
theorem putAll_new : ∀ (out es : List (Key × D)), ((es ++ out).map (·.1)).Nodup → putAll es out = es ++ out
  | [], es, _ => (List.append_nil es).symm
  | e :: out, es, h => by
    have hk : hasK es e.1 = false := by
      unfold hasK
      rw [List.any_eq_false]
      intro x hx z
      have z := of_decide_eq_true z
      rw [List.map_append, List.map_cons] at h
      exact (List.nodup_append.mp h).2.2 x.1 (List.mem_map.mpr ⟨x, hx, rfl⟩) e.1 (.head _) z
    show putAll (putP es e.1 e.2) out = _
    unfold putP
    rw [if_neg (by rw [hk]; exact Bool.false_ne_true), putAll_new out _ (by simpa using h)]
    simp
def dR (rs : List Rw) : D := .dict (rs.map fun r => (.str r.nm, er r))
theorem by_name_eq {rs : List Rw} (h : RsOk rs) : f_rows_by_name [TR rs] = some (dR rs) := by
  have sb := sizeBig
  have hl := h.ln
  have e : ∀ δ : Dk, kFor (mItems (mVar 0)) [1] (gSet 1) mYes (kOne (mBin subD' (mVar 1) (mC (.int 0))) (mVar 1)) [.val (TR rs), .no] δ = some (rs.flatMap (fun r => [(Sum.inr r.nm, er r)]), δ) := fun δ =>
    compK_flat er (fun r => [(Sum.inr r.nm, er r)]) δ rs fun r hr => ⟨[.val (TR rs), .val (er r)], rfl, rfl⟩
  refine fnP_eq (ρ' := [.val (TR rs), .no]) (δ' := ⟨[], 0, [], none⟩) ⟨rfl, by decide⟩ (ret_eq ?_)
  show ((kFor _ _ _ _ _ [.val (TR rs), .no] _).bind fun q => if q.1.length ≤ sizeLine then some (PyData.dict ((putAll [] q.1).map fun e => (keyD e.1, e.2)), q.2) else none) = _
  rw [e, show rs.flatMap (fun r => [((Sum.inr r.nm : Key), er r)]) = rs.map fun r => (Sum.inr r.nm, er r) from (List.map_eq_flatMap ..).symm]
  refine (if_pos (by show (rs.map _).length ≤ sizeLine; rw [List.length_map]; omega)).trans ?_
  rw [putAll_new _ [] ?_, List.nil_append, List.map_map]
  · rfl
  · rw [List.nil_append, List.map_map]
    have := h.nd
    exact List.Pairwise.of_map (S := fun a b : Str => a ≠ b) (fun k => match k with | Sum.inr s => s | Sum.inl _ => (default : Str)) (fun a b hab z => hab (by rw [z])) (by rw [List.map_map]; exact this)
theorem look_dR (x : Str) : ∀ rs : List Rw, lookD (rs.map fun r => (PyData.str r.nm, er r)) (.str x) = (rs.find? fun r => decide (r.nm = x)).map er
  | [] => rfl
  | r :: rs => by
    rw [List.map_cons, List.find?_cons]
    show (if r.nm = x then some (er r) else lookD (rs.map fun r => (PyData.str r.nm, er r)) (.str x)) = _
    by_cases h : r.nm = x
    · rw [if_pos h, decide_eq_true h]; rfl
    · rw [if_neg h, decide_eq_false h]; exact look_dR x rs
theorem find_nm {x : Str} {rs : List Rw} : (rs.find? fun r => decide (r.nm = x)).isSome = decide (x ∈ rs.map (·.nm)) := by
  rw [Bool.eq_iff_iff, List.find?_isSome]
  simp
theorem uniq {rs : List Rw} (h : (rs.map (·.nm)).Nodup) {a b : Rw} (ha : a ∈ rs) (hb : b ∈ rs) (e : a.nm = b.nm) : a = b := by
  induction rs with
  | nil => simp at ha
  | cons r rs ih =>
    rw [List.map_cons, List.nodup_cons] at h
    rcases List.mem_cons.mp ha with rfl | ha
    · rcases List.mem_cons.mp hb with rfl | hb
      · rfl
      · exact absurd (List.mem_map.mpr ⟨b, hb, e.symm⟩) h.1
    · rcases List.mem_cons.mp hb with rfl | hb
      · exact absurd (List.mem_map.mpr ⟨a, ‹a ∈ rs›, e⟩) h.1
      · exact ih h.2 ha hb
def goneL (A B : List Rw) : List Rw := A.filter fun r => decide (r.nm ∉ B.map (·.nm))
def comeL (A B : List Rw) : List Rw := B.filter fun r => decide (r ∉ A)
def dlt (A B : List Rw) : D := .tuple [.tuple ((goneL A B).map fun r => .str r.nm), TR (comeL A B)]
theorem in_dR (x : Str) (rs : List Rw) : inDict true (.str x) (dR rs) = some (.bool (decide (x ∉ rs.map (·.nm)))) := by
  show some (PyData.bool (true ^^ (lookD (rs.map fun r => (PyData.str r.nm, er r)) (.str x)).isSome)) = _
  rw [look_dR, Option.isSome_map, find_nm, decide_not, Bool.true_xor]
theorem sub_dR {rs : List Rw} (h : RsOk rs) {x : Str} {q : Rw} (hq : q ∈ rs) (e : q.nm = x) : subD' (dR rs) (.str x) = some (er q) := by
  show lookD (rs.map fun r => (PyData.str r.nm, er r)) (.str x) = _
  rw [look_dR]
  cases hf : rs.find? fun r => decide (r.nm = x) with
  | none => exact absurd (decide_eq_true e) (List.find?_eq_none.mp hf q hq)
  | some p =>
    have h1 := List.find?_some hf
    have h2 := List.mem_of_find?_eq_some hf
    rw [uniq h.nd h2 hq ((of_decide_eq_true h1).trans e.symm)]
    rfl
theorem delta_eq {A B : List Rw} (hA : RsOk A) (hB : RsOk B) : f_delta [TR A, TR B] = some (dlt A B) := by
  have sb := sizeBig
  have la := hA.ln
  have lb := hB.ln
  have : W1 (f_delta [TR A, TR B]) fun z => z = dlt A B := by
    refine w1_fnP ?_
    unfold m_delta
    rw [ws_seq]
    walk_at "lx"
    refine .of (by_name_eq hA) (.of (by_name_eq hB) ⟨by decide, ?_⟩)
    rw [ws_seq]
    walk_at "lx"
    refine ⟨_, rfl, rfl, ?_⟩
    rw [List.map_map]
    refine wc_filter (fun r : Rw => PyData.str r.nm) (fun r => decide (r.nm ∉ B.map (·.nm))) (fun r : Rw => PyData.str r.nm) A (fun r hr => ?_) ?_
    · rw [wg_set]
      simp only [List.set_cons_zero, List.set_cons_succ]
      walk_at "lx"
      refine .of (in_dR r.nm B) ?_
      simp
    · have l1 : (A.filter fun r => decide (r.nm ∉ B.map (·.nm))).length ≤ A.length := List.length_filter_le ..
      refine ⟨by rw [List.length_map]; omega, ?_⟩
      rw [ws_seq]
      walk_at "lx"
      refine ⟨B.map er, rfl, rfl, ?_⟩
      refine wc_filter er (fun r => decide (r ∉ A)) er B (fun r hr => ?_) ?_
      · rw [wg_set]
        simp only [List.set_cons_zero, List.set_cons_succ]
        walk_at "lx"
        refine .of (er0 r) (.of (in_dR r.nm A) ⟨_, rfl, ?_⟩)
        by_cases hm : r.nm ∈ A.map (·.nm)
        · rw [if_neg (by simpa using hm)]
          obtain ⟨q, hq, eq⟩ := List.mem_map.mp hm
          refine .of (er0 r) (.of (sub_dR hA hq eq) (.of (ne_er (hA.nm q hq) (hB.nm r hr)) ⟨_, rfl, ?_, fun _ => trivial⟩))
          rw [← decide_not]
          refine decide_eq_decide.mpr ⟨fun h z => h (uniq hA.nd hq z eq), fun h z => h (z ▸ hq)⟩
        · rw [if_pos (by simpa using hm)]
          have hn : ¬ r ∈ A := fun z => hm (List.mem_map.mpr ⟨r, z, rfl⟩)
          exact ⟨(decide_eq_true hn).symm, fun _ => trivial⟩
      · have l2 : (B.filter fun r => decide (r ∉ A)).length ≤ B.length := List.length_filter_le ..
        refine ⟨by rw [List.length_map]; omega, ?_⟩
        exact .of rfl (.of rfl ⟨by omega, rfl⟩)
  obtain ⟨z, e, rfl⟩ := this
  exact e
end DL

namespace DL
open PySem PySem.Spec PyProof.Rows L2 TL PD MT
/-! ### lists as what they tell of each name -/
def look (rs : List Rw) (x : Str) : Option Rw := rs.find? fun r => decide (r.nm = x)
def nms (rs : List Rw) : List Str := rs.map (·.nm)
def putR (rs : List Rw) (r : Rw) : List Rw := if r.nm ∈ nms rs then rs.map (fun q => if q.nm = r.nm then r else q) else rs ++ [r]
def eD (rs : List Rw) : List (D × D) := rs.map fun r => (.str r.nm, er r)
theorem look_none {rs : List Rw} {x : Str} : look rs x = none ↔ x ∉ nms rs := by
  unfold look nms
  rw [List.find?_eq_none]
  simp
theorem look_some {rs : List Rw} (h : (nms rs).Nodup) {r : Rw} : look rs r.nm = some r ↔ r ∈ rs := by
  induction rs with
  | nil => simp [look]
  | cons q rs ih =>
    have hq : (nms (q :: rs)) = q.nm :: nms rs := rfl
    rw [hq, List.nodup_cons] at h
    unfold look at ih ⊢
    rw [List.find?_cons]
    by_cases e : q.nm = r.nm
    · rw [decide_eq_true e]
      constructor
      · intro z; cases z; exact .head _
      · intro z
        rcases List.mem_cons.mp z with z | z
        · rw [z]
        · exact absurd (List.mem_map.mpr ⟨r, z, e.symm⟩) h.1
    · rw [decide_eq_false e]
      refine (ih h.2).trans ⟨fun z => .tail _ z, fun z => (List.mem_cons.mp z).elim (fun y => absurd (by rw [y]) e) id⟩
theorem look_nm {rs : List Rw} {x : Str} {r : Rw} (h : look rs x = some r) : r.nm = x ∧ r ∈ rs := by
  have h1 := List.find?_some h
  exact ⟨of_decide_eq_true h1, List.mem_of_find?_eq_some h⟩
theorem look_mem {rs : List Rw} {x : Str} (h : x ∈ nms rs) : ∃ r, look rs x = some r ∧ r.nm = x ∧ r ∈ rs := by
  cases e : look rs x with
  | none => exact absurd h (look_none.mp e)
  | some r => exact ⟨r, rfl, look_nm e⟩
theorem look_drop (x y : Str) : ∀ rs : List Rw, look (rs.filter fun r => decide (r.nm ≠ x)) y = if y = x then none else look rs y
  | [] => by simp [look]
  | r :: rs => by
    have ih := look_drop x y rs
    unfold look at ih ⊢
    rw [List.filter_cons]
    by_cases e : r.nm = x
    · rw [if_neg (by simp [e]), ih]
      by_cases hy : y = x
      · rw [if_pos hy, if_pos hy]
      · rw [if_neg hy, if_neg hy, List.find?_cons, decide_eq_false (fun z => hy (z.symm.trans e))]
    · rw [if_pos (by simp [e]), List.find?_cons, List.find?_cons, ih]
      by_cases hy : y = x
      · rw [if_pos hy, if_pos hy, decide_eq_false (fun z => e (z.trans hy))]
      · rw [if_neg hy, if_neg hy]
theorem look_append (a b : List Rw) (y : Str) : look (a ++ b) y = (look a y).or (look b y) := List.find?_append
theorem look_rep (r : Rw) (y : Str) : ∀ rs : List Rw, look (rs.map fun q => if q.nm = r.nm then r else q) y = if y = r.nm then (if r.nm ∈ nms rs then some r else none) else look rs y
  | [] => by simp [look, nms]
  | q :: rs => by
    have ih := look_rep r y rs
    unfold look nms at ih ⊢
    rw [List.map_cons, List.find?_cons]
    by_cases e : q.nm = r.nm
    · rw [if_pos e]
      by_cases hy : y = r.nm
      · rw [decide_eq_true hy.symm, if_pos hy, if_pos (by rw [List.map_cons, e]; exact .head _)]
      · rw [decide_eq_false (fun z => hy z.symm), if_neg hy, ih, if_neg hy, List.find?_cons, decide_eq_false (fun z => hy (z.symm.trans e))]
    · rw [if_neg e]
      by_cases hy : y = r.nm
      · rw [decide_eq_false (fun z => e (z.trans hy)), if_pos hy, ih, if_pos hy, List.map_cons]
        show (if r.nm ∈ List.map (fun x => x.nm) rs then some r else none) = _
        by_cases hm : r.nm ∈ List.map (fun x => x.nm) rs
        · rw [if_pos hm, if_pos (.tail _ hm)]
        · rw [if_neg hm, if_neg (fun z => (List.mem_cons.mp z).elim (fun w => e w.symm) hm)]
      · rw [if_neg hy, List.find?_cons, ih, if_neg hy]
theorem look_put (rs : List Rw) (r : Rw) (y : Str) : look (putR rs r) y = if y = r.nm then some r else look rs y := by
  unfold putR
  split
  · rename_i h
    rw [look_rep]
    by_cases hy : y = r.nm
    · rw [if_pos hy, if_pos hy, if_pos h]
    · rw [if_neg hy, if_neg hy]
  · rename_i h
    rw [look_append]
    by_cases hy : y = r.nm
    · rw [if_pos hy, hy, look_none.mpr h]
      simp [look]
    · rw [if_neg hy]
      have : look [r] y = none := look_none.mpr (by simp [nms]; exact fun z => hy z)
      rw [this]
      simp
theorem nms_put (rs : List Rw) (r : Rw) : nms (putR rs r) = if r.nm ∈ nms rs then nms rs else nms rs ++ [r.nm] := by
  unfold putR
  split
  · unfold nms
    rw [List.map_map]
    refine List.map_congr_left fun q _ => ?_
    show (if q.nm = r.nm then r else q).nm = q.nm
    split
    · rename_i h; exact h.symm
    · rfl
  · unfold nms; simp
theorem nd_put {rs : List Rw} (h : (nms rs).Nodup) (r : Rw) : (nms (putR rs r)).Nodup := by
  rw [nms_put]
  split
  · exact h
  · rename_i hn
    exact List.nodup_append.mpr ⟨h, by simp, fun a ha b hb z => by simp at hb; rw [← hb, ← z] at hn; exact hn ha⟩
def mergeR (rs cs : List Rw) : List Rw := cs.foldl putR rs
theorem nd_merge : ∀ (cs : List Rw) {rs : List Rw}, (nms rs).Nodup → (nms (mergeR rs cs)).Nodup
  | [], _, h => h
  | c :: cs, _, h => nd_merge cs (nd_put h c)
theorem look_merge (y : Str) : ∀ (cs rs : List Rw), (nms cs).Nodup → look (mergeR rs cs) y = (look cs y).or (look rs y)
  | [], rs, _ => by simp [mergeR, look]
  | c :: cs, rs, h => by
    have hq : nms (c :: cs) = c.nm :: nms cs := rfl
    rw [hq, List.nodup_cons] at h
    show look (mergeR (putR rs c) cs) y = _
    rw [look_merge y cs _ h.2, look_put]
    by_cases hy : y = c.nm
    · rw [if_pos hy, hy, look_none.mpr h.1]
      simp [look]
    · rw [if_neg hy]
      have : look (c :: cs) y = look cs y := by
        unfold look
        rw [List.find?_cons, decide_eq_false (fun z => hy z.symm)]
      rw [this]
/-! ### the dict's pairs -/
theorem keyIs_nm (a x : Str) : keyIs (.str a) (.inr x) = decide (a = x) := rfl
theorem drop_eD (rs : List Rw) (x : Str) : dropE (eD rs) (.inr x) = eD (rs.filter fun r => decide (r.nm ≠ x)) := by
  unfold dropE eD
  rw [List.filter_map]
  congr 1
  refine List.filter_congr fun r _ => ?_
  show (!keyIs (.str r.nm) (.inr x)) = _
  rw [keyIs_nm, decide_not]
theorem put_eD (rs : List Rw) (r : Rw) : putE (eD rs) (.inr r.nm) (er r) = eD (putR rs r) := by
  unfold putE putR
  have hh : hasE (eD rs) (.inr r.nm) = decide (r.nm ∈ nms rs) := by
    unfold hasE eD nms
    rw [List.any_map, Bool.eq_iff_iff, List.any_eq_true, decide_eq_true_eq, List.mem_map]
    refine ⟨fun ⟨q, hq, e⟩ => ⟨q, hq, of_decide_eq_true e⟩, fun ⟨q, hq, e⟩ => ⟨q, hq, decide_eq_true e⟩⟩
  rw [hh]
  by_cases h : r.nm ∈ nms rs
  · rw [if_pos (decide_eq_true h), if_pos h]
    unfold eD
    rw [List.map_map, List.map_map]
    refine List.map_congr_left fun q _ => ?_
    show (if keyIs (.str q.nm) (.inr r.nm) = true then (PyData.str q.nm, er r) else (.str q.nm, er q)) = (.str (if q.nm = r.nm then r else q).nm, er (if q.nm = r.nm then r else q))
    rw [keyIs_nm]
    by_cases e : q.nm = r.nm
    · rw [if_pos (decide_eq_true e), if_pos e, e]
    · rw [if_neg (by simp [e]), if_neg e]
  · rw [if_neg (by simp [h]), if_neg h]
    unfold eD
    rw [List.map_append]
    rfl
theorem merge_eD : ∀ (cs rs : List Rw), mergeE (eD rs) (eD cs) = eD (mergeR rs cs)
  | [], rs => rfl
  | c :: cs, rs => by
    show mergeE (putE (eD rs) (.inr c.nm) (er c)) (eD cs) = eD (mergeR (putR rs c) cs)
    rw [put_eD]
    exact merge_eD cs _
theorem look_eD (x : Str) : ∀ rs : List Rw, lookD (eD rs) (.str x) = (look rs x).map er
  | [] => rfl
  | r :: rs => by
    have ih := look_eD x rs
    unfold eD look at ih ⊢
    rw [List.map_cons, List.find?_cons]
    show (if r.nm = x then some (er r) else lookD (rs.map fun r => (PyData.str r.nm, er r)) (.str x)) = _
    by_cases h : r.nm = x
    · rw [if_pos h, decide_eq_true h]; rfl
    · rw [if_neg h, decide_eq_false h]; exact ih
theorem keys_eD (rs : List Rw) : keysS (eD rs) = some (nms rs) := by
  unfold keysS eD nms
  rw [List.map_map]
  have : (rs.map ((fun e : D × D => e.1) ∘ fun r => (PyData.str r.nm, er r))) = (rs.map (·.nm)).map .str := by rw [List.map_map]; rfl
  rw [this, strsD_map]
end DL

namespace NC
open PySem PySem.Spec PyProof.Rows L2 TL PD MT DL
/-! ### plain data: whole numbers, plain texts, tuples; what it looks like tells it -/
def plain (c : Nat) : Bool := decide (32 ≤ c ∧ c < 127 ∧ c ≠ 39 ∧ c ≠ 92)
mutual
def nice : D → Bool
  | .str x => (tl x).all plain
  | .int i => decide (0 ≤ i ∧ i < 10000000000000)
  | .tuple ds => niceAll ds
  | .none => true
  | _ => false
def niceAll : List D → Bool
  | [] => true
  | d :: ds => nice d && niceAll ds
end
theorem ni {i : Int} (h : nice (.int i) = true) : 0 ≤ i := (of_decide_eq_true (p := 0 ≤ i ∧ i < 10000000000000) (by simpa only [nice] using h)).1
def code (d : D) : List Nat := tl d.shown
def tails : List D → List Nat
  | [] => [41]
  | d :: r => 44 :: 32 :: (code d ++ tails r)
def body : List D → List Nat
  | [] => [41]
  | [d] => code d ++ [44, 41]
  | d :: e :: r => code d ++ tails (e :: r)
theorem reprChar_plain : ∀ c, c < 127 → plain c = true → Builtin.Str.reprChar 39 c = [c] := by decide +kernel
theorem fold_plain : ∀ (l : List Nat) (acc : Array Nat), (∀ c ∈ l, plain c = true) → l.foldl (fun out c => out ++ (Builtin.Str.reprChar 39 c).toArray) acc = acc ++ l.toArray
  | [], acc, _ => by simp
  | c :: l, acc, h => by
    have hc := h c (.head _)
    have hc' := of_decide_eq_true (p := 32 ≤ c ∧ c < 127 ∧ c ≠ 39 ∧ c ≠ 92) hc
    rw [List.foldl_cons, reprChar_plain c hc'.2.1 hc, fold_plain l _ fun d hd => h d (.tail _ hd)]
    simp
theorem plain_ne {x : Str} (h : (tl x).all plain = true) : 39 ∉ tl x := fun z => by
  have := List.all_eq_true.mp h 39 z
  revert this
  decide
theorem code_str {x : Str} (h : (tl x).all plain = true) : code (.str x) = 39 :: (tl x ++ [39]) := by
  have hq : reprQuote x = 39 := by
    unfold reprQuote
    rw [if_neg ?_]
    intro z
    simp only [Bool.and_eq_true, Array.contains_eq_mem, decide_eq_true_eq] at z
    exact plain_ne h (by unfold tl; exact Array.mem_toList_iff.mpr z.1)
  show tl (PyData.shown (.str x)) = _
  simp only [PyData.shown]
  unfold reprText
  rw [hq]
  show ((x.cps.foldl (fun out c => out ++ (Builtin.Str.reprChar 39 c).toArray) #[39]).push 39).toList = _
  rw [← Array.foldl_toList, fold_plain _ _ fun c hc => List.all_eq_true.mp h c hc]
  simp [tl]
def dig (c : Nat) : Prop := 48 ≤ c ∧ c ≤ 57
theorem code_int (n : Nat) : code (.int (n : Int)) = (Nat.toDigits 10 n).map (·.toNat) := by
  show (PyData.shown (.int (n : Int))).cps.toList = _
  simp only [PyData.shown]
  rw [Str.ofString_eq_toList]
  show (toString (n : Int)).toList.map Char.toNat = _
  congr 1
  show (Nat.repr n).toList = _
  rw [Nat.repr_eq_ofList_toDigits]
  exact String.toList_ofList ..
theorem code_dig (n : Nat) : ∀ c ∈ code (.int (n : Int)), dig c := by
  rw [code_int]
  intro c hc
  obtain ⟨ch, h, rfl⟩ := List.mem_map.mp hc
  have := Nat.isDigit_of_mem_toDigits (by decide) (by decide) h
  unfold Char.isDigit at this
  simp only [Bool.and_eq_true, decide_eq_true_eq] at this
  exact ⟨this.1, this.2⟩
theorem code_inj {n m : Nat} (h : code (.int (n : Int)) = code (.int (m : Int))) : n = m := by
  rw [code_int, code_int] at h
  have e : Nat.toDigits 10 n = Nat.toDigits 10 m := by
    refine (List.map_inj_right fun a b hab => ?_).mp h
    exact Char.toNat_inj.mp hab
  have := congrArg (fun l => Nat.ofDigitChars 10 l 0) e
  simpa using this
theorem code_ne (n : Nat) : code (.int (n : Int)) ≠ [] := by
  rw [code_int]
  intro z
  exact Nat.toDigits_ne_nil (List.map_eq_nil_iff.mp z)
/-- what may follow -/
def Cl (u : List Nat) : Prop := ∀ c r, u = c :: r → ¬ dig c
theorem cl_nil : Cl [] := fun c r h => nomatch h
theorem cl_cons {c : Nat} {r : List Nat} (h : c < 48) : Cl (c :: r) := fun d q e z => by
  cases e
  exact absurd z.1 (by omega)
theorem cl_tails (ds : List D) (u : List Nat) : Cl (tails ds ++ u) := by
  cases ds with
  | nil => exact cl_cons (by decide)
  | cons d r => exact cl_cons (by decide)
theorem dig_cancel : ∀ {a b u v : List Nat}, (∀ c ∈ a, dig c) → (∀ c ∈ b, dig c) → Cl u → Cl v → a ++ u = b ++ v → a = b ∧ u = v
  | [], [], u, v, _, _, _, _, h => ⟨rfl, h⟩
  | [], d :: b, u, v, _, hb, hu, _, h => absurd (hb d (.head _)) (hu d _ h)
  | c :: a, [], u, v, ha, _, _, hv, h => absurd (ha c (.head _)) (hv c _ h.symm)
  | c :: a, d :: b, u, v, ha, hb, hu, hv, h => by
    simp only [List.cons_append, List.cons.injEq] at h
    obtain ⟨rfl, h⟩ := h
    obtain ⟨rfl, rfl⟩ := dig_cancel (fun x hx => ha x (.tail _ hx)) (fun x hx => hb x (.tail _ hx)) hu hv h
    exact ⟨rfl, rfl⟩
theorem joinL_tails : ∀ (e : D) (r : List D), 44 :: 32 :: (joinL [44, 32] ((PyData.shownAll (e :: r)).map tl) ++ [41]) = tails (e :: r)
  | e, [] => by simp [PyData.shownAll, joinL, tails, code]
  | e, f :: r => by
    have ih := joinL_tails f r
    simp only [PyData.shownAll, List.map_cons] at ih ⊢
    rw [joinL, tails, ← ih]
    simp [code]
theorem shownAll_len : ∀ ds : List D, (PyData.shownAll ds).length = ds.length
  | [] => rfl
  | d :: ds => by simp [PyData.shownAll, shownAll_len ds]
theorem code_tup (ds : List D) : code (.tuple ds) = 40 :: body ds := by
  show tl (PyData.shown (.tuple ds)) = _
  simp only [PyData.shown]
  unfold tupleText
  rw [tl_append, tl_append, tl_join]
  have e1 : tl ("(" : Str) = [40] := by decide +kernel
  have e3 : tl (", " : Str) = [44, 32] := by decide +kernel
  have e4 : tl (")" : Str) = [41] := by decide +kernel
  have e5 : tl (",)" : Str) = [44, 41] := by decide +kernel
  rw [e1, e3]
  match ds with
  | [] =>
    show [40] ++ [] ++ tl (Str.ofString ")") = _
    rw [e4]; rfl
  | [d] =>
    show [40] ++ tl d.shown ++ tl (Str.ofString ",)") = _
    rw [e5]; simp [body, code]
  | d :: e :: r =>
    have ej := joinL_tails e r
    have e2 : tl ((if (PyData.shownAll (d :: e :: r)).length == 1 then ",)" else ")" : String) : Str) = [41] := by
      rw [shownAll_len]
      exact e4
    rw [e2]
    show [40] ++ joinL [44, 32] (tl d.shown :: (PyData.shownAll (e :: r)).map tl) ++ [41] = 40 :: (code d ++ tails (e :: r))
    rw [← ej]
    simp [PyData.shownAll, joinL, code]
theorem code_none : code .none = [78, 111, 110, 101] := by decide +kernel
theorem code_head : ∀ {d : D}, nice d = true → ∃ c r, code d = c :: r ∧ c ≠ 41 ∧ c ≠ 44
  | .str x, h => by
    rw [code_str (by simpa only [nice] using h)]
    exact ⟨_, _, rfl, by decide, by decide⟩
  | .int i, h => by
    obtain ⟨n, rfl⟩ := Int.eq_ofNat_of_zero_le (ni h)
    have h1 := code_ne n
    have h2 := code_dig n
    cases hc : code (.int (n : Int)) with
    | nil => exact absurd hc h1
    | cons c r =>
      have := h2 c (by rw [hc]; exact .head _)
      exact ⟨c, r, rfl, by intro z; subst z; exact absurd this.1 (by decide), by intro z; subst z; exact absurd this.1 (by decide)⟩
  | .tuple ds, h => by
    rw [code_tup]
    exact ⟨_, _, rfl, by decide, by decide⟩
  | .none, h => ⟨_, _, code_none, by decide, by decide⟩
  | .bool _, h => by simp [nice] at h
  | .list _, h => by simp [nice] at h
  | .dict _, h => by simp [nice] at h
theorem int_head (n : Nat) (u : List Nat) : ∃ c r, code (.int (n : Int)) ++ u = c :: r ∧ dig c := by
  cases hc : code (.int (n : Int)) with
  | nil => exact absurd hc (code_ne n)
  | cons c r => exact ⟨c, r ++ u, rfl, code_dig n c (by rw [hc]; exact .head _)⟩
mutual
theorem inj : ∀ (a b : D) {u v : List Nat}, nice a = true → nice b = true → Cl u → Cl v → code a ++ u = code b ++ v → a = b ∧ u = v
  | .str x, b, u, v, ha, hb, hu, hv, h => by
    have hx : (tl x).all plain = true := by simpa only [nice] using ha
    match b, hb, h with
    | .str y, hb, h =>
      have hy : (tl y).all plain = true := by simpa only [nice] using hb
      rw [code_str hx, code_str hy] at h
      simp only [List.cons_append, List.append_assoc, List.cons.injEq, true_and, List.nil_append] at h
      obtain ⟨e1, e2⟩ := mark_cancel (plain_ne hx) (plain_ne hy) h
      exact ⟨by rw [ext_tl e1], e2⟩
    | .int j, hb, h =>
      obtain ⟨m, rfl⟩ := Int.eq_ofNat_of_zero_le (ni hb)
      obtain ⟨c, r, e, hc⟩ := int_head m v
      rw [e, code_str hx] at h
      simp only [List.cons_append, List.cons.injEq] at h
      rw [← h.1] at hc
      exact absurd hc.1 (by decide)
    | .tuple bs, hb, h =>
      rw [code_str hx, code_tup] at h
      simp at h
    | .none, hb, h =>
      rw [code_str hx, code_none] at h
      simp at h
    | .bool _, hb, h => simp [nice] at hb
    | .list _, hb, h => simp [nice] at hb
    | .dict _, hb, h => simp [nice] at hb
  | .int i, b, u, v, ha, hb, hu, hv, h => by
    obtain ⟨n, rfl⟩ := Int.eq_ofNat_of_zero_le (ni ha)
    match b, hb, h with
    | .str y, hb, h =>
      obtain ⟨c, r, e, hc⟩ := int_head n u
      rw [e, code_str (by simpa only [nice] using hb)] at h
      simp only [List.cons_append, List.cons.injEq] at h
      rw [h.1] at hc
      exact absurd hc.1 (by decide)
    | .int j, hb, h =>
      obtain ⟨m, rfl⟩ := Int.eq_ofNat_of_zero_le (ni hb)
      obtain ⟨e1, e2⟩ := dig_cancel (code_dig n) (code_dig m) hu hv h
      exact ⟨by rw [code_inj e1], e2⟩
    | .tuple bs, hb, h =>
      obtain ⟨c, r, e, hc⟩ := int_head n u
      rw [e, code_tup] at h
      simp only [List.cons_append, List.cons.injEq] at h
      rw [h.1] at hc
      exact absurd hc.1 (by decide)
    | .none, hb, h =>
      obtain ⟨c, r, e, hc⟩ := int_head n u
      rw [e, code_none] at h
      simp only [List.cons_append, List.cons.injEq] at h
      rw [h.1] at hc
      exact absurd hc.2 (by decide)
    | .bool _, hb, h => simp [nice] at hb
    | .list _, hb, h => simp [nice] at hb
    | .dict _, hb, h => simp [nice] at hb
  | .tuple as, b, u, v, ha, hb, hu, hv, h => by
    have ha' : niceAll as = true := by simpa only [nice] using ha
    match b, hb, h with
    | .str y, hb, h =>
      rw [code_tup, code_str (by simpa only [nice] using hb)] at h
      simp at h
    | .int j, hb, h =>
      obtain ⟨m, rfl⟩ := Int.eq_ofNat_of_zero_le (ni hb)
      obtain ⟨c, r, e, hc⟩ := int_head m v
      rw [e, code_tup] at h
      simp only [List.cons_append, List.cons.injEq] at h
      rw [← h.1] at hc
      exact absurd hc.1 (by decide)
    | .tuple bs, hb, h =>
      have hb' : niceAll bs = true := by simpa only [nice] using hb
      rw [code_tup, code_tup] at h
      simp only [List.cons_append, List.cons.injEq, true_and] at h
      have q := bodies as bs ha' hb' hu hv h
      exact ⟨by rw [q.1], q.2⟩
    | .none, hb, h =>
      rw [code_tup, code_none] at h
      simp at h
    | .bool _, hb, h => simp [nice] at hb
    | .list _, hb, h => simp [nice] at hb
    | .dict _, hb, h => simp [nice] at hb
  | .none, b, u, v, ha, hb, hu, hv, h => by
    match b, hb, h with
    | .str y, hb, h =>
      rw [code_none, code_str (by simpa only [nice] using hb)] at h
      simp at h
    | .int j, hb, h =>
      obtain ⟨m, rfl⟩ := Int.eq_ofNat_of_zero_le (ni hb)
      obtain ⟨c, r, e, hc⟩ := int_head m v
      rw [e, code_none] at h
      simp only [List.cons_append, List.cons.injEq] at h
      rw [← h.1] at hc
      exact absurd hc.2 (by decide)
    | .tuple bs, hb, h =>
      rw [code_none, code_tup] at h
      simp at h
    | .none, hb, h => exact ⟨rfl, List.append_cancel_left h⟩
    | .bool _, hb, h => simp [nice] at hb
    | .list _, hb, h => simp [nice] at hb
    | .dict _, hb, h => simp [nice] at hb
  | .bool _, b, u, v, ha, hb, hu, hv, h => by simp [nice] at ha
  | .list _, b, u, v, ha, hb, hu, hv, h => by simp [nice] at ha
  | .dict _, b, u, v, ha, hb, hu, hv, h => by simp [nice] at ha
theorem bodies : ∀ (as bs : List D) {u v : List Nat}, niceAll as = true → niceAll bs = true → Cl u → Cl v → body as ++ u = body bs ++ v → as = bs ∧ u = v
  | [], [], u, v, _, _, _, _, h => by
    simp only [body, List.cons_append, List.nil_append, List.cons.injEq, true_and] at h
    exact ⟨rfl, h⟩
  | [], b :: bs, u, v, _, hb, _, _, h => by
    simp only [niceAll, Bool.and_eq_true] at hb
    obtain ⟨c, r, e, c1, _⟩ := code_head hb.1
    cases bs with
    | nil =>
      simp only [body, e, List.cons_append, List.cons.injEq] at h
      exact absurd h.1.symm c1
    | cons b2 bs =>
      simp only [body, e, List.cons_append, List.cons.injEq] at h
      exact absurd h.1.symm c1
  | a :: as, [], u, v, ha, _, _, _, h => by
    simp only [niceAll, Bool.and_eq_true] at ha
    obtain ⟨c, r, e, c1, _⟩ := code_head ha.1
    cases as with
    | nil =>
      simp only [body, e, List.cons_append, List.cons.injEq] at h
      exact absurd h.1 c1
    | cons a2 as =>
      simp only [body, e, List.cons_append, List.cons.injEq] at h
      exact absurd h.1 c1
  | [a], [b], u, v, ha, hb, hu, hv, h => by
    simp only [niceAll, Bool.and_eq_true] at ha hb
    simp only [body, List.append_assoc] at h
    have q := inj a b ha.1 hb.1 (cl_cons (by decide)) (cl_cons (by decide)) h
    exact ⟨by rw [q.1], List.append_cancel_left (as := [44, 41]) q.2⟩
  | [a], b :: b2 :: bs, u, v, ha, hb, hu, hv, h => by
    simp only [niceAll, Bool.and_eq_true] at ha hb
    simp only [body, List.append_assoc] at h
    have q := inj a b ha.1 hb.1 (cl_cons (by decide)) (cl_tails _ _) h
    have e := q.2
    simp [tails] at e
  | a :: a2 :: as, [b], u, v, ha, hb, hu, hv, h => by
    simp only [niceAll, Bool.and_eq_true] at ha hb
    simp only [body, List.append_assoc] at h
    have q := inj a b ha.1 hb.1 (cl_tails _ _) (cl_cons (by decide)) h
    have e := q.2
    simp [tails] at e
  | a :: a2 :: as, b :: b2 :: bs, u, v, ha, hb, hu, hv, h => by
    rw [niceAll, Bool.and_eq_true] at ha hb
    simp only [body, List.append_assoc] at h
    have q := inj a b ha.1 hb.1 (cl_tails _ _) (cl_tails _ _) h
    have e := injs (a2 :: as) (b2 :: bs) ha.2 hb.2 q.2
    exact ⟨by rw [q.1, e.1], e.2⟩
theorem injs : ∀ (as bs : List D) {u v : List Nat}, niceAll as = true → niceAll bs = true → tails as ++ u = tails bs ++ v → as = bs ∧ u = v
  | [], [], u, v, _, _, h => by
    simp only [tails, List.cons_append, List.nil_append, List.cons.injEq, true_and] at h
    exact ⟨rfl, h⟩
  | [], b :: bs, u, v, _, hb, h => by simp [tails] at h
  | a :: as, [], u, v, ha, _, h => by simp [tails] at h
  | a :: as, b :: bs, u, v, ha, hb, h => by
    simp only [niceAll, Bool.and_eq_true] at ha hb
    simp only [tails, List.cons_append, List.append_assoc, List.cons.injEq, true_and] at h
    have q := inj a b ha.1 hb.1 (cl_tails _ _) (cl_tails _ _) h
    have e := injs as bs ha.2 hb.2 q.2
    exact ⟨by rw [q.1, e.1], e.2⟩
end
mutual
theorem eqv_nice : ∀ (a b : D), nice a = true → nice b = true → (PyData.eqv a b = true ↔ a = b)
  | .str x, b, ha, hb => by cases b <;> simp_all [PyData.eqv, nice]
  | .int x, b, ha, hb => by cases b <;> simp_all [PyData.eqv, nice]
  | .tuple as, b, ha, hb => by
    match b, hb with
    | .tuple bs, hb =>
      have := eqvs_nice as bs (by simpa only [nice] using ha) (by simpa only [nice] using hb)
      simp only [PyData.eqv, PyData.tuple.injEq]
      exact this
    | .str _, hb => simp [PyData.eqv]
    | .int _, hb => simp [PyData.eqv]
    | .none, hb => simp [PyData.eqv]
    | .bool _, hb => simp [nice] at hb
    | .list _, hb => simp [nice] at hb
    | .dict _, hb => simp [nice] at hb
  | .none, b, ha, hb => by cases b <;> simp_all [PyData.eqv, nice]
  | .bool _, b, ha, hb => by simp [nice] at ha
  | .list _, b, ha, hb => by simp [nice] at ha
  | .dict _, b, ha, hb => by simp [nice] at ha
theorem eqvs_nice : ∀ (as bs : List D), niceAll as = true → niceAll bs = true → (PyData.eqvAll as bs = true ↔ as = bs)
  | [], [], _, _ => by simp [PyData.eqvAll]
  | [], b :: bs, _, _ => by simp [PyData.eqvAll]
  | a :: as, [], _, _ => by simp [PyData.eqvAll]
  | a :: as, b :: bs, ha, hb => by
    simp only [niceAll, Bool.and_eq_true] at ha hb
    have h1 := eqv_nice a b ha.1 hb.1
    have h2 := eqvs_nice as bs ha.2 hb.2
    simp only [PyData.eqvAll, Bool.and_eq_true, List.cons.injEq, h1, h2]
end
/-- plain data: alike where it looks alike -/
theorem shown_eqv {a b : D} (ha : nice a = true) (hb : nice b = true) : decide (a.shown = b.shown) = PyData.eqv a b := by
  rw [Bool.eq_iff_iff, decide_eq_true_eq, eqv_nice a b ha hb]
  refine ⟨fun h => ?_, fun h => by rw [h]⟩
  exact (inj a b (u := []) (v := []) ha hb cl_nil cl_nil (by unfold code; rw [h])).1
end NC

namespace NC
open PySem PySem.Spec PyProof.Rows L2 TL PD MT DL
structure Nc (m k : Nat) (d : D) : Prop where
  sw : Sw m k d
  sh : Sh m d
  nc : nice d = true
theorem niceAll_of : ∀ {ds : List D}, (∀ d ∈ ds, nice d = true) → niceAll ds = true
  | [], _ => by simp [niceAll]
  | d :: ds, h => by simp [niceAll, h d (.head _), niceAll_of fun x hx => h x (.tail _ hx)]
theorem Nc.tup {m k : Nat} {ds : List D} (h : ∀ d ∈ ds, Nc m k d) : Nc (m + 1) ((k + 2) * ds.length + 3) (.tuple ds) :=
  ⟨Sw.tup fun d hd => (h d hd).sw, Sh.tup fun d hd => (h d hd).sh, by simp only [nice]; exact niceAll_of fun d hd => (h d hd).nc⟩
theorem Nc.mono {m k m' k' : Nat} {d : D} (h : Nc m k d) (hm : m ≤ m') (hk : k ≤ k') : Nc m' k' d := ⟨h.sw.mono hm hk, h.sh.mono hm, h.nc⟩
theorem plain_ok {x : Str} (h : (tl x).all plain = true) : PyData.strOk x = true := strOk_lt fun c hc => by
  have := of_decide_eq_true (p := 32 ≤ c ∧ c < 127 ∧ c ≠ 39 ∧ c ≠ 92) (List.all_eq_true.mp h c hc)
  omega
theorem Nc.str {n : Nat} {x : Str} (h : (tl x).all plain = true) (hl : x.length ≤ n) : Nc 0 (10 * n + 2) (.str x) := by
  refine ⟨⟨?_, ?_, by simp [PyData.showable], by simp [PyData.hasDict], by simp [PyData.depth]⟩, Sh.str (plain_ok h), by simpa only [nice] using h⟩
  · simp only [ascD]
    refine List.all_eq_true.mpr fun c hc => decide_eq_true ?_
    have := of_decide_eq_true (p := 32 ≤ c ∧ c < 127 ∧ c ≠ 39 ∧ c ≠ 92) (List.all_eq_true.mp h c hc)
    exact Nat.lt_of_lt_of_le this.2.1 (by decide)
  · simp only [shB]
    omega
theorem Nc.int {n : Nat} (h : n < 10 ^ 13) : Nc 0 13 (.int (n : Int)) := by
  refine ⟨⟨by simp [ascD], ?_, ?_, by simp [PyData.hasDict], by simp [PyData.depth]⟩, Sh.int _, by simp only [nice]; exact decide_eq_true ⟨by omega, by omega⟩⟩
  · simp only [shB]
    rw [len_tl]
    have e := code_int n
    unfold code at e
    simp only [PyData.shown] at e
    rw [e, List.length_map]
    exact toDigits_len_pow (b := 10) (k := 13) (by decide) (by decide) h
  · simp only [PyData.showable, Int.natAbs_natCast]
    refine decide_eq_true ?_
    by_cases h0 : n = 0
    · subst h0; decide
    · rw [Nat.log2_lt h0]
      exact Nat.lt_of_lt_of_le h (Nat.le_trans (show 10 ^ 13 ≤ 2 ^ 50 by decide) (Nat.pow_le_pow_right (by decide) (by decide)))
theorem Nc.eqD {m k m' k' : Nat} {a b : D} (ha : Nc m k a) (hb : Nc m' k' b) (hm : m ≤ 64) (hm' : m' ≤ 64) : eqD a b = some (.bool (PyData.eqv a b)) := eqD_of ha.sh hb.sh hm hm'
theorem Nc.neD {m k m' k' : Nat} {a b : D} (ha : Nc m k a) (hb : Nc m' k' b) (hm : m ≤ 64) (hm' : m' ≤ 64) : neD a b = some (.bool (!PyData.eqv a b)) := neD_of ha.sh hb.sh hm hm'
theorem Nc.repr {m k : Nat} {a : D} (ha : Nc m k a) (hm : m ≤ 60) (hk : k ≤ 1000000) : reprD [a] = some (.str a.shown) := repr_of ha.sw hm hk
/-- a plain text, so long -/
structure Pt (n : Nat) (x : Str) : Prop where
  pl : (tl x).all plain = true
  l1 : 1 ≤ x.length
  l2 : x.length ≤ n
theorem Pt.nc {n : Nat} {x : Str} (h : Pt n x) : Nc 0 (10 * n + 2) (.str x) := Nc.str h.pl h.l2
end NC

namespace K67
open PySem PySem.Spec PyProof.Rows L2 TL PD MT DL
local macro_rules | `(tactic| walk_at "lx") => `(tactic| simp only [wl_gen, wl_seq, wl_app, wl_at, wl_for, ws_hid, we_lenU, we_ixU, ws_setU, ws_asgX, ws_retX, ws_uniS, wx_binL, we_lcKeys, wx_pop, wx_bin, ws_asg, ws_ret, ws_if, ws_next, ws_uni, ws_app, ws_frz, ws_aug, ws_for, onNx_nx, onNx_rt, onNx_bk, onNx_ct, onRt_rt, onRt_nx, we_var, we_c, we_bin, we_un, we_call, we_callK, wa_nil, wa_cons, we_tup, we_lst, wo_no, wo_some, we_sl, wt_b, wt_tru, wt_and, wt_or, wt_not, we_if, we_and, we_or, we_chain, we_get2, wp_nil, wp_cons, we_disp, wa_items, we_lc, wg_set, wg_tup, wg_lst, w_eqS, w_neS, wgs_nil, wgs_cons, List.getElem?_cons_zero, List.getElem?_cons_succ, Option.some.injEq, Sl.val.injEq, Sl.uni.injEq, exists_eq_left', exists_eq_left, List.set_cons_zero, List.set_cons_succ, true_and, and_true, List.length_cons, List.length_nil, List.map_cons, List.map_nil, PyData.int.injEq, PyData.bool.injEq, PyData.tuple.injEq, PyData.list.injEq, PyData.str.injEq, w_add, w_sub, w_lt, w_le, w_gt, w_ge, w_eqI, w_neI, w_intB, itemsD, truD, slots, wipeR, List.cons_append, List.nil_append, Nat.reduceAdd, Nat.reduceSub, List.replicate_succ, List.replicate_zero, ↓reduceIte, Bool.false_eq_true, Bool.not_true, Bool.not_false, decide_true, decide_false, if_true, if_false])
theorem c_by : K67.f_rows_by_name = DL.f_rows_by_name := rfl
theorem dR_eD (rs : List Rw) : dR rs = .dict (eD rs) := rfl
theorem byN_eq {rs : List Rw} (h : RsOk rs) : fN_rows_by_name [TR rs] = some (eD rs) := by
  have sb := sizeBig
  have hl := h.ln
  have e : ∀ δ : Dk, kFor (mItems (mVar 0)) [1] (gSet 1) mYes (kOne (mBin subD' (mVar 1) (mC (.int 0))) (mVar 1)) [.val (TR rs), .no] δ = some (rs.flatMap (fun r => [(Sum.inr r.nm, er r)]), δ) := fun δ =>
    compK_flat er (fun r => [(Sum.inr r.nm, er r)]) δ rs fun r hr => ⟨[.val (TR rs), .val (er r)], rfl, rfl⟩
  show ((kFor _ _ _ _ _ [.val (TR rs), .no] ⟨[], 0, [], none⟩).bind fun q => if q.1.length ≤ sizeLine then some ((PD.putAll [] q.1).map fun e => (keyD e.1, e.2), q.2) else none).map (·.1) = _
  rw [e, show rs.flatMap (fun r => [((Sum.inr r.nm : Key), er r)]) = rs.map fun r => (Sum.inr r.nm, er r) from (List.map_eq_flatMap ..).symm]
  show (if (rs.map fun r => ((Sum.inr r.nm : Key), er r)).length ≤ sizeLine then some ((PD.putAll [] (rs.map fun r => ((Sum.inr r.nm : Key), er r))).map fun e => (keyD e.1, e.2), (⟨[], 0, [], none⟩ : Dk)) else none).map (·.1) = _
  rw [if_pos (by rw [List.length_map]; omega)]
  rw [putAll_new _ [] ?_, List.nil_append, List.map_map]
  · rfl
  · rw [List.nil_append, List.map_map]
    have := h.nd
    exact List.Pairwise.of_map (S := fun a b : Str => a ≠ b) (fun k => match k with | Sum.inr s => s | Sum.inl _ => (default : Str)) (fun a b hab z => hab (by rw [z])) (by rw [List.map_map]; exact this)
def rest (A : List Rw) (gs : List Str) : List Rw := A.filter fun r => decide (r.nm ∉ gs)
def allR (A : List Rw) (gs : List Str) (C : List Rw) : List Rw := mergeR (rest A gs) C
def ledL (A : List Rw) (gs : List Str) (C : List Rw) : List Rw := (srt (nms (allR A gs C))).filterMap (look (allR A gs C))
theorem nd_rest {A : List Rw} (h : (nms A).Nodup) (gs : List Str) : (nms (rest A gs)).Nodup := (List.Sublist.map _ List.filter_sublist).nodup h
theorem len_merge : ∀ (cs rs : List Rw), (mergeR rs cs).length ≤ rs.length + cs.length
  | [], rs => by simp [mergeR]
  | c :: cs, rs => by
    have h1 := len_merge cs (putR rs c)
    have h2 : (putR rs c).length ≤ rs.length + 1 := by unfold putR; split <;> simp
    show (mergeR (putR rs c) cs).length ≤ _
    rw [List.length_cons]
    omega
theorem in_strs {x : Str} {xs : List Str} (hx : PyData.strOk x = true) (h : ∀ y ∈ xs, PyData.strOk y = true) : inD true (.str x) (.list (xs.map .str)) = some (.bool (decide (x ∉ xs))) := by
  have s1 := (Sh.str hx).ok (by decide)
  have s2 := (Sh.lst (k := 0) (ds := xs.map .str) fun d hd => by
    obtain ⟨y, hy, rfl⟩ := List.mem_map.mp hd
    exact Sh.str (h y hy)).ok (by decide)
  have e : inL true (.str x) (.list (xs.map .str)) = some (.bool (decide (x ∉ xs))) := by
    show (if (SeqAt.shaped (.str x) && SeqAt.shaped (.list (xs.map .str))) = true then some (PyData.bool (true ^^ (xs.map PyData.str).any fun z => PyData.eqv z (.str x))) else none) = _
    rw [s1, s2]
    show some (PyData.bool (true ^^ (xs.map PyData.str).any fun z => PyData.eqv z (.str x))) = _
    congr 2
    rw [Bool.true_xor, decide_not, List.any_map]
    congr 1
    rw [Bool.eq_iff_iff, List.any_eq_true, decide_eq_true_eq]
    simp [PyData.eqv]
  show ((inL true (.str x) (.list (xs.map .str))).orElse fun _ => _) = _
  rw [e]
  rfl
theorem strs_flat {x : Str} {xs : List Str} : inD true (.str x) (.tuple (xs.map .str)) = some (.bool (decide (x ∉ xs))) := by
  have e : inT true (.str x) (.tuple (xs.map .str)) = some (.bool (decide (x ∉ xs))) := by
    show (if (flatD (.str x) && (xs.map PyData.str).all flatD) = true then some (PyData.bool (true ^^ (xs.map PyData.str).any fun z => PyData.eqv z (.str x))) else none) = _
    have h1 : flatD (.str x) = true := rfl
    have h2 : (xs.map PyData.str).all flatD = true := by
      rw [List.all_map, List.all_eq_true]
      exact fun y hy => rfl
    rw [h1, h2, Bool.and_true, if_pos rfl]
    congr 2
    rw [Bool.true_xor, decide_not, List.any_map]
    congr 1
    rw [Bool.eq_iff_iff, List.any_eq_true, decide_eq_true_eq]
    simp [PyData.eqv]
  show ((inL true (.str x) (.tuple (xs.map .str))).orElse fun _ => (inT true (.str x) (.tuple (xs.map .str))).orElse fun _ => _) = _
  rw [e]
  rfl
theorem told (A : List Rw) (gs : List Str) (C : List Rw) : tupD [.list ((srt (nms (allR A gs C))).map fun x => (look (allR A gs C) x).elim PyData.none er)] = some (TR (ledL A gs C)) := by
  show some (PyData.tuple _) = some (PyData.tuple _)
  congr 2
  unfold ledL
  have : ∀ l : List Str, (∀ x ∈ l, x ∈ nms (allR A gs C)) → l.map (fun x => (look (allR A gs C) x).elim PyData.none er) = (l.filterMap (look (allR A gs C))).map er := fun l => by
    induction l with
    | nil => exact fun _ => rfl
    | cons x l ih =>
      intro h
      obtain ⟨r, hr, _⟩ := look_mem (h x (.head _))
      rw [List.map_cons, List.filterMap_cons, hr, ih fun y hy => h y (.tail _ hy)]
      rfl
  exact this _ fun x hx => (srt_perm _).mem_iff.mp hx
theorem led_eq {A C : List Rw} {gs : List Str} (hA : RsOk A) (hC : RsOk C) (hgn : gs.Nodup) : f_led [TR A, .tuple [.tuple (gs.map .str), TR C]] = some (if (∀ x ∈ gs, x ∈ nms A) then some (TR (ledL A gs C)) else none) := by
  have sb := sizeBig
  have la := hA.ln
  have lc := hC.ln
  have lr : (rest A gs).length ≤ A.length := List.length_filter_le ..
  have lm := len_merge C (rest A gs)
  have : ∃ z, f_led [TR A, .tuple [.tuple (gs.map .str), TR C]] = some z ∧ z = (if (∀ x ∈ gs, x ∈ nms A) then some (TR (ledL A gs C)) else none) := by
    refine wr_fnR ?_
    unfold m_led
    refine wr_seq (wr_lift ?_)
    walk_at "lx"
    refine wr_seq (wr_lift (ws_ownC ?_))
    walk_at "lx"
    refine ⟨eD A, byN_eq hA, by simp, ?_⟩
    refine wr_seq (wr_for ?_)
    walk_at "lx"
    refine wr_forI (fun left ρ δ => ∃ (done l : List Str) (t5 : Sl), (t5 = .no ∨ ∃ d, t5 = .val d) ∧ done ++ l = gs ∧ (∀ x ∈ done, x ∈ nms A) ∧ left = l.map .str ∧ ρ = [.val (TR A), .val (.tuple [.tuple (gs.map .str), TR C]), .val (.tuple (gs.map .str)), .val (TR C), .dic (eD (rest A done)), t5]) (fun d left ρ δ hI => ?_) (fun ρ δ hI => ?_) _ _ _ ⟨[], gs, .no, .inl rfl, rfl, by simp, rfl, ?_⟩
    · obtain ⟨done, l, t5, ht5, e1, hd, e2, rfl⟩ := hI
      match l, e2 with
      | x :: l, e2 =>
        rw [List.map_cons, List.cons.injEq] at e2
        obtain ⟨rfl, rfl⟩ := e2
        have h2 : x ∉ done := fun z => by
          rw [← e1] at hgn
          exact (List.nodup_append.mp hgn).2.2 x z x (.head _) rfl
        rw [wg_set]
        simp only [List.set_cons_zero, List.set_cons_succ]
        refine wr_seq (wr_if (wt_inO rfl ?_))
        walk_at "lx"
        refine ⟨.inr x, rfl, ?_⟩
        by_cases h1 : x ∈ nms A
        · have hx : x ∈ nms (rest A done) := by
            obtain ⟨r, hr, e⟩ := List.mem_map.mp h1
            exact List.mem_map.mpr ⟨r, List.mem_filter.mpr ⟨hr, decide_eq_true (by rw [e]; exact h2)⟩, e⟩
          have hs : (lookD (eD (rest A done)) (keyD (.inr x))).isSome = true := by
            obtain ⟨r, hr, _⟩ := look_mem hx
            show (lookD (eD (rest A done)) (.str x)).isSome = true
            rw [look_eD, hr]
            rfl
          rw [hs, if_neg (by decide)]
          refine wr_lift ?_
          walk_at "lx"
          refine wr_lift (ws_delD rfl ?_)
          walk_at "lx"
          refine ⟨.inr x, rfl, hs, done ++ [x], l, .val (.str x), .inr ⟨_, rfl⟩, by rw [← e1]; simp, fun y hy => ?_, rfl, ?_⟩
          · rcases List.mem_append.mp hy with hy | hy
            · exact hd y hy
            · rw [List.mem_singleton.mp hy]; exact h1
          rw [drop_eD]
          have : (rest A done).filter (fun r => decide (r.nm ≠ x)) = rest A (done ++ [x]) := by
            unfold rest
            rw [List.filter_filter]
            refine List.filter_congr fun r _ => ?_
            rw [Bool.eq_iff_iff]
            simp [and_comm]
          rw [this]
        · have hx : x ∉ nms (rest A done) := fun z => by
            obtain ⟨r, hr, e⟩ := List.mem_map.mp z
            exact h1 (List.mem_map.mpr ⟨r, (List.mem_filter.mp hr).1, e⟩)
          have hs : (lookD (eD (rest A done)) (keyD (.inr x))).isSome = false := by
            show (lookD (eD (rest A done)) (.str x)).isSome = false
            rw [look_eD, look_none.mpr hx]
            rfl
          rw [hs, if_pos (by decide)]
          refine wr_raise ?_
          rw [if_neg (fun z => h1 (z x (by rw [← e1]; simp)))]
    · obtain ⟨done, l, t5, ht5, e1, hd, e2, rfl⟩ := hI
      have : l = [] := by simpa using e2
      subst this
      rw [List.append_nil] at e1
      subst e1
      rw [onNx_nx]
      rw [if_pos hd]
      refine wr_seq (wr_lift (ws_updD rfl ?_))
      walk_at "lx"
      refine .of (by rw [c_by]; exact by_name_eq hC) ⟨eD C, dR_eD C, by unfold eD; rw [List.length_map, List.length_map]; omega, ?_⟩
      rw [merge_eD]
      rw [show mergeR (rest A done) C = allR A done C from rfl]
      have ln : (nms (allR A done C)).length < 64 := by
        unfold nms
        rw [List.length_map]
        have : (allR A done C).length ≤ (rest A done).length + C.length := lm
        omega
      refine wr_lift ?_
      walk_at "lx"
      refine we_sortO rfl (keys_eD _) ln ?_
      refine ⟨_, rfl, by rcases ht5 with rfl | ⟨d, rfl⟩ <;> rfl, ?_⟩
      refine wc_map PyData.str (fun x => (look (allR A done C) x).elim .none er) (srt (nms (allR A done C))) (fun x hx => ?_) ?_
      · rw [wg_set]
        simp only [List.set_cons_zero, List.set_cons_succ]
        refine we_getO rfl ?_
        walk_at "lx"
        have hx' : x ∈ nms (allR A done C) := (srt_perm _).mem_iff.mp hx
        obtain ⟨r, hr, _⟩ := look_mem hx'
        refine ⟨.inr x, er r, rfl, ?_, ?_⟩
        · show lookD (eD (allR A done C)) (.str x) = _
          rw [look_eD, hr]
          rfl
        · rw [hr]
          rfl
      · refine ⟨by rw [List.length_map, (srt_perm _).length_eq]; omega, .of (z := TR (ledL A done C)) (told A done C) rfl⟩
    · have : rest A [] = A := List.filter_eq_self.mpr fun r _ => by simp
      rw [this]
  obtain ⟨z, e, rfl⟩ := this
  exact e
end K67

namespace K67
open PySem PySem.Spec PyProof.Rows L2 TL PD MT DL
local macro_rules | `(tactic| walk_at "lx") => `(tactic| simp only [wl_gen, wl_seq, wl_app, wl_at, wl_for, ws_hid, we_lenU, we_ixU, ws_setU, ws_asgX, ws_retX, ws_uniS, wx_binL, we_lcKeys, wx_pop, wx_bin, ws_asg, ws_ret, ws_if, ws_next, ws_uni, ws_app, ws_frz, ws_aug, ws_for, onNx_nx, onNx_rt, onNx_bk, onNx_ct, onRt_rt, onRt_nx, we_var, we_c, we_bin, we_un, we_call, we_callK, wa_nil, wa_cons, we_tup, we_lst, wo_no, wo_some, we_sl, wt_b, wt_tru, wt_and, wt_or, wt_not, we_if, we_and, we_or, we_chain, we_get2, wp_nil, wp_cons, we_disp, wa_items, we_lc, wg_set, wg_tup, wg_lst, w_eqS, w_neS, wgs_nil, wgs_cons, List.getElem?_cons_zero, List.getElem?_cons_succ, Option.some.injEq, Sl.val.injEq, Sl.uni.injEq, exists_eq_left', exists_eq_left, List.set_cons_zero, List.set_cons_succ, true_and, and_true, List.length_cons, List.length_nil, List.map_cons, List.map_nil, PyData.int.injEq, PyData.bool.injEq, PyData.tuple.injEq, PyData.list.injEq, PyData.str.injEq, w_add, w_sub, w_lt, w_le, w_gt, w_ge, w_eqI, w_neI, w_intB, itemsD, truD, slots, wipeR, List.cons_append, List.nil_append, Nat.reduceAdd, Nat.reduceSub, List.replicate_succ, List.replicate_zero, ↓reduceIte, Bool.false_eq_true, Bool.not_true, Bool.not_false, decide_true, decide_false, if_true, if_false])
theorem ix1T (a b : D) : subD' (.tuple [a, b]) (.int 1) = some b := by
  refine ix_tupl _ 1 ?_
  rfl
theorem put_nm (rs : List Rw) (r : Rw) : putE (eD rs) (.inr r.nm) (er r) = eD (putR rs r) := put_eD rs r
theorem l_led_eq {A C : List Rw} {gs : List Str} (hA : RsOk A) (hC : RsOk C) (hgo : ∀ x ∈ gs, PyData.strOk x = true) (hgl : gs.length ≤ 8) : f_l_led [TR A, .tuple [.tuple (gs.map .str), TR C]] = some (if (∀ x ∈ gs, x ∈ nms A) then TR (ledL A gs C) else .none) := by
  have sb := sizeBig
  have la := hA.ln
  have lc := hC.ln
  have lr : (rest A gs).length ≤ A.length := List.length_filter_le ..
  have lm := len_merge C (rest A gs)
  have : W1 (f_l_led [TR A, .tuple [.tuple (gs.map .str), TR C]]) fun z => z = (if (∀ x ∈ gs, x ∈ nms A) then TR (ledL A gs C) else .none) := by
    refine w1_fnP ?_
    unfold m_l_led
    rw [ws_seq]
    walk_at "lx"
    refine ⟨A.map er, rfl, rfl, ?_⟩
    refine wc_map er (fun r => PyData.str r.nm) A (fun r hr => ?_) ?_
    · rw [wg_set]
      simp only [List.set_cons_zero, List.set_cons_succ]
      walk_at "lx"
      exact .of (er0 r) rfl
    refine ⟨by rw [List.length_map]; omega, ?_⟩
    have eA : A.map (fun r => PyData.str r.nm) = (nms A).map .str := (List.map_map ..).symm
    rw [eA, ws_seq]
    walk_at "lx"
    refine .of (ix0T _ _) ⟨gs.map .str, rfl, rfl, ?_⟩
    refine wc_filter PyData.str (fun x => decide (x ∉ nms A)) PyData.str gs (fun x hx => ?_) ?_
    · rw [wg_set]
      simp only [List.set_cons_zero, List.set_cons_succ]
      walk_at "lx"
      refine .of (in_strs (hgo x hx) fun y hy => ?_) ⟨_, rfl, by simp⟩
      obtain ⟨q, hq, rfl⟩ := List.mem_map.mp hy
      exact (hA.nm q hq).ok
    have l1 : (gs.filter fun x => decide (x ∉ nms A)).length ≤ gs.length := List.length_filter_le ..
    refine ⟨by rw [List.length_map]; omega, Nat.zero_le _, .of (z := .bool !((gs.filter fun x => decide (x ∉ nms A)).map PyData.str).isEmpty) rfl ?_⟩
    refine ⟨_, rfl, ?_⟩
    by_cases hall : ∀ x ∈ gs, x ∈ nms A
    · have e0 : gs.filter (fun x => decide (x ∉ nms A)) = [] := List.filter_eq_nil_iff.mpr fun x hx z => of_decide_eq_true z (hall x hx)
      rw [e0, if_neg (by decide), if_pos hall]
      rw [ws_seq]
      refine ws_dictP ?_
      walk_at "lx"
      refine ⟨A.map er, rfl, rfl, ?_⟩
      refine wc_filter er (fun r => decide (r.nm ∉ gs)) (fun r => PyData.tuple [.str r.nm, er r]) A (fun r hr => ?_) ?_
      · rw [wg_set]
        simp only [List.set_cons_zero, List.set_cons_succ]
        walk_at "lx"
        refine .of (er0 r) (.of (ix0T _ _) (.of strs_flat ⟨_, rfl, rfl, fun _ => .of (er0 r) ⟨by omega, rfl⟩⟩))
      refine ⟨by rw [List.length_map]; exact Nat.le_trans lr (by omega), _, _, rfl, pairsE_map (fun r : Rw => PyData.tuple [.str r.nm, er r]) (fun r => Sum.inr r.nm) er (fun r => rfl) _, by simp, ?_⟩
      rw [show A.filter (fun r => decide (r.nm ∉ gs)) = rest A gs from rfl]
      rw [DL.putAll_new _ [] (by
        rw [List.nil_append, List.map_map]
        have := nd_rest hA.nd gs
        exact List.Pairwise.of_map (S := fun a b : Str => a ≠ b) (fun k => match k with | Sum.inr s => s | Sum.inl _ => (default : Str)) (fun a b hab z => hab (by rw [z])) (by rw [List.map_map]; exact this)), List.nil_append, List.map_map]
      rw [show (rest A gs).map ((fun e : Key × D => (keyD e.1, e.2)) ∘ fun a => ((Sum.inr a.nm : Key), er a)) = eD (rest A gs) from rfl]
      rw [ws_seq]
      walk_at "lx"
      refine .of (ix1T _ _) ⟨C.map er, rfl, ?_⟩
      refine ws_forI (fun left ρ δ => δ = ⟨[], 0, [], none⟩ ∧ ∃ (done l : List Rw) (t3 : Sl), (t3 = .no ∨ ∃ d, t3 = .val d) ∧ done ++ l = C ∧ left = l.map er ∧ ρ = [.val (TR A), .val (.tuple [.tuple (gs.map .str), TR C]), .val (.list ((nms A).map .str)), t3, .no, .dic (eD (mergeR (rest A gs) done))]) (fun d left ρ δ hI => ?_) (fun ρ δ hI => ?_) _ _ _ ⟨rfl, [], C, .no, .inl rfl, rfl, rfl, rfl⟩
      · obtain ⟨rfl, done, l, t3, ht3, e1, e2, rfl⟩ := hI
        match l, e2 with
        | r :: l, e2 =>
          rw [List.map_cons, List.cons.injEq] at e2
          obtain ⟨rfl, rfl⟩ := e2
          rw [wg_set]
          simp only [List.set_cons_zero, List.set_cons_succ]
          refine ws_putD rfl ?_
          walk_at "lx"
          refine .of (er0 r) ⟨.inr r.nm, rfl, ?_, ?_⟩
          · have h1 := len_merge done (rest A gs)
            have h2 : done.length ≤ C.length := by rw [← e1, List.length_append]; omega
            show ((mergeR (rest A gs) done).map _).length < _
            rw [List.length_map]
            omega
          · refine ⟨done ++ [r], l, .val (er r), .inr ⟨_, rfl⟩, by rw [← e1]; simp, rfl, ?_⟩
            rw [put_eD]
            unfold mergeR
            rw [List.foldl_append]
            rfl
      · obtain ⟨rfl, done, l, t3, ht3, e1, e2, rfl⟩ := hI
        have : l = [] := by simpa using e2
        subst this
        rw [List.append_nil] at e1
        subst e1
        rw [onNx_nx]
        rw [show mergeR (rest A gs) done = allR A gs done from rfl]
        have ln : (nms (allR A gs done)).length < 64 := by
          unfold nms
          rw [List.length_map]
          have : (allR A gs done).length ≤ (rest A gs).length + done.length := lm
          omega
        walk_at "lx"
        refine we_sortO rfl (keys_eD _) ln ?_
        refine ⟨_, rfl, rfl, ?_⟩
        refine wc_map PyData.str (fun x => (look (allR A gs done) x).elim .none er) (srt (nms (allR A gs done))) (fun x hx => ?_) ?_
        · rw [wg_set]
          simp only [List.set_cons_zero, List.set_cons_succ]
          refine we_getO rfl ?_
          walk_at "lx"
          have hx' : x ∈ nms (allR A gs done) := (srt_perm _).mem_iff.mp hx
          obtain ⟨r, hr, _⟩ := look_mem hx'
          refine ⟨.inr x, er r, rfl, ?_, ?_⟩
          · show lookD (eD (allR A gs done)) (.str x) = _
            rw [look_eD, hr]
            rfl
          · rw [hr]
            rfl
        · exact ⟨by rw [List.length_map, (srt_perm _).length_eq]; omega, .of (z := TR (ledL A gs done)) (told A gs done) rfl⟩
    · have hne : gs.filter (fun x => decide (x ∉ nms A)) ≠ [] := fun z => hall fun x hx => Decidable.byContradiction fun hn => List.filter_eq_nil_iff.mp z x hx (decide_eq_true hn)
      match hg : gs.filter (fun x => decide (x ∉ nms A)), hne with
      | x :: r, _ =>
        rw [if_neg hall]
        exact iteT rfl
  obtain ⟨z, e, rfl⟩ := this
  exact e
end K67

set_option maxHeartbeats 0
namespace K67
open PySem PySem.Spec PyProof.Rows L2 PD
section
variable {P : Program} {w : World} {K : PySem.W.Frag} {mg : Str → Option Value} {base : Heap}
theorem ok_law (T : Tx K mg) (hm : ∀ ns : List Int, ns.length ≤ 63 → ∃ ρ' δ', m_law (slots N_law.length [.no, .deck]) (deckOf ns) = some (.rt (.bool true), ρ', δ')) : FnG P w K mg base 4 T.a_law T.d_law ["_law_script"] (spLaw K) :=
  okLawG (k := 3) T.F_law sc_law (by decide) rfl
    (fun cdv A outer s0 H E hr gd => ps_set (i := 1) sc_law.nd rfl (by first | exact Or.inl rfl | exact Or.inr rfl) (pe_call (ok_l_draws T) (hr.mono (by decide)) (by rfl) T.g_l_draws T.F_l_draws.kp T.b_l_draws .nil pass0 (pa_cons (pv 0) pa_nil)))
    (fun cdv A outer s0 H E hr gd => ((pdss_cons (pds_set 2 sc_law.nd (pd_callK 1 (ok_l_names T) (hr.mono (by decide)) T.g_l_names T.F_l_names.kp T.b_l_names pass0 (pda_cons pd_int pda_nil))) (pdss_cons (pds_for PassesOwn.never rfl (pdi_range1 T.m_range pd_int) (pdg_name 3 sc_law.nd) (pdss_cons (pds_set 4 sc_law.nd (pd_callK 1 (ok_l_list T) (hr.mono (by decide)) T.g_l_list T.F_l_list.kp T.b_l_list pass0 (pda_cons (pd_var 2) pda_nil))) (pdss_cons (pds_setLc 5 (own := [("_law_row_here", 6)]) rfl sc_law.nd (pdi_seq (pd_var 4)) (blkOk_by (own := [("_law_row_here", 6)]) (N := N_law) (sc := defScope s_law) (by decide +kernel)) ⟨fun _ _ _ _ _ => (pdg_name 6 sc_law.nd), fun _ _ _ _ _ => pdts_nil, fun _ _ _ _ _ => (pd_ix (hu_of hr) (pd_var 6) pd_int), by decide⟩ (sw_true rfl rfl rfl (by decide +kernel))) (pdss_cons (pds_setLc 7 (own := [("_law_name", 8)]) rfl sc_law.nd (pdi_seq (pd_var 5)) (blkOk_by (own := [("_law_name", 8)]) (N := N_law) (sc := defScope s_law) (by decide +kernel)) ⟨fun _ _ _ _ _ => (pdg_name 8 sc_law.nd), fun _ _ _ _ _ => (pdts_one (pdt_cmp (cs_eq hr.units) (pd_callK 1 (ok_l_next T) (hr.mono (by decide)) T.g_l_next T.F_l_next.kp T.b_l_next pass0 (pda_cons pd_int pda_nil)) pd_int (nomark _))), fun _ _ _ _ _ => (pd_var 8), by decide⟩ (sw_true rfl rfl rfl (by decide +kernel))) (pdss_cons (pds_if (pdt_cmp (cs_eq hr.units) (pd_callK 1 (ok_l_next T) (hr.mono (by decide)) T.g_l_next T.F_l_next.kp T.b_l_next pass0 (pda_cons pd_int pda_nil)) pd_int (nomark _)) (pdss_one (pds_setLc 7 (own := [("_law_name", 8)]) rfl sc_law.nd (pdi_seq (pd_var 2)) (blkOk_by (own := [("_law_name", 8)]) (N := N_law) (sc := defScope s_law) (by decide +kernel)) ⟨fun _ _ _ _ _ => (pdg_name 8 sc_law.nd), fun _ _ _ _ _ => (pdts_one (pdt_cmp (cs_eq hr.units) (pd_callK 1 (ok_l_next T) (hr.mono (by decide)) T.g_l_next T.F_l_next.kp T.b_l_next pass0 (pda_cons pd_int pda_nil)) pd_int (nomark _))), fun _ _ _ _ _ => (pd_var 8), by decide⟩ (sw_true rfl rfl rfl (by decide +kernel)))) pdss_nil) (pdss_cons (pds_set 9 sc_law.nd (pd_tup (pda_cons (pd_ctup T.m_tuple (pda_cons (pd_sorted T.m_sorted (pda_cons (pd_var 7) pda_nil)) pda_nil)) (pda_cons (pd_callK 1 (ok_l_list T) (hr.mono (by decide)) T.g_l_list T.F_l_list.kp T.b_l_list pass0 (pda_cons (pd_var 2) pda_nil)) pda_nil)))) (pdss_cons (pds_set 10 sc_law.nd (pd_repr T.m_repr gd (u65 hr) (pda_cons (pd_lst (pda_cons (pd_var 4) (pda_cons (pd_var 9) pda_nil))) pda_nil))) (pdss_cons (pds_set 11 sc_law.nd (pd_callP (ok_l_led T) (hr.mono (by decide)) T.g_l_led T.F_l_led.kp T.b_l_led pass0 (pda_cons (pd_var 4) (pda_cons (pd_var 9) pda_nil)))) (pdss_cons (pds_set 12 sc_law.nd pd_non) (pdss_cons (pds_tryIs 12 13 11 (ok_led T) (hr.mono (by decide)) T.g_led T.F_led.kp T.b_led (fun _ _ => (pda_cons (pd_var 4) (pda_cons (pd_var 9) pda_nil))) sc_law.nd T.x_g T.x_m T.x_c T.m_isinstance T.y_g T.x_i) (pdss_one (pds_if (PDW.pt (pdw_or (pdt_cmp cs_neS (pd_repr T.m_repr gd (u65 hr) (pda_cons (pd_var 12) pda_nil)) (pd_repr T.m_repr gd (u65 hr) (pda_cons (pd_var 11) pda_nil)) (nomark _)) (pdw_or1 (pdt_cmp cs_neS (pd_repr T.m_repr gd (u65 hr) (pda_cons (pd_lst (pda_cons (pd_var 4) (pda_cons (pd_var 9) pda_nil))) pda_nil)) (pd_var 10) (nomark _))))) (pdss_one (pds_ret pd_bl)) pdss_nil)))))))))))) (pdss_one (pds_ret pd_bl)))) : PDSs _ _ m_law)) hm
end
end K67

namespace K67
open PySem PySem.Spec PyProof.Rows L2 TL PD MT DL NC
local macro_rules | `(tactic| walk_at "lx") => `(tactic| simp only [wl_gen, wl_seq, wl_app, wl_at, wl_for, ws_hid, we_lenU, we_ixU, ws_setU, ws_asgX, ws_retX, ws_uniS, wx_binL, we_lcKeys, wx_pop, wx_bin, ws_asg, ws_ret, ws_if, ws_next, ws_uni, ws_app, ws_frz, ws_aug, ws_for, onNx_nx, onNx_rt, onNx_bk, onNx_ct, onRt_rt, onRt_nx, we_var, we_c, we_bin, we_un, we_call, we_callK, wa_nil, wa_cons, we_tup, we_lst, wo_no, wo_some, we_sl, wt_b, wt_tru, wt_and, wt_or, wt_not, we_if, we_and, we_or, we_chain, we_get2, wp_nil, wp_cons, we_disp, wa_items, we_lc, wg_set, wg_tup, wg_lst, w_eqS, w_neS, wgs_nil, wgs_cons, List.getElem?_cons_zero, List.getElem?_cons_succ, Option.some.injEq, Sl.val.injEq, Sl.uni.injEq, exists_eq_left', exists_eq_left, List.set_cons_zero, List.set_cons_succ, true_and, and_true, List.length_cons, List.length_nil, List.map_cons, List.map_nil, PyData.int.injEq, PyData.bool.injEq, PyData.tuple.injEq, PyData.list.injEq, PyData.str.injEq, w_add, w_sub, w_lt, w_le, w_gt, w_ge, w_eqI, w_neI, w_intB, itemsD, truD, slots, wipeR, List.cons_append, List.nil_append, Nat.reduceAdd, Nat.reduceSub, List.replicate_succ, List.replicate_zero, ↓reduceIte, Bool.false_eq_true, Bool.not_true, Bool.not_false, decide_true, decide_false, if_true, if_false])
theorem c_names : K67.f_l_names = DL.f_l_names := rfl
theorem c_list : K67.f_l_list = DL.f_l_list := rfl
theorem mem_merge {r : Rw} : ∀ {cs rs : List Rw}, r ∈ mergeR rs cs → r ∈ rs ∨ r ∈ cs
  | [], rs, h => .inl h
  | c :: cs, rs, h => by
    rcases mem_merge (cs := cs) (rs := putR rs c) h with h | h
    · unfold putR at h
      split at h
      · obtain ⟨q, hq, e⟩ := List.mem_map.mp h
        split at e
        · exact .inr (by rw [← e]; exact .head _)
        · exact .inl (e ▸ hq)
      · rcases List.mem_append.mp h with h | h
        · exact .inl h
        · exact .inr (by rw [List.mem_singleton.mp h]; exact .head _)
    · exact .inr (.tail _ h)
theorem led_nm {A C : List Rw} {gs : List Str} (hA : RsOk A) (hC : RsOk C) : ∀ r ∈ ledL A gs C, NmOk r.nm := fun r hr => by
  obtain ⟨x, _, e⟩ := List.mem_filterMap.mp hr
  rcases mem_merge (look_nm e).2 with h | h
  · exact hA.nm r (List.mem_filter.mp h).1
  · exact hC.nm r h
theorem led_len {A C : List Rw} {gs : List Str} (hA : RsOk A) (hC : RsOk C) : (ledL A gs C).length ≤ 16 := by
  have h1 : (ledL A gs C).length ≤ (srt (nms (allR A gs C))).length := List.length_filterMap_le ..
  have h2 := len_merge C (rest A gs)
  have h3 : (rest A gs).length ≤ A.length := List.length_filter_le ..
  have := hA.ln
  have := hC.ln
  rw [(srt_perm _).length_eq] at h1
  unfold nms allR at h1
  rw [List.length_map] at h1
  omega
theorem repr_TR {X : List Rw} (h : ∀ r ∈ X, NmOk r.nm) (hl : X.length ≤ 16) : reprD [TR X] = some (.str (TR X).shown) := by
  refine repr_of (m := 10) (k := 66000) (Sw.mono (Sw.tup (m := 9) (k := 4100) (ds := X.map er) fun d hd => ?_) (by decide) ?_)
  · obtain ⟨r, hr, rfl⟩ := List.mem_map.mp hd
    exact sw_er (h r hr)
  · rw [List.length_map]
    have : (4100 + 2) * X.length ≤ 4102 * 16 := Nat.mul_le_mul (Nat.le_refl _) hl
    omega
theorem pick_wp {b : Nat} {m : Int} {a0 a2 a3 a4 a5 a6 a7 a9 a10 a11 a12 a13 : Sl} {δ : Dk} {xs : List Str} {P : List D → Dk → Prop} (hD : DkOk b δ) (hl : xs.length ≤ 8) (hb : b ≤ 1000000) (m0 : 0 < m) (m1 : m ≤ 100) (p : ∀ (ys : List Str) δ', ys.Sublist xs → DkOk (b + 8) δ' → P (ys.map .str) δ') :
    WC (gSet 8) (mB (mBin eqD (mCallK 1 (fNext mixA) (mCons (mC (.int m)) mNil)) (mC (.int 0)))) (mVar 8) [a0, .deck, a2, a3, a4, a5, a6, a7, .no, a9, a10, a11, a12, a13] (xs.map .str) δ P := by
  have st := wc_inv (g := gSet 8) (tt := mB (mBin eqD (mCallK 1 (fNext mixA) (mCons (mC (.int m)) mNil)) (mC (.int 0)))) (te := mVar 8) (ρ := [a0, .deck, a2, a3, a4, a5, a6, a7, .no, a9, a10, a11, a12, a13]) (P := fun out δ => ∃ gs : List Str, out = gs.map .str ∧ gs.Sublist xs ∧ DkOk (b + 8) δ)
      (fun left out δ => ∃ (done l gs : List Str), done ++ l = xs ∧ left = l.map .str ∧ out = gs.map .str ∧ gs.Sublist done ∧ DkOk (b + done.length) δ) (fun d left out δ hI => by
        obtain ⟨done, l, gs, e1, e2, rfl, hs, hD2⟩ := hI
        match l, e2 with
        | w :: l, e2 =>
          rw [List.map_cons, List.cons.injEq] at e2
          obtain ⟨rfl, rfl⟩ := e2
          have hdl := congrArg List.length e1
          rw [List.length_append, List.length_cons] at hdl
          rw [wg_set]
          simp only [List.set_cons_zero, List.set_cons_succ]
          walk_at "lx"
          refine next_wp hD2 (by omega) m0 (by omega) fun r δ1 r0 r1 h1 => ?_
          walk_at "lx"
          by_cases hr : r = 0
          · rw [decide_eq_true hr, if_pos rfl]
            exact ⟨done ++ [w], l, gs ++ [w], by rw [← e1]; simp, rfl, by rw [List.map_append]; rfl, hs.append (List.Sublist.refl _), h1.mono (by simp; omega)⟩
          · rw [decide_eq_false hr, if_neg Bool.false_ne_true]
            exact ⟨done ++ [w], l, gs, by rw [← e1]; simp, rfl, rfl, hs.trans (List.sublist_append_left _ _), h1.mono (by simp; omega)⟩)
      (fun out δ hI => by
        obtain ⟨done, l, gs, e1, e2, rfl, hs, hD2⟩ := hI
        have : l = [] := by simpa using e2
        subst this
        rw [List.append_nil] at e1
        subst e1
        exact ⟨gs, rfl, hs, hD2.mono (by omega)⟩) (xs.map .str) [] _ ⟨[], xs, [], rfl, rfl, rfl, List.Sublist.refl _, hD.mono (by simp)⟩
  obtain ⟨out, δ3, eo, gs, egs, hgs, h3⟩ := st
  rw [List.nil_append] at egs
  subst egs
  exact ⟨_, _, eo, p gs δ3 hgs h3⟩
theorem main : ∀ ns : List Int, ns.length ≤ 63 → ∃ ρ' δ', m_law (slots N_law.length [.no, .deck]) (deckOf ns) = some (.rt (.bool true), ρ', δ') := fun ns hns => by
  have sb := sizeBig
  refine WS.rt ?_
  unfold m_law
  rw [show N_law.length = 14 from rfl, c_names, c_list, show f_l_next = fNext mixA from rfl, ws_seq]
  walk_at "lx"
  refine names_wp (k := 8) (DkOk.start ns) (by decide) (by decide) fun nn δ0 hnl hnn h0 => ?_
  rw [ws_seq]
  walk_at "lx"
  refine wa_rng ?_
  walk_at "lx"
  refine ⟨8, rfl, by decide, ?_⟩
  refine ws_forI (fun left ρ δ => ∃ (t3 t4 t5 t7 t9 t10 t11 t12 : Sl) (k : Nat), k + left.length = 8 ∧ DkOk (200 * k + 100) δ ∧ ρ = [.no, .deck, .val (.list (nn.map .str)), t3, t4, t5, .no, t7, .no, t9, t10, t11, t12, .no]) (fun dd left ρ δ hI => ?_) (fun ρ δ hI => ?_) _ _ _ ⟨.no, .no, .no, .no, .no, .no, .no, .no, 0, rfl, h0.mono (by omega), rfl⟩
  · obtain ⟨t3, t4, t5, t7, t9, t10, t11, t12, k, hk, hD, rfl⟩ := hI
    rw [List.length_cons] at hk
    rw [wg_set]
    simp only [List.set_cons_zero, List.set_cons_succ]
    rw [ws_seq]
    walk_at "lx"
    refine list_wp hD (by omega) hnn hnl fun A δ1 hA0 h1 => ?_
    have hA := rs_ok hnn hnl hA0
    have la := hA.ln
    rw [ws_seq]
    walk_at "lx"
    refine ⟨A.map er, rfl, rfl, ?_⟩
    refine wc_map er (fun r => PyData.str r.nm) A (fun r hr => ?_) ?_
    · rw [wg_set]
      simp only [List.set_cons_zero, List.set_cons_succ]
      walk_at "lx"
      exact .of (er0 r) rfl
    refine ⟨by rw [List.length_map]; omega, ?_⟩
    have eA : A.map (fun r => PyData.str r.nm) = (nms A).map .str := (List.map_map ..).symm
    have ln : (nms A).length ≤ 8 := by
      unfold nms
      rw [List.length_map]
      exact la
    rw [eA, ws_seq]
    walk_at "lx"
    refine ⟨rfl, pick_wp (m := 4) h1 ln (by omega) (by decide) (by decide) fun g1 δ2 hg1 h2 => ?_⟩
    have lg1 : g1.length ≤ 8 := Nat.le_trans hg1.length_le ln
    refine ⟨by rw [List.length_map]; omega, ?_⟩
    rw [ws_seq]
    refine WS.mono (P := fun f ρ δ => f = .nx ∧ ∃ gs : List Str, gs.Nodup ∧ (∀ x ∈ gs, NmOk x) ∧ gs.length ≤ 8 ∧ DkOk (200 * k + 170) δ ∧ ρ = [.no, .deck, .val (.list (nn.map .str)), .val dd, .val (TR A), .val (.list ((nms A).map .str)), .no, .val (.list (gs.map .str)), .no, t9, t10, t11, t12, .no]) ?_ (fun f ρ δ h => ?_)
    · walk_at "lx"
      refine next_wp h2 (by omega) (by decide) (by decide) fun r δ3 r0 r1 h3 => ?_
      walk_at "lx"
      by_cases hr : r = 0
      · rw [decide_eq_true hr, if_pos rfl]
        refine ⟨rfl, pick_wp (m := 5) h3 (by omega) (by omega) (by decide) (by decide) fun g2 δ4 hg2 h4 => ?_⟩
        have lg2 : g2.length ≤ 8 := Nat.le_trans hg2.length_le (by omega)
        refine ⟨by rw [List.length_map]; omega, g2, hg2.nodup hnn.nd, fun x hx => hnn.nm x (hg2.subset hx), lg2, h4.mono (by omega), rfl⟩
      · rw [decide_eq_false hr, if_neg Bool.false_ne_true]
        exact ⟨g1, hg1.nodup hA.nd, fun x hx => by
          obtain ⟨r, hr, rfl⟩ := List.mem_map.mp (hg1.subset hx)
          exact hA.nm r hr, lg1, h3.mono (by omega), rfl⟩
    obtain ⟨rfl, gs, gnd, gnm, lg, h3, rfl⟩ := h
    rw [onNx_nx, ws_seq]
    walk_at "lx"
    refine .of (sorted_eq (ns := gs) (by omega)) (.of (z := .tuple ((srt gs).map .str)) rfl ?_)
    refine list_wp h3 (by omega) hnn hnl fun C δ4 hC0 h4 => ?_
    have hC := rs_ok hnn hnl hC0
    have lc := hC.ln
    have snd : (srt gs).Nodup := (srt_perm _).symm.nodup gnd
    have snm : ∀ x ∈ srt gs, NmOk x := fun x hx => gnm x ((srt_perm _).mem_iff.mp hx)
    have sln : (srt gs).length ≤ 8 := by rw [(srt_perm _).length_eq]; exact lg
    generalize srt gs = g at snd snm sln
    refine ⟨by omega, ?_⟩
    have sw : Sw 12 141000 (.list [TR A, .tuple [.tuple (g.map .str), TR C]]) := by
      refine Sw.mono (Sw.lst (m := 11) (k := 70000) fun d hd => ?_) (by decide) (by simp)
      simp only [List.mem_cons, List.not_mem_nil, or_false] at hd
      rcases hd with rfl | rfl
      · exact (sw_TR hA.nm la).mono (by decide) (by decide)
      · refine Sw.mono (Sw.tup (m := 10) (k := 33000) fun d hd => ?_) (by decide) (by simp)
        simp only [List.mem_cons, List.not_mem_nil, or_false] at hd
        rcases hd with rfl | rfl
        · refine Sw.mono (Sw.tup (m := 0) (k := 82) fun d hd => ?_) (by decide) (by rw [List.length_map]; omega)
          obtain ⟨x, hx, rfl⟩ := List.mem_map.mp hd
          exact sw_nm (snm x hx)
        · exact sw_TR hC.nm lc
    rw [ws_seq]
    walk_at "lx"
    refine ⟨by omega, .of (repr_of sw) ?_⟩
    rw [ws_seq]
    walk_at "lx"
    refine .of (l_led_eq hA hC (fun x hx => (snm x hx).ok) sln) ?_
    rw [ws_seq]
    walk_at "lx"
    rw [ws_seq]
    refine ws_tryE ?_
    walk_at "lx"
    refine ⟨_, led_eq hA hC snd, ?_⟩
    have sN : Sw 0 10 .none := ⟨by decide, by decide, by simp [PyData.showable], by simp [PyData.hasDict], by simp [PyData.depth]⟩
    have fin : ∀ (t11 t12 : Sl), ∃ (t3 t4 t5 t7 t9 t10 t11' t12' : Sl) (k' : Nat), k' + left.length = 8 ∧ DkOk (200 * k' + 100) δ4 ∧ [Sl.no, Sl.deck, Sl.val (PyData.list (List.map PyData.str nn)), Sl.val dd, Sl.val (TR A), Sl.val (PyData.list (List.map PyData.str (nms A))), Sl.no, Sl.val (PyData.list (List.map PyData.str gs)), Sl.no, Sl.val (PyData.tuple [PyData.tuple (List.map PyData.str g), TR C]), Sl.val (.str (PyData.list [TR A, PyData.tuple [PyData.tuple (List.map PyData.str g), TR C]]).shown), t11, t12, Sl.no] = [Sl.no, Sl.deck, Sl.val (PyData.list (List.map PyData.str nn)), t3, t4, t5, Sl.no, t7, Sl.no, t9, t10, t11', t12', Sl.no] := fun t11 t12 => ⟨_, _, _, _, _, _, _, _, k + 1, by omega, h4.mono (by omega), rfl⟩
    by_cases hall : ∀ x ∈ g, x ∈ nms A
    · rw [if_pos hall, if_pos hall]
      dsimp only
      refine ⟨by simp, ?_⟩
      refine .of (repr_TR (led_nm hA hC) (led_len hA hC)) (.of (repr_TR (led_nm hA hC) (led_len hA hC)) ?_)
      walk_at "lx"
      refine ⟨by omega, .of (repr_of sw) ?_⟩
      walk_at "lx"
      exact fin _ _
    · rw [if_neg hall, if_neg hall]
      dsimp only
      refine ⟨rfl, ?_⟩
      refine .of (repr_of sN) (.of (repr_of sN) ?_)
      walk_at "lx"
      refine ⟨by omega, .of (repr_of sw) ?_⟩
      walk_at "lx"
      exact fin _ _
  · obtain ⟨t3, t4, t5, t7, t9, t10, t11, t12, k, hk, hD, rfl⟩ := hI
    walk_at "lx"
end K67

namespace K67
open PySem PySem.Spec PyProof.Rows L2 PD
set_option maxHeartbeats 0 in
theorem all_mk {l : PySem.W.OpenLaw} {w : World} {K : PySem.W.Frag} {h : Heap} {mg : Str → Option Value} {fa : Addr} (X : K.In h) (G : h.Ns mainGlobals mg) (hfa : mg "law" = some (.ref fa))
    (hm : ∀ ns : List Int, ns.length ≤ 63 → ∃ ρ' δ', m_law (slots N_law.length [.no, .deck]) (deckOf ns) = some (.rt (.bool true), ρ', δ'))
    {f0 : Addr} {od0 an0 : Option Addr} {sl0 : Array (Option Value)} {oc0 kV0 dc0 pm0 cd0 ct0 : Value}
    (a0 : PySem.W.nsIn K mainGlobals "rows_by_name" = some (some (.ref f0))) (l0 : K.lookup f0 = some ⟨oc0, od0, .func (PySem.W.fnOf "rows_by_name" "rows_by_name" (defArgs s_rows_by_name) (defBody s_rows_by_name) (defScope s_rows_by_name) .none kV0 dc0 pm0 an0 cd0 ct0), sl0⟩) (c0 : PySem.W.codeIn K cd0 "rows_by_name" = true) (k0 : PySem.W.keepIn K (.ref f0) = true)
    {f1 : Addr} {od1 an1 : Option Addr} {sl1 : Array (Option Value)} {oc1 kV1 dc1 pm1 cd1 ct1 : Value}
    (a1 : PySem.W.nsIn K mainGlobals "led" = some (some (.ref f1))) (l1 : K.lookup f1 = some ⟨oc1, od1, .func (PySem.W.fnOf "led" "led" (defArgs s_led) (defBody s_led) (defScope s_led) .none kV1 dc1 pm1 an1 cd1 ct1), sl1⟩) (c1 : PySem.W.codeIn K cd1 "led" = true) (k1 : PySem.W.keepIn K (.ref f1) = true)
    {f2 : Addr} {od2 an2 : Option Addr} {sl2 : Array (Option Value)} {oc2 kV2 dc2 pm2 cd2 ct2 : Value}
    (a2 : PySem.W.nsIn K mainGlobals "_law_draws" = some (some (.ref f2))) (l2 : K.lookup f2 = some ⟨oc2, od2, .func (PySem.W.fnOf "_law_draws" "_law_draws" (defArgs s_l_draws) (defBody s_l_draws) (defScope s_l_draws) .none kV2 dc2 pm2 an2 cd2 ct2), sl2⟩) (c2 : PySem.W.codeIn K cd2 "_law_draws" = true) (k2 : PySem.W.keepIn K (.ref f2) = true)
    {f3 : Addr} {od3 an3 : Option Addr} {sl3 : Array (Option Value)} {oc3 kV3 dc3 pm3 cd3 ct3 : Value}
    (a3 : PySem.W.nsIn K mainGlobals "_law_next" = some (some (.ref f3))) (l3 : K.lookup f3 = some ⟨oc3, od3, .func (PySem.W.fnOf "_law_next" "_law_next" (defArgs s_l_next) (defBody s_l_next) (defScope s_l_next) .none kV3 dc3 pm3 an3 cd3 ct3), sl3⟩) (c3 : PySem.W.codeIn K cd3 "_law_next" = true) (k3 : PySem.W.keepIn K (.ref f3) = true)
    {f4 : Addr} {od4 an4 : Option Addr} {sl4 : Array (Option Value)} {oc4 kV4 dc4 pm4 cd4 ct4 : Value}
    (a4 : PySem.W.nsIn K mainGlobals "_law_names" = some (some (.ref f4))) (l4 : K.lookup f4 = some ⟨oc4, od4, .func (PySem.W.fnOf "_law_names" "_law_names" (defArgs s_l_names) (defBody s_l_names) (defScope s_l_names) .none kV4 dc4 pm4 an4 cd4 ct4), sl4⟩) (c4 : PySem.W.codeIn K cd4 "_law_names" = true) (k4 : PySem.W.keepIn K (.ref f4) = true)
    {f5 : Addr} {od5 an5 : Option Addr} {sl5 : Array (Option Value)} {oc5 kV5 dc5 pm5 cd5 ct5 : Value}
    (a5 : PySem.W.nsIn K mainGlobals "_law_row" = some (some (.ref f5))) (l5 : K.lookup f5 = some ⟨oc5, od5, .func (PySem.W.fnOf "_law_row" "_law_row" (defArgs s_l_row) (defBody s_l_row) (defScope s_l_row) .none kV5 dc5 pm5 an5 cd5 ct5), sl5⟩) (c5 : PySem.W.codeIn K cd5 "_law_row" = true) (k5 : PySem.W.keepIn K (.ref f5) = true)
    {f6 : Addr} {od6 an6 : Option Addr} {sl6 : Array (Option Value)} {oc6 kV6 dc6 pm6 cd6 ct6 : Value}
    (a6 : PySem.W.nsIn K mainGlobals "_law_list" = some (some (.ref f6))) (l6 : K.lookup f6 = some ⟨oc6, od6, .func (PySem.W.fnOf "_law_list" "_law_list" (defArgs s_l_list) (defBody s_l_list) (defScope s_l_list) .none kV6 dc6 pm6 an6 cd6 ct6), sl6⟩) (c6 : PySem.W.codeIn K cd6 "_law_list" = true) (k6 : PySem.W.keepIn K (.ref f6) = true)
    {f7 : Addr} {od7 an7 : Option Addr} {sl7 : Array (Option Value)} {oc7 kV7 dc7 pm7 cd7 ct7 : Value}
    (a7 : PySem.W.nsIn K mainGlobals "_law_led" = some (some (.ref f7))) (l7 : K.lookup f7 = some ⟨oc7, od7, .func (PySem.W.fnOf "_law_led" "_law_led" (defArgs s_l_led) (defBody s_l_led) (defScope s_l_led) .none kV7 dc7 pm7 an7 cd7 ct7), sl7⟩) (c7 : PySem.W.codeIn K cd7 "_law_led" = true) (k7 : PySem.W.keepIn K (.ref f7) = true)
    {f8 : Addr} {od8 an8 : Option Addr} {sl8 : Array (Option Value)} {oc8 kV8 dc8 pm8 cd8 ct8 : Value}
    (a8 : PySem.W.nsIn K mainGlobals "law" = some (some (.ref f8))) (l8 : K.lookup f8 = some ⟨oc8, od8, .func (PySem.W.fnOf "law" "law" (defArgs s_law) (defBody s_law) (defScope s_law) .none kV8 dc8 pm8 an8 cd8 ct8), sl8⟩) (c8 : PySem.W.codeIn K cd8 "law" = true) (k8 : PySem.W.keepIn K (.ref f8) = true)
    (z_dict : PySem.W.nsIn K mainGlobals "dict" = some none)
    (z_int : PySem.W.nsIn K mainGlobals "int" = some none)
    (z_isinstance : PySem.W.nsIn K mainGlobals "isinstance" = some none)
    (z_len : PySem.W.nsIn K mainGlobals "len" = some none)
    (z_list : PySem.W.nsIn K mainGlobals "list" = some none)
    (z_range : PySem.W.nsIn K mainGlobals "range" = some none)
    (z_repr : PySem.W.nsIn K mainGlobals "repr" = some none)
    (z_sorted : PySem.W.nsIn K mainGlobals "sorted" = some none)
    (z_tuple : PySem.W.nsIn K mainGlobals "tuple" = some none)
    {x_a y_a : Addr} (x_g : PySem.W.nsIn K mainGlobals "NoFit" = some (some (.ref x_a))) (y_g : PySem.W.nsIn K mainGlobals "HouseError" = some (some (.ref y_a)))
    (x_k : PySem.W.keepIn K (.ref x_a) = true)
    (x_x : PySem.W.excIn K x_a [.type "ValueError", .type "Exception", .type "BaseException", .type "object"] "ValueError.__new__" = true)
    (x_s : PySem.W.subIn K (.ref x_a) (.type "BaseException") = some true)
    (x_t : PySem.W.typeIn K (.ref x_a) = some (.type "type"))
    (x_c : ExcC K x_a)
    (x_m : PySem.W.exmOne K (.ref x_a) (.ref x_a) = some true)
    (x_i : PySem.W.kitOne K (.ref x_a) (.ref y_a) = some true)
    : ∃ fd : FuncData, (∀ (s : Shared) (v : Value), BindsTo s fd ⟨[v], []⟩ [("_law_script", v)]) ∧ ∀ base : Heap, K.In base → base.Ns mainGlobals mg → FnG l.prog w K mg base 4 fa fd ["_law_script"] (spLaw K) := by
  have e := hfa.symm.trans (PySem.W.mg_of X G a8)
  cases e
  have F0 := fun_mk (st := s_rows_by_name) l0 c0 k0
  have F1 := fun_mk (st := s_led) l1 c1 k1
  have F2 := fun_mk (st := s_l_draws) l2 c2 k2
  have F3 := fun_mk (st := s_l_next) l3 c3 k3
  have F4 := fun_mk (st := s_l_names) l4 c4 k4
  have F5 := fun_mk (st := s_l_row) l5 c5 k5
  have F6 := fun_mk (st := s_l_list) l6 c6 k6
  have F7 := fun_mk (st := s_l_led) l7 c7 k7
  have F8 := fun_mk (st := s_law) l8 c8 k8
  have b0 := F0.binds (ps := ["rows"]) fun _ _ _ _ _ _ us hl => match us, hl with | [_], _ => rfl
  have b1 := F1.binds (ps := ["rows", "delta"]) fun _ _ _ _ _ _ us hl => match us, hl with | [_, _], _ => rfl
  have b2 := F2.binds (ps := ["_law_script"]) fun _ _ _ _ _ _ us hl => match us, hl with | [_], _ => rfl
  have b3 := F3.binds (ps := ["_law_drawn", "_law_many"]) fun _ _ _ _ _ _ us hl => match us, hl with | [_, _], _ => rfl
  have b4 := F4.binds (ps := ["_law_drawn", "_law_many"]) fun _ _ _ _ _ _ us hl => match us, hl with | [_, _], _ => rfl
  have b5 := F5.binds (ps := ["_law_drawn", "_law_name"]) fun _ _ _ _ _ _ us hl => match us, hl with | [_, _], _ => rfl
  have b6 := F6.binds (ps := ["_law_drawn", "_law_names_here"]) fun _ _ _ _ _ _ us hl => match us, hl with | [_, _], _ => rfl
  have b7 := F7.binds (ps := ["_law_rows", "_law_change"]) fun _ _ _ _ _ _ us hl => match us, hl with | [_, _], _ => rfl
  have b8 := F8.binds (ps := ["_law_script"]) fun _ _ _ _ _ _ us hl => match us, hl with | [_], _ => rfl
  let T : Tx K mg := ⟨f0, _, F0, PySem.W.mg_of X G a0, b0, f1, _, F1, PySem.W.mg_of X G a1, b1, f2, _, F2, PySem.W.mg_of X G a2, b2, f3, _, F3, PySem.W.mg_of X G a3, b3, f4, _, F4, PySem.W.mg_of X G a4, b4, f5, _, F5, PySem.W.mg_of X G a5, b5, f6, _, F6, PySem.W.mg_of X G a6, b6, f7, _, F7, PySem.W.mg_of X G a7, b7, fa, _, F8, PySem.W.mg_of X G a8, b8, PySem.W.mg_none_of X G z_dict, PySem.W.mg_none_of X G z_int, PySem.W.mg_none_of X G z_isinstance, PySem.W.mg_none_of X G z_len, PySem.W.mg_none_of X G z_list, PySem.W.mg_none_of X G z_range, PySem.W.mg_none_of X G z_repr, PySem.W.mg_none_of X G z_sorted, PySem.W.mg_none_of X G z_tuple, x_a, PySem.W.mg_of X G x_g, x_k, x_x, x_s, x_t, x_c, x_m, y_a, PySem.W.mg_of X G y_g, x_i⟩
  exact ⟨PySem.W.fnOf "law" "law" (defArgs s_law) (defBody s_law) (defScope s_law) .none kV8 dc8 pm8 an8 cd8 ct8, fun s v => .of_eq rfl, fun base _ _ => ok_law T hm⟩
end K67
open PySem PySem.W PyProof.Rows
set_option maxHeartbeats 0 in
theorem PySem.Challenge.cw_tonguehouse_k67_deltas_led_holds : PySem.Challenge.rw_tonguehouse_k67_deltas_led.Holds := by
  w_on; o_law; k_head; (case hw => w_witness2)
  k_fill
  refine PD.walkG (l := PySem.Challenge.rw_tonguehouse_k67_deltas_led) (m := 63) (n := 4) (nm := "_law_script") (π := fun w => PD.spLaw _) rfl (by decide) rfl ⟨rfl, by decide, by decide⟩ (fun w h Y => PySem.W.kIn_of Y) ?F (fun _ _ a ns hl _ hS => ⟨a, ns, rfl, hS, hl, fun _ => rfl⟩)
  case F =>
    intro w mg fa h KX G hmg
    refine' K67.all_mk KX G hmg K67.main ?a0 ?l0 ?c0 ?k0 ?a1 ?l1 ?c1 ?k1 ?a2 ?l2 ?c2 ?k2 ?a3 ?l3 ?c3 ?k3 ?a4 ?l4 ?c4 ?k4 ?a5 ?l5 ?c5 ?k5 ?a6 ?l6 ?c6 ?k6 ?a7 ?l7 ?c7 ?k7 ?a8 ?l8 ?c8 ?k8 ?z_dict ?z_int ?z_isinstance ?z_len ?z_list ?z_range ?z_repr ?z_sorted ?z_tuple ?x_g ?y_g ?x_k ?x_x ?x_s ?x_t ?x_c ?x_m ?x_i
    (case a0 => k_is); (case l0 => k_is); (case c0 => k_is); (case k0 => k_is); (case a1 => k_is); (case l1 => k_is); (case c1 => k_is); (case k1 => k_is); (case a2 => k_is); (case l2 => k_is); (case c2 => k_is); (case k2 => k_is); (case a3 => k_is); (case l3 => k_is); (case c3 => k_is); (case k3 => k_is); (case a4 => k_is); (case l4 => k_is); (case c4 => k_is); (case k4 => k_is); (case a5 => k_is); (case l5 => k_is); (case c5 => k_is); (case k5 => k_is); (case a6 => k_is); (case l6 => k_is); (case c6 => k_is); (case k6 => k_is); (case a7 => k_is); (case l7 => k_is); (case c7 => k_is); (case k7 => k_is); (case a8 => k_is); (case l8 => k_is); (case c8 => k_is); (case k8 => k_is); (case z_dict => k_is); (case z_int => k_is); (case z_isinstance => k_is); (case z_len => k_is); (case z_list => k_is); (case z_range => k_is); (case z_repr => k_is); (case z_sorted => k_is); (case z_tuple => k_is); (case x_g => k_is); (case y_g => k_is); (case x_k => k_is); (case x_x => k_exc); (case x_s => k_is); (case x_t => k_is); (case x_c => constructor <;> k_is); (case x_m => kts_exm); (case x_i => kit_is)

