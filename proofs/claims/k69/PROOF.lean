import PyProof.Rows.All
import Wide.All
import OpenK.AllK
import Wide.FinOn
import HandS.Base
import HandS.Call
import HandS.List
import HandS.Comp
import HandS.Ends
import HandS.Dict
import HandS.Iter
import HandS.Text
import HandS.Words
import HandS.WordsList
import HandS.WordsDict
import HandS.Lambda
import HandS.ForMost
import HandS.TupAny
import HandS.TupMul
import HandS.IsInst
import HandS.Wide
import HandS.Deep
import HandS.Flow
import HandS.SetKeys
import HandS.Style
import HandS.Conv
import HandS.SortKw
import HandS.Flt
import KE.DatumOrd
import KE.KStateDown
import HandS.StrMore
import HandS.Defaults
import HandS.DictComp
import HandS.TryOnly
import PyProof.ListStr
import HandS.More
import PyProof.DictUpdate
import HandS.DictEq
import HandS.CallLocal
import PyProof.StrOps2
import PyProof.EqAt
import PyProof.NeKinds
import PyProof.EqKinds
import PyProof.FactsAll.dict_1
import HandS.Strs
import HandS.SetFor
import HandS.Zip
import PyProof.StrWalks
import PyProof.Draws
import PyProof.EnumMake
import HandS.Set
import PyProof.Rows.SortShellAny
import PyProof.P3In
import HandS.TupLe
import KE.SortData
import PyProof.Rows.StrIntSpec
import HandS.Replace
import HandS.FStr
import PyProof.StrReplace2
import PyProof.ToksMono
import KE.IntTextLaws
import OpenK.KOwn
import KE.KDictList
import HandS.ListItems
import PyProof.SliceStr2
import HandS.WordsExc
import HandS.ExcIs
import HandS.ExcInit
import KE.KExcSuper
import HandS.ExcField
import KE.KMinKey
import PyProof.WalkInts
import HandS.Nested
import HandS.EndTab
import KE.KNestM
import HandS.ExcOwn
import HandS.TryMany
import HandS.SlotsOwn
import OpenK.KOps
import PyProof.InstNe
import PySem.Challenge.RW_tonguehouse_k69_programs_and_deltas
set_option Elab.async false
set_option linter.all false
set_option maxRecDepth 100000
namespace PD
open PySem PySem.Spec PyProof.Rows L2
abbrev D := PyData
structure Dk where
  cells : List Int
  k : Int
  rests : List Int
  /-- the one number of a list that goes from hand to hand beside the first draw's deck -/
  lft : Option Int
/-- the deck's place: the outer list, the rests (which change), the cells -/
structure DP where
  o : Addr
  r : Addr
  c : Addr
  x : List V
  /-- the second address is a table of code objects that may grow; the name of what is made from it -/
  t : Option Str
  /-- the second draw beside a table: where the cells stand, which never change; the rests stand at the third address -/
  u : Option (Addr × Obj)
/-- what a def has for its own: a list, a dict -/
inductive Ow where
  | lst (ds : List D) | dic (es : List (D × D)) | dct (es : List (D × D)) | dcf (es : List (D × D))
/-- a slot that stays: the deck, or a def that was handed in -/
inductive Fx where
  | deck | fn (a : Addr) | left | tb (P : Addr) (q : Str) | man (md : Str × Str × Str × Str × Str) | ton (fd : PyData) (md : Str × Str × Str × Str × Str) | sm | kp (b : Bool) (js : List Nat)
inductive Sl where
  | no | val (d : D) | own (o : Ow) | fix (k : Fx)
abbrev Sl.deck : Sl := .fix .deck
abbrev Sl.left : Sl := .fix .left
abbrev Sl.fn (a : Addr) : Sl := .fix (.fn a)
abbrev Sl.uni (ds : List D) : Sl := .own (.lst ds)
abbrev Sl.dic (es : List (D × D)) : Sl := .own (.dic es)
theorem Sl.uni.injEq (a b : List D) : (Sl.uni a = Sl.uni b) = (a = b) := by simp
def keyD : Key → D
  | .inl i => .int i
  | .inr x => .str x
/-- a list, a tuple of the written part -/
def KT (K : PySem.W.Frag) (a : Addr) (xs : List V) : Prop :=
  ∃ (o : Obj) (its : Array Value) (n : Nat), K.lookup a = some o ∧ o.cls = .type "tuple" ∧ o.data = .seq its n ∧ its.size ≤ sizeLine ∧ Vals xs its.toList
def AL (K : PySem.W.Frag) (M : Addr → Prop) (H : Hp) (a : Addr) (xs : List V) : Prop := ¬ M a ∧ H a = some (.lst xs)
/-- a manner: three texts and a tuple, its object known -/
def ManS (xs : List V) : Prop := ∃ g p d b, xs = [.str g, .str p, .str d, .ref b]
/-- the first item is an object -/
def hdRef : List V → Bool
  | .ref _ :: _ => true
  | _ => false
/-- a new tuple: where its first item is an object its own object is known -/
def tupH (o : Obj) (xs : List V) : HO := if hdRef xs = true then .frz o (.tup xs) else .tup xs
inductive AT (K : PySem.W.Frag) (M : Addr → Prop) (H : Hp) (a : Addr) (xs : List V) : Prop
  | inl (h : ¬ M a ∧ H a = some (.tup xs)) (nr : hdRef xs = false)
  | inr (h : KT K a xs) (nr : hdRef xs = false)
  | man (n : ¬ M a) (o : Obj) (h : H a = some (.frz o (.tup xs))) (s : ManS xs)
  | pl (n : ¬ M a) (o : Obj) (h : H a = some (.frz o (.tup xs))) (hd : o.dict = none) (hr : hdRef xs = true)
theorem AT.new {K M H a xs} {o : Obj} (n : ¬ M a) (h : H a = some (tupH o xs)) (hd : o.dict = none) : AT K M H a xs := by
  unfold tupH at h
  by_cases hr : hdRef xs = true
  · rw [if_pos hr] at h; exact .pl n o h hd hr
  · rw [if_neg hr] at h; exact .inl ⟨n, h⟩ (by simpa using hr)
theorem tupH_ok {P : Program} {w : World} {H : Hp} {h : Heap} {a : Addr} {xs : List V} {its : List Value} {n : Nat} (hz : xs.length ≤ sizeLine) (r : Vals xs its) (e : h.get? a = some { cls := .type "tuple", data := .seq its.toArray n }) :
    ObjOk P w H h a (tupH { cls := .type "tuple", data := .seq its.toArray n } xs) := by
  have k : ObjOk P w H h a (.tup xs) := ⟨hz, its, r, _, e, rfl, _, rfl⟩
  unfold tupH
  split
  · exact ⟨e, k⟩
  · exact k
theorem AL.sq {K M H a xs} (h : AL K M H a xs) : SqL K H a xs := .inl (.inl h.2)
theorem AT.sq {K M H a xs} (h : AT K M H a xs) : SqT K H a xs := match h with
  | .inl h _ => .inl (.inl h.2)
  | .inr h _ => .inr h
  | .man _ o h _ => .inl (.inr ⟨o, h⟩)
  | .pl _ o h _ _ => .inl (.inr ⟨o, h⟩)
mutual
inductive Rep (K : PySem.W.Frag) (M : Addr → Prop) (H : Hp) : V → D → Prop
  | non : Rep K M H .non .none
  | bl (b : Bool) : Rep K M H (.bl b) (.bool b)
  | int (i : Int) : Rep K M H (.int i) (.int i)
  | str (x : Str) : Rep K M H (.str x) (.str x)
  | lst {a : Addr} {xs : List V} {ds : List D} : AL K M H a xs → Reps K M H xs ds → Rep K M H (.ref a) (.list ds)
  | tup {a : Addr} {xs : List V} {ds : List D} : AT K M H a xs → Reps K M H xs ds → Rep K M H (.ref a) (.tuple ds)
  | dic {a : Addr} {kvs : List (Key × V)} {es : List (D × D)} : ¬ M a → Rd H a (.dK kvs) → RepK K M H kvs es → Rep K M H (.ref a) (.dict es)
inductive Reps (K : PySem.W.Frag) (M : Addr → Prop) (H : Hp) : List V → List D → Prop
  | nil : Reps K M H [] []
  | cons {v : V} {vs : List V} {d : D} {ds : List D} : Rep K M H v d → Reps K M H vs ds → Reps K M H (v :: vs) (d :: ds)
inductive RepK (K : PySem.W.Frag) (M : Addr → Prop) (H : Hp) : List (Key × V) → List (D × D) → Prop
  | nil : RepK K M H [] []
  | cons {k : Key} {v : V} {kvs : List (Key × V)} {e : D} {es : List (D × D)} : Rep K M H v e → RepK K M H kvs es → RepK K M H ((k, v) :: kvs) ((keyD k, e) :: es)
end
/-- from (M, H) to (M', H'): what is not in M stays, and is not in M' -/
def Mv (M : Addr → Prop) (H : Hp) (M' : Addr → Prop) (H' : Hp) : Prop := ∀ a o, H a = some o → ¬ M a → H' a = some o ∧ ¬ M' a
theorem Mv.refl (M H) : Mv M H M H := fun _ _ h n => ⟨h, n⟩
theorem Mv.trans {M H M1 H1 M2 H2} (h : Mv M H M1 H1) (g : Mv M1 H1 M2 H2) : Mv M H M2 H2 := fun a o e n => g a o (h a o e n).1 (h a o e n).2
theorem Mv.same {M H H'} (h : ∀ a o, H a = some o → H' a = some o) : Mv M H M H' := fun a o e n => ⟨h a o e, n⟩
theorem Mv.rd {M H M' H' a u} (h : Mv M H M' H') (n : ¬ M a) (r : Rd H a u) : ¬ M' a ∧ Rd H' a u := by
  rcases r with r | ⟨o, r⟩
  · exact ⟨(h a _ r n).2, .inl (h a _ r n).1⟩
  · exact ⟨(h a _ r n).2, .inr ⟨o, (h a _ r n).1⟩⟩
theorem AL.mv {K M H M' H' a xs} (h : Mv M H M' H') (x : AL K M H a xs) : AL K M' H' a xs := ⟨(h _ _ x.2 x.1).2, (h _ _ x.2 x.1).1⟩
theorem AT.mv {K M H M' H' a xs} (h : Mv M H M' H') (x : AT K M H a xs) : AT K M' H' a xs := match x with
  | .inl x z => .inl ⟨(h a _ x.2 x.1).2, (h a _ x.2 x.1).1⟩ z
  | .inr x z => .inr x z
  | .man n o x s => .man (h a _ x n).2 o (h a _ x n).1 s
  | .pl n o x d z => .pl (h a _ x n).2 o (h a _ x n).1 d z
mutual
theorem Rep.mv {K M H M' H'} (h : Mv M H M' H') : ∀ {v d}, Rep K M H v d → Rep K M' H' v d
  | _, _, .non => .non
  | _, _, .bl b => .bl b
  | _, _, .int i => .int i
  | _, _, .str x => .str x
  | _, _, .lst a r => .lst (a.mv h) (Reps.mv h r)
  | _, _, .tup a r => .tup (a.mv h) (Reps.mv h r)
  | _, _, .dic n e r => .dic (h.rd n e).1 (h.rd n e).2 (RepK.mv h r)
theorem Reps.mv {K M H M' H'} (h : Mv M H M' H') : ∀ {vs ds}, Reps K M H vs ds → Reps K M' H' vs ds
  | _, _, .nil => .nil
  | _, _, .cons r t => .cons (Rep.mv h r) (Reps.mv h t)
theorem RepK.mv {K M H M' H'} (h : Mv M H M' H') : ∀ {vs ds}, RepK K M H vs ds → RepK K M' H' vs ds
  | _, _, .nil => .nil
  | _, _, .cons r t => .cons (Rep.mv h r) (RepK.mv h t)
end
theorem Reps.length {K M H} : ∀ {vs ds}, Reps K M H vs ds → vs.length = ds.length
  | _, _, .nil => rfl
  | _, _, .cons _ t => by simp only [List.length_cons, Reps.length t]
theorem Reps.get {K M H} : ∀ {vs ds} {i : Nat} {v}, Reps K M H vs ds → vs[i]? = some v → ∃ d, ds[i]? = some d ∧ Rep K M H v d
  | _, _, _, _, .nil, e => by simp at e
  | _, _, 0, _, .cons r _, e => by simp at e; subst e; exact ⟨_, rfl, r⟩
  | _, _, i + 1, v, .cons _ t, e => by simpa using Reps.get (i := i) (v := v) t (by simpa using e)
theorem Reps.get' {K M H} : ∀ {vs ds} {i : Nat} {d}, Reps K M H vs ds → ds[i]? = some d → ∃ v, vs[i]? = some v ∧ Rep K M H v d
  | _, _, _, _, .nil, e => by simp at e
  | _, _, 0, _, .cons r _, e => by simp at e; subst e; exact ⟨_, rfl, r⟩
  | _, _, i + 1, v, .cons _ t, e => by simpa using Reps.get' (i := i) (d := v) t (by simpa using e)
theorem Reps.append {K M H} : ∀ {vs ds ws es}, Reps K M H vs ds → Reps K M H ws es → Reps K M H (vs ++ ws) (ds ++ es)
  | _, _, _, _, .nil, s => s
  | _, _, _, _, .cons r t, s => .cons r (Reps.append t s)
theorem Reps.take {K M H} : ∀ {vs ds} (n : Nat), Reps K M H vs ds → Reps K M H (vs.take n) (ds.take n)
  | _, _, 0, _ => .nil
  | _, _, _ + 1, .nil => .nil
  | _, _, n + 1, .cons r t => .cons r (Reps.take n t)
theorem Reps.drop {K M H} : ∀ {vs ds} (n : Nat), Reps K M H vs ds → Reps K M H (vs.drop n) (ds.drop n)
  | _, _, 0, r => r
  | _, _, _ + 1, .nil => .nil
  | _, _, n + 1, .cons _ t => Reps.drop n t
/-- entries whose keys are tuples of numbers and texts -/
inductive RepT (K : PySem.W.Frag) (M : Addr → Prop) (H : Hp) : List (List Key × V) → List (D × D) → Prop
  | nil : RepT K M H [] []
  | cons {k : List Key} {v : V} {kvs : List (List Key × V)} {e : D} {es : List (D × D)} : Rep K M H v e → RepT K M H kvs es → RepT K M H ((k, v) :: kvs) ((.tuple (k.map keyD), e) :: es)
theorem RepT.mv {K M H M' H'} (h : Mv M H M' H') : ∀ {vs ds}, RepT K M H vs ds → RepT K M' H' vs ds
  | _, _, .nil => .nil
  | _, _, .cons r t => .cons (r.mv h) (RepT.mv h t)
inductive OwR (K : PySem.W.Frag) (M : Addr → Prop) (H : Hp) : HO → Ow → Prop
  | lst {xs : List V} {ds : List D} : Reps K M H xs ds → OwR K M H (.lst xs) (.lst ds)
  | dic {kvs : List (Key × V)} {es : List (D × D)} : RepK K M H kvs es → OwR K M H (.dK kvs) (.dic es)
  | dct {kvs : List (List Key × V)} {es : List (D × D)} : RepT K M H kvs es → OwR K M H (.dT kvs) (.dct es)
  /-- one that is walked: it stays -/
  | dcf {o : Obj} {kvs : List (List Key × V)} {es : List (D × D)} : RepT K M H kvs es → OwR K M H (.frz o (.dT kvs)) (.dcf es)
theorem OwR.mv {K M H M' H'} (h : Mv M H M' H') : ∀ {o w}, OwR K M H o w → OwR K M' H' o w
  | _, _, .lst r => .lst (r.mv h)
  | _, _, .dic r => .dic (r.mv h)
  | _, _, .dct r => .dct (r.mv h)
  | _, _, .dcf r => .dcf (r.mv h)
/-- what may change is there, and is no tuple -/
def mtO : Option HO → Prop
  | none => False
  | some (.tup _) => False
  | some (.ext _) => False
  | some (.frz _ (.lst _)) => False
  | some _ => True
theorem mtO.ne {H : Hp} {a : Addr} (h : mtO (H a)) : H a ≠ none := fun z => by rw [z] at h; exact h
theorem mtO.keep {H H' : Hp} {a : Addr} (h : mtO (H a)) (k : ∀ o, H a = some o → H' a = some o) : mtO (H' a) := by
  cases e : H a with
  | none => exact absurd e h.ne
  | some o => rw [k o e, ← e]; exact h
theorem mtO.tup {H : Hp} {a : Addr} {xs : List V} (h : mtO (H a)) : H a ≠ some (.tup xs) := fun z => by rw [z] at h; exact h
theorem OwR.nt {K M H o w} (r : OwR K M H o w) : (∀ ps, o ≠ .tbl ps) ∧ ∀ φ, o ≠ .ext φ := by cases r <;> exact ⟨fun _ z => (by cases z), fun _ z => (by cases z)⟩
theorem OwR.nf {K M H u w} (r : OwR K M H u w) : ∀ o xs, u ≠ .frz o (.lst xs) := by cases r <;> exact fun _ _ z => (by cases z)
theorem OwR.mt {K M H o w} (r : OwR K M H o w) : mtO (some o) := by cases r <;> trivial
/-- a frame: what the callers may change (M0), the deck's two addresses, the heap at its entry -/
structure Fr where
  M0 : Addr → Prop
  dk : Option DP
  H0 : Hp
  /-- so many tokens are out -/
  n : Nat
  /-- what is kept beside: objects, tuples of objects -/
  kp : Bool → List Nat → V → Prop
def Mm (F : Fr) (σ : L2.St) (ρ : List Sl) : Addr → Prop := fun a => F.M0 a ∨ ∃ (i : Nat) (w : Ow), ρ[i]? = some (.own w) ∧ σ[i]? = some (some (.ref a))
/-- the number in the fourth cell of the second draw's deck, where it has four -/
def dkLf (l : Option Int) : List V := match l with
  | some n => [.int n]
  | none => []
/-- where the rests stand, where the cells stand -/
def DP.rA (p : DP) : Addr := match p.u with
  | none => p.2
  | some _ => p.3
def DP.cA (p : DP) : Addr := match p.u with
  | none => p.3
  | some z => z.1
/-- the first draw's deck has two cells and no rests, the second draw's has three, or four -/
def dkTl (δ : Dk) (p : DP) : List V := if δ.rests = [] then [] else .ref p.rA :: dkLf δ.lft
/-- what the second address of the first draw's deck holds: nothing that is looked at, or the number that goes from hand to hand -/
def lx (l : Option Int) (p : DP) : List V := match l with
  | some n => [.int n]
  | none => p.x
def dkTwo (δ : Dk) (p : DP) : List V := if δ.rests = [] then lx δ.lft p else δ.rests.map V.int
def dkTri (δ : Dk) (p : DP) : List V := match p.u with
  | none => δ.cells.map V.int
  | some _ => δ.rests.map V.int
theorem TabS.kept {H H' : Hp} {P : Addr} {T : Str} (h : LamX.TabS H P T) (k : ∀ a o, (∀ xs, o ≠ .lst xs) → H a = some o → H' a = some o) : LamX.TabS H' P T := by
  obtain ⟨ps, h1, h2, h3⟩ := h
  refine ⟨ps, k _ _ (fun _ z => by cases z) h1, h2, fun pos cv hc => ?_⟩
  obtain ⟨c, e1, e2⟩ := h3 pos cv hc
  exact ⟨c, e1, k _ _ (fun _ z => by cases z) e2⟩
structure TabD (H : Hp) (p : DP) (δ : Dk) : Prop where
  s : ∀ T, p.t = some T → LamX.TabS H p.2 T
  c : ∀ z, p.u = some z → δ.rests ≠ [] ∧ p.t ≠ none ∧ H z.1 = some (.frz z.2 (.lst (δ.cells.map V.int)))
  n : p.u = none → p.t ≠ none → δ.rests = []
theorem TabD.no {H p δ} (h : p.t = none) (hu : p.u = none) : TabD H p δ := ⟨fun T e => (by rw [h] at e; cases e), fun z e => (by rw [hu] at e; cases e), fun _ n => absurd h n⟩
theorem TabD.ext {H H' p δ} (h : TabD H p δ) (k : ∀ a o, H a = some o → H' a = some o) : TabD H' p δ := ⟨fun T e => (h.s T e).ext k, fun z e => ⟨(h.c z e).1, (h.c z e).2.1, k _ _ (h.c z e).2.2⟩, h.n⟩
theorem TabD.as {H p δ δ'} (h : TabD H p δ) (e1 : δ'.cells = δ.cells) (e2 : δ'.rests = [] ↔ δ.rests = []) : TabD H p δ' := ⟨h.s, fun z e => ⟨fun y => (h.c z e).1 (e2.mp y), (h.c z e).2.1, by rw [e1]; exact (h.c z e).2.2⟩, fun a b => e2.mpr (h.n a b)⟩
theorem TabD.uN {H p δ} (h : TabD H p δ) (n : δ.rests = []) : p.u = none := by
  cases e : p.u with
  | none => rfl
  | some z => exact absurd n (h.c z e).1
theorem TabD.tN {H p δ} (h : TabD H p δ) (n : p.t = none) : p.u = none := by
  cases e : p.u with
  | none => rfl
  | some z => exact absurd n (h.c z e).2.1
/-- what is written stands apart -/
theorem TabD.at {H H' : Hp} {p : DP} {δ : Dk} {a : Addr} {u : HO} (h : TabD H p δ) (e : H a = some u) (n1 : ∀ ps, u ≠ .tbl ps) (n2 : ∀ φ, u ≠ .ext φ) (n3 : ∀ o xs, u ≠ .frz o (.lst xs)) (k : ∀ b, b ≠ a → H' b = H b) : TabD H' p δ := ⟨fun T eT => by
  obtain ⟨ps, h1, h2, h3⟩ := h.s T eT
  have na : p.2 ≠ a := fun z => by
    rw [z, e] at h1
    exact n1 ps (Option.some.inj h1)
  refine ⟨ps, by rw [k _ na]; exact h1, h2, fun pos cv hc => ?_⟩
  obtain ⟨c, e1, e2⟩ := h3 pos cv hc
  refine ⟨c, e1, ?_⟩
  rw [k]
  · exact e2
  · intro z
    rw [z, e] at e2
    exact n2 _ (Option.some.inj e2), fun z ez => by
  obtain ⟨c1, c2, c3⟩ := h.c z ez
  refine ⟨c1, c2, ?_⟩
  rw [k]
  · exact c3
  · intro y
    rw [y, e] at c3
    exact n3 _ _ (Option.some.inj c3), h.n⟩
theorem TabD.atM {H H1 H' : Hp} {p : DP} {δ δ1 : Dk} {a : Addr} (h : TabD H p δ) (h1 : TabD H1 p δ1) (e : H1 a = none) (m : mtO (H a)) (k : ∀ b, b ≠ a → H' b = H b) : TabD H' p δ := ⟨fun T eT => by
  obtain ⟨ps0, g1, _⟩ := h1.s T eT
  obtain ⟨ps, h1, h2, h3⟩ := h.s T eT
  have na : p.2 ≠ a := ne_of_none g1 e
  refine ⟨ps, by rw [k _ na]; exact h1, h2, fun pos cv hc => ?_⟩
  obtain ⟨c, e1, e2⟩ := h3 pos cv hc
  refine ⟨c, e1, ?_⟩
  rw [k]
  · exact e2
  · intro z
    rw [z] at e2
    rw [e2] at m
    exact m, fun z ez => by
  obtain ⟨c1, c2, c3⟩ := h.c z ez
  refine ⟨c1, c2, ?_⟩
  rw [k]
  · exact c3
  · intro y
    rw [y] at c3
    rw [c3] at m
    exact m, h.n⟩
theorem TabD.atT {H H' : Hp} {p : DP} {δ : Dk} {a : Addr} (h : TabD H p δ) (e : ∃ u, H a = some u ∧ ∀ ps, u ≠ .tbl ps) (m : mtO (H a)) (k : ∀ b, b ≠ a → H' b = H b) : TabD H' p δ := by
  obtain ⟨u, e, n⟩ := e
  exact h.at e n (fun φ z => by rw [e, z] at m; exact m) (fun o xs z => by rw [e, z] at m; exact m) k
theorem TabD.lst {H : Hp} {p : DP} {δ : Dk} {a : Addr} {xs : List V} {o : HO} (h : TabD H p δ) (e : H a = some (.lst xs)) : TabD (upd H a o) p δ := h.at e (fun _ z => by cases z) (fun _ z => by cases z) (fun _ _ z => by cases z) fun b n => upd_ne n
theorem TabD.new {H : Hp} {p : DP} {δ : Dk} {a : Addr} {o : HO} (h : TabD H p δ) (e : H a = none) : TabD (upd H a o) p δ := h.ext fun b u eb => by rw [upd_ne (ne_of_none eb e)]; exact eb
structure DeckAt (H : Hp) (p : DP) (δ : Dk) : Prop where
  ne : p.1 ≠ p.2
  ne2 : p.1 ≠ p.3
  ne3 : p.2 ≠ p.3
  one : H p.1 = some (.lst (.ref p.cA :: .int δ.k :: dkTl δ p))
  two : p.t = none → H p.2 = some (.lst (dkTwo δ p))
  tri : H p.3 = some (.lst (dkTri δ p))
  tab : TabD H p δ
/-- the second draw's deck -/
structure DeckN (H : Hp) (p : DP) (δ : Dk) (l : List V) : Prop where
  ne : p.1 ≠ p.rA
  ne2 : p.1 ≠ p.cA
  ne3 : p.rA ≠ p.cA
  rn : p.rA = p.2 ∨ p.rA = p.3
  one : H p.1 = some (.lst (.ref p.cA :: .int δ.k :: .ref p.rA :: l))
  two : H p.rA = some (.lst (δ.rests.map V.int))
  tri : H p.cA = some (.lst (δ.cells.map V.int)) ∨ ∃ o, H p.cA = some (.frz o (.lst (δ.cells.map V.int)))
structure DeckO (H : Hp) (p : DP) (δ : Dk) : Prop where
  ne : p.1 ≠ p.2
  ne2 : p.1 ≠ p.3
  ne3 : p.2 ≠ p.3
  one : H p.1 = some (.lst [.ref p.3, .int δ.k])
  two : p.t = none → H p.2 = some (.lst (lx δ.lft p))
  tri : H p.3 = some (.lst (δ.cells.map V.int))
  tab : TabD H p δ
theorem DeckN.sq {K : PySem.W.Frag} {H p δ l} (h : DeckN H p δ l) : SqL K H p.cA (δ.cells.map V.int) := h.tri.elim (fun e => .inl (.inl e)) fun ⟨o, e⟩ => .inl (.inr ⟨o, e⟩)
theorem DeckAt.is2 {H p δ} (h : DeckAt H p δ) : ∃ u, H p.2 = some u ∧ (u = .lst (dkTwo δ p) ∨ ∃ ps, u = .tbl ps) := by
  cases e : p.t with
  | none => exact ⟨_, h.two e, .inl rfl⟩
  | some q =>
    obtain ⟨ps, e1, _⟩ := h.tab.s q e
    exact ⟨_, e1, .inr ⟨ps, rfl⟩⟩
theorem DeckAt.ne2N {H p δ a} (h : DeckAt H p δ) (n : H a = none) : p.2 ≠ a := by
  obtain ⟨u, e, _⟩ := h.is2
  exact ne_of_none e n
theorem DeckAt.mt2 {H p δ} (h : DeckAt H p δ) : mtO (H p.2) := by
  obtain ⟨u, e, rfl | ⟨ps, rfl⟩⟩ := h.is2 <;> rw [e] <;> trivial
theorem DeckAt.new {H p δ} (h : DeckAt H p δ) (n : δ.rests ≠ []) : DeckN H p δ (dkLf δ.lft) := by
  have e1 := h.one
  rw [dkTl, if_neg n] at e1
  have e3 := h.tri
  unfold dkTri at e3
  cases hu : p.u with
  | none =>
    have ht : p.t = none := Classical.byContradiction fun z => n (h.tab.n hu z)
    have er : p.rA = p.2 := by unfold DP.rA; rw [hu]
    have ec : p.cA = p.3 := by unfold DP.cA; rw [hu]
    rw [hu] at e3
    refine ⟨by rw [er]; exact h.ne, by rw [ec]; exact h.ne2, by rw [er, ec]; exact h.ne3, .inl er, e1, by rw [er, h.two ht, dkTwo, if_neg n], .inl (by rw [ec]; exact e3)⟩
  | some z =>
    have er : p.rA = p.3 := by unfold DP.rA; rw [hu]
    have ec : p.cA = z.1 := by unfold DP.cA; rw [hu]
    rw [hu] at e3
    obtain ⟨_, _, c3⟩ := h.tab.c z hu
    have n1 : p.1 ≠ z.1 := fun y => by
      rw [y, c3] at e1
      cases e1
    have n3 : p.3 ≠ z.1 := fun y => by
      rw [y, c3] at e3
      cases e3
    exact ⟨by rw [er]; exact h.ne2, by rw [ec]; exact n1, by rw [er, ec]; exact n3, .inr er, e1, by rw [er]; exact e3, .inr ⟨z.2, by rw [ec]; exact c3⟩⟩
/-- what was written: the first list, the rests -/
theorem DeckAt.back {H H' p δ δ'} (h : DeckAt H p δ) (n : δ.rests ≠ []) (n' : δ'.rests ≠ []) (ec : δ'.cells = δ.cells) (e1 : H' p.1 = some (.lst (.ref p.cA :: .int δ'.k :: .ref p.rA :: dkLf δ'.lft))) (e2 : H' p.rA = some (.lst (δ'.rests.map V.int))) (k : ∀ a o, a ≠ p.1 → a ≠ p.rA → H a = some o → H' a = some o) : DeckAt H' p δ' := by
  have N := h.new n
  refine ⟨h.ne, h.ne2, h.ne3, by rw [e1, dkTl, if_neg n'], fun z => ?_, ?_, ?_⟩
  · have hu := h.tab.tN z
    have er : p.rA = p.2 := by unfold DP.rA; rw [hu]
    rw [← er, e2, dkTwo, if_neg n']
  · unfold dkTri
    cases hu : p.u with
    | none =>
      have er : p.rA = p.2 := by unfold DP.rA; rw [hu]
      have e3 := h.tri
      unfold dkTri at e3
      rw [hu] at e3
      show H' p.3 = some (.lst (δ'.cells.map V.int))
      rw [ec]
      exact k _ _ h.ne2.symm (by rw [er]; exact h.ne3.symm) e3
    | some z =>
      have er : p.rA = p.3 := by unfold DP.rA; rw [hu]
      show H' p.3 = some (.lst (δ'.rests.map V.int))
      rw [← er]
      exact e2
  · have kl : ∀ a o, (∀ xs, o ≠ .lst xs) → H a = some o → H' a = some o := fun a o no e => k a o (fun z => by rw [z, N.one] at e; exact no _ (Option.some.inj e).symm) (fun z => by rw [z, N.two] at e; exact no _ (Option.some.inj e).symm) e
    refine ⟨fun T eT => TabS.kept (h.tab.s T eT) kl, fun z ez => ?_, fun a b => absurd (h.tab.n a b) n⟩
    obtain ⟨c1, c2, c3⟩ := h.tab.c z ez
    exact ⟨n', c2, by rw [ec]; exact kl _ _ (fun _ y => by cases y) c3⟩
/-- a second draw's deck without a table -/
theorem DeckAt.mk2 {H p δ} (hu : p.u = none) (ht : p.t = none) (n : δ.rests ≠ []) (a : p.1 ≠ p.2) (b : p.1 ≠ p.3) (c : p.2 ≠ p.3) (e1 : H p.1 = some (.lst (.ref p.3 :: .int δ.k :: .ref p.2 :: dkLf δ.lft))) (e2 : H p.2 = some (.lst (δ.rests.map V.int))) (e3 : H p.3 = some (.lst (δ.cells.map V.int))) : DeckAt H p δ := by
  have er : p.rA = p.2 := by unfold DP.rA; rw [hu]
  have ec : p.cA = p.3 := by unfold DP.cA; rw [hu]
  exact ⟨a, b, c, by rw [dkTl, if_neg n, er, ec]; exact e1, fun _ => by rw [dkTwo, if_neg n]; exact e2, by unfold dkTri; rw [hu]; exact e3, TabD.no ht hu⟩
theorem DeckO.at {H p δ} (h : DeckO H p δ) (n : δ.rests = []) : DeckAt H p δ := by
  have hu := h.tab.uN n
  have ec : p.cA = p.3 := by unfold DP.cA; rw [hu]
  exact ⟨h.ne, h.ne2, h.ne3, by rw [h.one, dkTl, if_pos n, ec], fun z => by rw [h.two z, dkTwo, if_pos n], by unfold dkTri; rw [hu]; exact h.tri, h.tab⟩
/-- what never changes: tuples; and the mark at the address of sys.modules -/
def IsT (u : HO) : Prop := (∃ xs, u = .tup xs) ∨ (∃ o xs, u = .frz o (.tup xs)) ∨ ∃ o, u = .frz o (.own 0)
theorem tupH_is {o : Obj} {xs : List V} : IsT (tupH o xs) := by
  unfold tupH
  split
  · exact .inr (.inl ⟨_, _, rfl⟩)
  · exact .inl ⟨_, rfl⟩
theorem tupH_sq {K : PySem.W.Frag} {H : Hp} {a : Addr} {o : Obj} {xs : List V} (h : H a = some (tupH o xs)) : SqT K H a xs := by
  unfold tupH at h
  split at h
  · exact .inl (.inr ⟨o, h⟩)
  · exact .inl (.inl h)
theorem AT.mo {K M H M' H' a xs} (h : ∀ a u, IsT u → H a = some u → ¬ M a → H' a = some u ∧ ¬ M' a) (x : AT K M H a xs) : AT K M' H' a xs := match x with
  | .inl x z => .inl ⟨(h a _ (.inl ⟨_, rfl⟩) x.2 x.1).2, (h a _ (.inl ⟨_, rfl⟩) x.2 x.1).1⟩ z
  | .inr x z => .inr x z
  | .man n o x s => .man (h a _ (.inr (.inl ⟨_, _, rfl⟩)) x n).2 o (h a _ (.inr (.inl ⟨_, _, rfl⟩)) x n).1 s
  | .pl n o x d z => .pl (h a _ (.inr (.inl ⟨_, _, rfl⟩)) x n).2 o (h a _ (.inr (.inl ⟨_, _, rfl⟩)) x n).1 d z
mutual
/-- no list, no dict -/
def tpl : D → Bool
  | .list _ => false
  | .dict _ => false
  | .tuple ds => tpls ds
  | _ => true
def tpls : List D → Bool
  | [] => true
  | d :: ds => tpl d && tpls ds
end
mutual
theorem Rep.moT {K M H M' H'} (h : ∀ a u, IsT u → H a = some u → ¬ M a → H' a = some u ∧ ¬ M' a) : ∀ {v d}, tpl d = true → Rep K M H v d → Rep K M' H' v d
  | _, _, _, .non => .non
  | _, _, _, .bl b => .bl b
  | _, _, _, .int i => .int i
  | _, _, _, .str x => .str x
  | _, _, e, .lst _ _ => by simp [tpl] at e
  | _, _, e, .tup a r => .tup (a.mo h) (Reps.moT h (by simpa [tpl] using e) r)
  | _, _, e, .dic _ _ _ => by simp [tpl] at e
theorem Reps.moT {K M H M' H'} (h : ∀ a u, IsT u → H a = some u → ¬ M a → H' a = some u ∧ ¬ M' a) : ∀ {vs ds}, tpls ds = true → Reps K M H vs ds → Reps K M' H' vs ds
  | _, _, _, .nil => .nil
  | _, _, e, .cons r t => by
    simp only [tpls, Bool.and_eq_true] at e
    exact .cons (Rep.moT h e.1 r) (Reps.moT h e.2 t)
end
abbrev Md := Str × Str × Str × Str × Str
/-- the manner at a, n tokens out -/
def ManH (K : PySem.W.Frag) (M : Addr → Prop) (H : Hp) (a : Addr) (md : Md) (n : Nat) : Prop := ∃ (b : Addr) (o : Obj) (tg tp td : Tok) (nn : Nat), ¬ M a ∧ AT K M H b [.str md.2.2.2.1, .str md.2.2.2.2] ∧ H a = some (.frz o (.tup [.str md.1, .str md.2.1, .str md.2.2.1, .ref b])) ∧
  o.data = .seq #[.str md.1 tg, .str md.2.1 tp, .str md.2.2.1 td, .ref b] nn ∧ tg ≠ 0 ∧ tg < n
/-- the tongue at a: forms and a manner -/
def TonH (K : PySem.W.Frag) (M : Addr → Prop) (H : Hp) (a : Addr) (fd : D) (md : Md) (n : Nat) : Prop := ∃ (b : Addr) (v : V) (o : Obj), ¬ M a ∧ H a = some (tupH o [v, .ref b]) ∧ o.dict = none ∧ tpl fd = true ∧ Rep K M H v fd ∧ ManH K M H b md n
theorem ManH.mo {K : PySem.W.Frag} {M M' : Addr → Prop} {H H' : Hp} {a : Addr} {md : Md} {n n' : Nat} (h : ManH K M H a md n) (k : ∀ a u, IsT u → H a = some u → ¬ M a → H' a = some u ∧ ¬ M' a) (hn : n ≤ n') : ManH K M' H' a md n' := by
  obtain ⟨b, o, tg, tp, td, nn, na, h2, h1, h3, h4, h5⟩ := h
  exact ⟨b, o, tg, tp, td, nn, (k _ _ (.inr (.inl ⟨_, _, rfl⟩)) h1 na).2, h2.mo k, (k _ _ (.inr (.inl ⟨_, _, rfl⟩)) h1 na).1, h3, h4, Nat.lt_of_lt_of_le h5 hn⟩
theorem TonH.mo {K : PySem.W.Frag} {M M' : Addr → Prop} {H H' : Hp} {a : Addr} {fd : D} {md : Md} {n n' : Nat} (h : TonH K M H a fd md n) (k : ∀ a u, IsT u → H a = some u → ¬ M a → H' a = some u ∧ ¬ M' a) (hn : n ≤ n') : TonH K M' H' a fd md n' := by
  obtain ⟨b, v, o, na, h1, hd, h2, h3, h4⟩ := h
  obtain ⟨k1, k2⟩ := k a _ tupH_is h1 na
  exact ⟨b, v, o, k2, k1, hd, h2, h3.moT k h2, h4.mo k hn⟩
def FxR (K : PySem.W.Frag) (F : Fr) (k : Fx) (v : Option (Option V)) : Prop := match k with
  | .deck => ∃ p, F.dk = some p ∧ v = some (some (.ref p.1))
  | .fn a => v = some (some (.ref a))
  | .left => ∃ p, F.dk = some p ∧ p.t = none ∧ v = some (some (.ref p.2))
  | .tb P q => ∃ p, F.dk = some p ∧ p.t = some q ∧ p.2 = P
  | .man md => ∃ a, v = some (some (.ref a)) ∧ ManH K F.M0 F.H0 a md F.n
  | .ton fd md => ∃ a, v = some (some (.ref a)) ∧ TonH K F.M0 F.H0 a fd md F.n
  | .sm => ¬ F.M0 sysModules ∧ ∃ o, F.H0 sysModules = some (.frz o (.own 0))
  | .kp b js => ∃ x, v = some (some x) ∧ F.kp b js x
theorem FxR.mo {K} {F F' : Fr} {k v} (x : FxR K F k v) (hd : F'.dk = F.dk) (h : ∀ a u, IsT u → F.H0 a = some u → ¬ F.M0 a → F'.H0 a = some u ∧ ¬ F'.M0 a) (hn : F.n ≤ F'.n) (hk : ∀ b js x, F.kp b js x → F'.kp b js x := by exact fun _ _ _ h => h) : FxR K F' k v := by
  cases k with
  | deck => obtain ⟨p, e, q⟩ := x; exact ⟨p, hd.trans e, q⟩
  | fn a => exact x
  | left => obtain ⟨p, e, q⟩ := x; exact ⟨p, hd.trans e, q⟩
  | tb P q => obtain ⟨p, e, q⟩ := x; exact ⟨p, hd.trans e, q⟩
  | man md => obtain ⟨a, e, q⟩ := x; exact ⟨a, e, q.mo h hn⟩
  | ton fd md => obtain ⟨a, e, q⟩ := x; exact ⟨a, e, q.mo h hn⟩
  | sm => obtain ⟨n, o, e⟩ := x; exact ⟨(h _ _ (.inr (.inr ⟨o, rfl⟩)) e n).2, o, (h _ _ (.inr (.inr ⟨o, rfl⟩)) e n).1⟩
  | kp b js => obtain ⟨y, e, q⟩ := x; exact ⟨y, e, hk _ _ _ q⟩
/-- what is a def's own was not there at its entry; but a dict that is walked may stand in the frame -/
def Fre (F : Fr) (a : Addr) (w : Ow) : Prop := F.H0 a = none ∨ ∃ es, w = .dcf es
theorem Fre.mo {F F' : Fr} {a w} (h : Fre F a w) (k : F.H0 a = none → F'.H0 a = none) : Fre F' a w := h.imp k id
structure Good (K : PySem.W.Frag) (F : Fr) (σ : L2.St) (H : Hp) (ρ : List Sl) (δ : Dk) : Prop where
  len : σ.length = ρ.length
  val : ∀ (i : Nat) d, ρ[i]? = some (.val d) → ∃ v, σ[i]? = some (some v) ∧ Rep K (Mm F σ ρ) H v d
  own : ∀ (i : Nat) w, ρ[i]? = some (.own w) → ∃ a o, σ[i]? = some (some (.ref a)) ∧ H a = some o ∧ OwR K (Mm F σ ρ) H o w ∧ ¬ F.M0 a ∧ Fre F a w
  inj : ∀ (i j : Nat) ds es a, ρ[i]? = some (.own ds) → ρ[j]? = some (.own es) → σ[i]? = some (some (.ref a)) → σ[j]? = some (some (.ref a)) → i = j
  m0 : ∀ a, F.M0 a → mtO (H a)
  dsl : ∀ {k : Fx} (i : Nat), ρ[i]? = some (.fix k) → FxR K F k σ[i]?
  dck : ∀ p, F.dk = some p → F.M0 p.1 ∧ F.M0 p.2 ∧ F.M0 p.3 ∧ DeckAt H p δ
  fr : ∀ a o, F.H0 a = some o → (∀ p, F.dk = some p → a ≠ p.1 ∧ a ≠ p.2 ∧ a ≠ p.3) → H a = some o
theorem Good.frT {K F σ H ρ δ a u} (G : Good K F σ H ρ δ) (e : F.H0 a = some u) (n : ¬ F.M0 a) : H a = some u := G.fr a u e fun p hp => by
  obtain ⟨d1, d2, d3, _⟩ := G.dck p hp
  exact ⟨fun z => n (by rw [z]; exact d1), fun z => n (by rw [z]; exact d2), fun z => n (by rw [z]; exact d3)⟩
theorem Good.uni {K F σ H ρ δ} (G : Good K F σ H ρ δ) (i : Nat) (ds : List D) (h : ρ[i]? = some (.uni ds)) : ∃ a xs, σ[i]? = some (some (.ref a)) ∧ H a = some (.lst xs) ∧ Reps K (Mm F σ ρ) H xs ds ∧ ¬ F.M0 a ∧ F.H0 a = none := by
  obtain ⟨a, o, e1, e2, r, n⟩ := G.own i _ h
  cases r with
  | lst r => exact ⟨a, _, e1, e2, r, n.1, n.2.resolve_right fun z => by obtain ⟨es, z⟩ := z; cases z⟩
theorem Good.dic {K F σ H ρ δ} (G : Good K F σ H ρ δ) (i : Nat) (es : List (D × D)) (h : ρ[i]? = some (.dic es)) : ∃ a kvs, σ[i]? = some (some (.ref a)) ∧ H a = some (.dK kvs) ∧ RepK K (Mm F σ ρ) H kvs es ∧ ¬ F.M0 a ∧ F.H0 a = none := by
  obtain ⟨a, o, e1, e2, r, n⟩ := G.own i _ h
  cases r with
  | dic r => exact ⟨a, _, e1, e2, r, n.1, n.2.resolve_right fun z => by obtain ⟨es, z⟩ := z; cases z⟩
theorem Good.dct {K F σ H ρ δ} (G : Good K F σ H ρ δ) (i : Nat) (es : List (D × D)) (h : ρ[i]? = some (.own (.dct es))) : ∃ a kvs, σ[i]? = some (some (.ref a)) ∧ H a = some (.dT kvs) ∧ RepT K (Mm F σ ρ) H kvs es ∧ ¬ F.M0 a ∧ F.H0 a = none := by
  obtain ⟨a, o, e1, e2, r, n⟩ := G.own i _ h
  cases r with
  | dct r => exact ⟨a, _, e1, e2, r, n.1, n.2.resolve_right fun z => by obtain ⟨es, z⟩ := z; cases z⟩
theorem Good.dcf {K F σ H ρ δ} (G : Good K F σ H ρ δ) (i : Nat) (es : List (D × D)) (h : ρ[i]? = some (.own (.dcf es))) : ∃ a o kvs, σ[i]? = some (some (.ref a)) ∧ H a = some (.frz o (.dT kvs)) ∧ RepT K (Mm F σ ρ) H kvs es ∧ ¬ F.M0 a := by
  obtain ⟨a, o, e1, e2, r, n⟩ := G.own i _ h
  cases r with
  | dcf r => exact ⟨a, _, _, e1, e2, r, n.1⟩
theorem upd_keeps {H : Hp} {p : Addr} {o : HO} (h : H p = none) : ∀ a u, H a = some u → upd H p o a = some u := fun a u e => by
  rw [upd_ne (ne_of_none e h)]; exact e
theorem Good.keep {K F σ H H' ρ δ} (G : Good K F σ H ρ δ) (h : ∀ a o, H a = some o → H' a = some o) : Good K F σ H' ρ δ where
  len := G.len
  val := fun i d e => by
    obtain ⟨v, e1, r⟩ := G.val i d e
    exact ⟨v, e1, r.mv (Mv.same h)⟩
  own := fun i ds e => by
    obtain ⟨a, xs, e1, e2, r, n⟩ := G.own i ds e
    exact ⟨a, xs, e1, h _ _ e2, r.mv (Mv.same h), n⟩
  inj := G.inj
  m0 := fun a ha => (G.m0 a ha).keep (h a)
  dsl := G.dsl
  dck := fun p e => by
    obtain ⟨a, b, b3, c⟩ := G.dck p e
    exact ⟨a, b, b3, c.ne, c.ne2, c.ne3, h _ _ c.one, (fun z => h _ _ (c.two z)), h _ _ c.tri, c.tab.ext h⟩
  fr := fun a o e n => h _ _ (G.fr a o e n)
theorem Good.new {K F σ H ρ δ p o} (G : Good K F σ H ρ δ) (h : H p = none) : Good K F σ (upd H p o) ρ δ := G.keep (upd_keeps h)
theorem Good.mfree {K F σ H ρ δ p} (G : Good K F σ H ρ δ) (h : H p = none) : ¬ Mm F σ ρ p := by
  rintro (m | ⟨i, ds, e1, e2⟩)
  · exact (G.m0 p m).ne h
  · obtain ⟨a, xs, e3, e4, _⟩ := G.own i ds e1
    rw [e2] at e3
    cases e3
    rw [h] at e4
    cases e4
abbrev ME := List Sl → Dk → Option (D × Dk)
abbrev MT := List Sl → Dk → Option (Bool × Dk)
abbrev MA := List Sl → Dk → Option (List D × Dk)
def Snd (K : PySem.W.Frag) (t : TE) (m : ME) : Prop := ∀ F σ H ρ δ d δ', Good K F σ H ρ δ → m ρ δ = some (d, δ') → ∀ Q : VK,
  (∀ v H', Good K F σ H' ρ δ' → Mv (Mm F σ ρ) H (Mm F σ ρ) H' → Rep K (Mm F σ ρ) H' v d → Q v H') → t σ H Q
def SndT (K : PySem.W.Frag) (t : TT) (m : MT) : Prop := ∀ F σ H ρ δ d δ', Good K F σ H ρ δ → m ρ δ = some (d, δ') → ∀ Q : Bool → Hp → Prop,
  (∀ H', Good K F σ H' ρ δ' → Mv (Mm F σ ρ) H (Mm F σ ρ) H' → Q d H') → t σ H Q
def SndA (K : PySem.W.Frag) (t : TA) (m : MA) : Prop := ∀ F σ H ρ δ d δ', Good K F σ H ρ δ → m ρ δ = some (d, δ') → ∀ Q : List V → Hp → Prop,
  (∀ v H', Good K F σ H' ρ δ' → Mv (Mm F σ ρ) H (Mm F σ ρ) H' → Reps K (Mm F σ ρ) H' v d → Q v H') → t σ H Q
structure PD (X : Cx) (e : Expr) (m : ME) : Prop where
  ex : ∃ t, PE X e t ∧ Snd X.K t m
structure PDT (X : Cx) (e : Expr) (m : MT) : Prop where
  ex : ∃ t, PT X e t ∧ SndT X.K t m
structure PDA (X : Cx) (es : List Expr) (m : MA) : Prop where
  ex : ∃ t, PA X es t ∧ SndA X.K t m
def mVar (i : Nat) : ME := fun ρ δ => match ρ[i]? with
  | some (.val d) => some (d, δ)
  | _ => none
def mC (d : D) : ME := fun _ δ => some (d, δ)
theorem snd_c {K v d} (h : ∀ M H, Rep K M H v d) : Snd K (tC v) (mC d) := fun F σ H ρ δ d' δ' G e Q q => by
  cases e
  exact q v H G (Mv.refl _ _) (h _ _)
theorem snd_var {K i} : Snd K (tVar i) (mVar i) := fun F σ H ρ δ d' δ' G e Q q => by
  unfold mVar at e
  split at e
  · rename_i d h
    cases e
    obtain ⟨v, e1, r⟩ := G.val i _ h
    exact ⟨v, e1, q v H G (Mv.refl _ _) r⟩
  · cases e
section
variable {X : Cx}
theorem pd_int {i j pos} : PD X (.Constant (.int i) j pos) (mC (.int i)) := ⟨_, pe_int, snd_c fun _ _ => .int i⟩
theorem pd_bl {i j pos} : PD X (.Constant (.bool i) j pos) (mC (.bool i)) := ⟨_, pe_bl, snd_c fun _ _ => .bl i⟩
theorem pd_non {j pos} : PD X (.Constant .none j pos) (mC .none) := ⟨_, pe_non, snd_c fun _ _ => .non⟩
theorem pd_str {i j pos} : PD X (.Constant (.str i) j pos) (mC (.str i)) := ⟨_, pe_str, snd_c fun _ _ => .str i⟩
theorem pd_var (i : Nat) {x : Str} {pos : Pos} (hN : X.N[i]? = some x := by rfl) (hv : Vis X.env.scope x := by first | exact Or.inl rfl | exact Or.inr (Or.inl rfl) | exact Or.inr (Or.inr rfl)) (hd : (x == ("__debug__" : Str)) = false := by decide)
    (hcd : (x == ("__classdict__" : Str)) = false := by decide) : PD X (.Name x pos) (mVar i) := ⟨_, pe_var hN hv hd hcd, snd_var⟩
end
def OpS (K : PySem.W.Frag) (r : R2) (f : D → D → Option D) : Prop := ∀ F σ H ρ δ x y d e z, Good K F σ H ρ δ → Rep K (Mm F σ ρ) H x d → Rep K (Mm F σ ρ) H y e → f d e = some z → ∀ Q : VK,
  (∀ v H', (∀ a o, H a = some o → H' a = some o) → Rep K (Mm F σ ρ) H' v z → Q v H') → r x y H Q
def mBin (f : D → D → Option D) (a b : ME) : ME := fun ρ δ => (a ρ δ).bind fun p => (b ρ p.2).bind fun q => (f p.1 q.1).map fun z => (z, q.2)
theorem snd_bin {K r f ta tb a b} (o : OpS K r f) (ha : Snd K ta a) (hb : Snd K tb b) : Snd K (tOp r ta tb) (mBin f a b) := fun F σ H ρ δ d δ' G e Q q => by
  unfold mBin at e
  obtain ⟨⟨x, δ1⟩, e1, e⟩ := Option.bind_eq_some_iff.mp e
  obtain ⟨⟨y, δ2⟩, e2, e⟩ := Option.bind_eq_some_iff.mp e
  obtain ⟨z, e3, e⟩ := Option.map_eq_some_iff.mp e
  cases e
  refine ha F σ H ρ δ x δ1 G e1 _ fun v H1 G1 M1 R1 => hb F σ H1 ρ δ1 y δ2 G1 e2 _ fun u H2 G2 M2 R2 => ?_
  refine o F σ H2 ρ δ2 v u x y d G2 (R1.mv M2) R2 e3 _ fun w H3 k R3 => q w H3 (G2.keep k) ((M1.trans M2).trans (Mv.same k)) R3
theorem OpR.or {X : Cx} {f : Value → Value → Sem Value} {r r' : R2} (h : OpR X f r) (h' : OpR X f r') : OpR X f (fun x y H Q => r x y H Q ∨ r' x y H Q) := fun pins s σ H x y v u Q I rx ry q =>
  q.elim (fun q => h pins s σ H x y v u Q I rx ry q) (fun q => h' pins s σ H x y v u Q I rx ry q)
end PD
namespace PD
open PySem PySem.Spec PyProof.Rows L2
theorem OpS.or {K r r' f g} (h : OpS K r f) (h' : OpS K r' g) : OpS K (fun x y H Q => r x y H Q ∨ r' x y H Q) (fun d e => (f d e).orElse fun _ => g d e) := fun F σ H ρ δ x y d e z G rx ry hz Q q => by
  dsimp only at hz
  cases hf : f d e with
  | some w => rw [hf] at hz; cases hz; exact .inl (h F σ H ρ δ x y d e _ G rx ry hf Q q)
  | none => rw [hf] at hz; exact .inr (h' F σ H ρ δ x y d e z G rx ry hz Q q)
/-- ints under C -/
def onI (C : Int → Int → Bool) (g : Int → Int → D) : D → D → Option D
  | .int i, .int j => if C i j then some (g i j) else none
  | _, _ => none
theorem ops_I0 {K} {g : Int → Int → V} {g' : Int → Int → D} (hg : ∀ i j M H, Rep K M H (g i j) (g' i j)) : OpS K (rI0 g) (onI (fun _ _ => true) g') := fun F σ H ρ δ x y d e z G rx ry hz Q q => by
  unfold onI at hz
  split at hz
  · rename_i i j
    simp only [if_true] at hz
    cases hz
    cases rx
    cases ry
    exact ⟨i, j, rfl, rfl, q _ H (fun _ _ h => h) (hg i j _ _)⟩
  · cases hz
def onS (C : Str → Str → Bool) (g : Str → Str → D) : D → D → Option D
  | .str i, .str j => if C i j then some (g i j) else none
  | _, _ => none
theorem ops_addS {K} : OpS K (fun x y H Q => ∃ i j, x = .str i ∧ y = .str j ∧ i.length + j.length ≤ sizeLine ∧ Q (.str (i ++ j)) H) (onS (fun i j => decide (i.length + j.length ≤ sizeLine)) fun i j => .str (i ++ j)) := fun F σ H ρ δ x y d e z G rx ry hz Q q => by
  unfold onS at hz
  split at hz
  · rename_i i j
    split at hz
    · rename_i h
      cases hz
      cases rx
      cases ry
      exact ⟨i, j, rfl, rfl, of_decide_eq_true h, q _ H (fun _ _ h => h) (.str _)⟩
    · cases hz
  · cases hz
theorem ops_cmpS {K} {c : Str → Str → Bool} : OpS K (fun x y H Q => ∃ i j, x = .str i ∧ y = .str j ∧ Q (.bl (c i j)) H) (onS (fun _ _ => true) fun i j => .bool (c i j)) := fun F σ H ρ δ x y d e z G rx ry hz Q q => by
  unfold onS at hz
  split at hz
  · rename_i i j
    simp only [if_true] at hz
    cases hz
    cases rx
    cases ry
    exact ⟨i, j, rfl, rfl, q _ H (fun _ _ h => h) (.bl _)⟩
  · cases hz
def catL : D → D → Option D
  | .list xs, .list ys => if xs.length + ys.length ≤ sizeLine then some (.list (xs ++ ys)) else none
  | _, _ => none
theorem ops_catL {K} : OpS K rCat catL := fun F σ H ρ δ x y d e z G rx ry hz Q q => by
  unfold catL at hz
  split at hz
  · rename_i xs ys
    split at hz
    · rename_i h
      cases hz
      cases rx with
      | @lst a vs _ ha r1 =>
        cases ry with
        | @lst b ws _ hb r2 =>
          refine ⟨_, _, _, _, rfl, rfl, ha.2, hb.2, by rw [r1.length, r2.length]; exact h, fun p hp => ?_⟩
          have k := upd_keeps (o := .lst (vs ++ ws)) hp
          exact q _ _ k (.lst ⟨G.mfree hp, upd_same⟩ ((r1.append r2).mv (Mv.same k)))
    · cases hz
  · cases hz
/-- t + u, the new tuple's object known -/
def rCatP (K : PySem.W.Frag) : R2 := fun x y H Q => ∃ a b xs ys, x = .ref a ∧ y = .ref b ∧ SqT K H a xs ∧ SqT K H b ys ∧ xs.length + ys.length ≤ sizeLine ∧
  (xs = [] → Q (.ref b) H) ∧ (xs ≠ [] → ys = [] → Q (.ref a) H) ∧ (xs ≠ [] → ys ≠ [] → ∀ p, H p = none → ∀ o : Obj, o.dict = none → Q (.ref p) (upd H p (tupH o (xs ++ ys))))
theorem nilV {xs : List V} {us : List Value} (r : Vals xs us) : xs = [] ↔ us = [] := by
  cases r with
  | nil => simp
  | cons _ _ => simp
theorem op_catP {X : Cx} : OpR X (binaryOp .Add) (rCatP X.K) := fun pins s σ H x y v u Q I rx ry h => by
  obtain ⟨a, b, xs, ys, rfl, rfl, ha, hb, hz, q0, q1, q2⟩ := h
  by_cases hx : xs = []
  · exact op_catA pins s σ H _ _ v u Q I rx ry ⟨a, b, xs, ys, rfl, rfl, ha, hb, hz, q0, q1, fun z => absurd hx z⟩
  · cases rx
    cases ry
    obtain ⟨i1, r1, p1, _⟩ := I.tuple ha
    obtain ⟨i2, r2, p2, _⟩ := I.tuple hb
    refine HT.cat_tup p1 p2 (fun z => hx ((nilV r1).mpr z)) (fun z => ⟨.ref a, H, I, rfl, q1 hx ((nilV r2).mpr z)⟩) (fun z => ?_) (by rw [← r1.length, ← r2.length]; exact hz)
    exact ⟨.ref s.heap.objs.size, _, I.laid (t' := s.toks) (fun b ob q => Heap.get?_push_of_some _ q) (Nat.le_refl _) (tupH_ok (n := 0) (by rw [List.length_append]; exact hz) (r1.append r2) (Heap.get?_push_size _ rfl)), rfl, q2 hx (fun w => z ((nilV r2).mp w)) _ (I.hok.fresh (Nat.le_refl _)) _ rfl⟩
def catT : D → D → Option D
  | .tuple xs, .tuple ys => if xs.length + ys.length ≤ sizeLine then some (.tuple (xs ++ ys)) else none
  | _, _ => none
theorem ops_catT {K} : OpS K (rCatP K) catT := fun F σ H ρ δ x y d e z G rx ry hz Q q => by
  unfold catT at hz
  split at hz
  · rename_i xs ys
    split at hz
    · rename_i h
      cases hz
      cases rx with
      | @tup a vs _ ha r1 =>
        cases ry with
        | @tup b ws _ hb r2 =>
          refine ⟨_, _, _, _, rfl, rfl, ha.sq, hb.sq, by rw [r1.length, r2.length]; exact h, fun e => ?_, fun _ e => ?_, fun _ _ p hp => ?_⟩
          · subst e
            cases r1
            exact q _ H (fun _ _ h => h) (.tup hb r2)
          · subst e
            cases r2
            rw [List.append_nil] at q
            exact q _ H (fun _ _ h => h) (.tup ha r1)
          · refine fun o hd => ?_
            have k := upd_keeps (o := tupH o (vs ++ ws)) hp
            exact q _ _ k (.tup (.new (G.mfree hp) upd_same hd) ((r1.append r2).mv (Mv.same k)))
    · cases hz
  · cases hz
def addD : D → D → Option D := fun d e => (onI (fun _ _ => true) (fun i j => .int (i + j)) d e).orElse fun _ => (onS (fun i j => decide (i.length + j.length ≤ sizeLine)) (fun i j => .str (i ++ j)) d e).orElse fun _ => (catL d e).orElse fun _ => catT d e
def subD : D → D → Option D := onI (fun _ _ => true) fun i j => .int (i - j)
theorem Reps.flat {K M H} {vs : List V} {ds : List D} (r : Reps K M H vs ds) : ∀ n, Reps K M H (List.replicate n vs).flatten (List.replicate n ds).flatten
  | 0 => .nil
  | n + 1 => by
    rw [List.replicate_succ, List.replicate_succ, List.flatten_cons, List.flatten_cons]
    exact r.append (Reps.flat r n)
section
variable {X : Cx} {a b : Expr} {ma mb : ME} {pos : Pos}
theorem PD.op {op : Operator} {r : R2} {f : D → D → Option D} (ho : OpR X (binaryOp op) r) (s : OpS X.K r f) (ha : PD X a ma) (hb : PD X b mb) : PD X (.BinOp a op b pos) (mBin f ma mb) := by
  obtain ⟨ta, h1, s1⟩ := ha.ex
  obtain ⟨tb, h2, s2⟩ := hb.ex
  exact ⟨_, pe_op ho h1 h2, snd_bin s s1 s2⟩
theorem pd_add (ha : PD X a ma) (hb : PD X b mb) : PD X (.BinOp a .Add b pos) (mBin addD ma mb) :=
  PD.op (OpR.or op_add (OpR.or op_add_str (OpR.or op_cat op_catP))) (OpS.or (ops_I0 fun _ _ _ _ => .int _) (OpS.or ops_addS (OpS.or ops_catL ops_catT))) ha hb
theorem pd_sub (ha : PD X a ma) (hb : PD X b mb) : PD X (.BinOp a .Sub b pos) (mBin subD ma mb) := PD.op op_sub (ops_I0 fun _ _ _ _ => .int _) ha hb
def mUn (f : D → Option D) (a : ME) : ME := fun ρ δ => (a ρ δ).bind fun p => (f p.1).map fun z => (z, p.2)
mutual
theorem Rep.dp {K M H} : ∀ {v d}, Rep K M H v d → d.canLay0 = true → Dp K H v d
  | _, _, .non, _ => .non
  | _, _, .bl b, _ => .bl b
  | _, _, .int i, _ => .int i
  | _, _, .str x, _ => .str x
  | _, _, .lst a r, h => .lst a.sq (Reps.dp r (by simpa [PyData.canLay0] using h))
  | _, _, .tup a r, h => .tup a.sq (Reps.dp r (by simpa [PyData.canLay0] using h))
  | _, _, .dic _ _ _, h => by simp [PyData.canLay0] at h
theorem Reps.dp {K M H} : ∀ {v d}, Reps K M H v d → PyData.canLayAll0 d = true → DpAll K H v d
  | _, _, .nil, _ => .nil
  | _, _, .cons r t, h => by
    simp only [PyData.canLayAll0, Bool.and_eq_true] at h
    exact .cons (Rep.dp r h.1) (Reps.dp t h.2)
end
def eqD (d e : D) : Option D := if SeqAt.shaped d && SeqAt.shaped e then some (.bool (PyData.eqv d e)) else none
def neD (d e : D) : Option D := if SeqAt.shaped d && SeqAt.shaped e then some (.bool (!PyData.eqv d e)) else none
theorem ops_eqD {K} : OpS K (rEqD K) eqD := fun F σ H ρ δ x y d e z G rx ry hz Q q => by
  unfold eqD at hz
  split at hz
  · rename_i h
    rw [Bool.and_eq_true] at h
    cases hz
    exact ⟨d, e, rx.dp (SeqAt.canLay_of_shaped h.1), ry.dp (SeqAt.canLay_of_shaped h.2), h.1, h.2, q _ H (fun _ _ h => h) (.bl _)⟩
  · cases hz
theorem ops_neD {K} : OpS K (rNeD K) neD := fun F σ H ρ δ x y d e z G rx ry hz Q q => by
  unfold neD at hz
  split at hz
  · rename_i h
    rw [Bool.and_eq_true] at h
    cases hz
    exact ⟨d, e, rx.dp (SeqAt.canLay_of_shaped h.1), ry.dp (SeqAt.canLay_of_shaped h.2), h.1, h.2, q _ H (fun _ _ h => h) (.bl _)⟩
  · cases hz
def strLt (i j : Str) : Bool := decide (i.cps.toList < j.cps.toList)
def ltD : D → D → Option D := fun d e => (onI (fun _ _ => true) (fun i j => .bool (decide (i < j))) d e).orElse fun _ => onS (fun _ _ => true) (fun i j => .bool (strLt i j)) d e
def leD : D → D → Option D := fun d e => (onI (fun _ _ => true) (fun i j => .bool (decide (i ≤ j))) d e).orElse fun _ => onS (fun _ _ => true) (fun i j => .bool (!strLt j i)) d e
def gtD : D → D → Option D := fun d e => (onI (fun _ _ => true) (fun i j => .bool (decide (j < i))) d e).orElse fun _ => onS (fun _ _ => true) (fun i j => .bool (strLt j i)) d e
def geD : D → D → Option D := fun d e => (onI (fun _ _ => true) (fun i j => .bool (decide (j ≤ i))) d e).orElse fun _ => onS (fun _ _ => true) (fun i j => .bool (!strLt i j)) d e
/-- a comparison's rule: the operator, its mirror -/
structure CmpS (X : Cx) (op : CmpOp) (f : D → D → Option D) : Prop where
  ex : ∃ r, OpR X (compareOp op) r ∧ OpS X.K r f
theorem cs_eq (hu : X.A.units + 64 < cLine) : CmpS X .Eq eqD := ⟨_, op_eqD hu, ops_eqD⟩
theorem cs_ne (hu : X.A.units + 64 < cLine) : CmpS X .NotEq neD := ⟨_, op_neD hu, ops_neD⟩
theorem cs_lt : CmpS X .Lt ltD := ⟨_, OpR.or op_lt op_lt_str, OpS.or (ops_I0 fun _ _ _ _ => .bl _) ops_cmpS⟩
theorem cs_le : CmpS X .LtE leD := ⟨_, OpR.or op_le op_le_str, OpS.or (ops_I0 fun _ _ _ _ => .bl _) (ops_cmpS (c := fun i j => !strLt j i))⟩
theorem cs_gt : CmpS X .Gt gtD := ⟨_, OpR.or op_gt op_gt_str, OpS.or (ops_I0 fun _ _ _ _ => .bl _) (ops_cmpS (c := fun i j => strLt j i))⟩
def flatD : D → Bool
  | .none => true | .bool _ => true | .int _ => true | .str _ => true | _ => false
def inL (neg : Bool) : D → D → Option D
  | d, .list ds => if SeqAt.shaped d && SeqAt.shaped (.list ds) then some (.bool (neg ^^ ds.any fun z => PyData.eqv z d)) else none
  | _, _ => none
theorem ops_notInL {K} : OpS K (rNotInD K) (inL true) := fun F σ H ρ δ x y d e z G rx ry hz Q q => by
  unfold inL at hz
  split at hz
  · split at hz
    · rename_i h
      rw [Bool.and_eq_true] at h
      cases hz
      refine ⟨_, _, rx.dp (SeqAt.canLay_of_shaped h.1), ry.dp (SeqAt.canLay_of_shaped h.2), h.1, h.2, ?_⟩
      rw [Bool.true_xor] at q
      exact q _ H (fun _ _ h => h) (.bl _)
    · cases hz
  · cases hz
theorem Rep.flat {K M H v d} (r : Rep K M H v d) (h : flatD d = true) : flatV v = true := by cases r <;> first | rfl | simp [flatD] at h
theorem Reps.flatAll {K M H} : ∀ {vs ds}, Reps K M H vs ds → ds.all flatD = true → vs.all flatV = true
  | _, _, .nil, _ => rfl
  | _, _, .cons r t, h => by
    simp only [List.all_cons, Bool.and_eq_true] at h ⊢
    exact ⟨r.flat h.1, Reps.flatAll t h.2⟩
theorem Rep.eqv {K M H v w d e} (r : Rep K M H v d) (s : Rep K M H w e) (h : flatD d = true) (h' : flatD e = true) : eqV v w = PyData.eqv d e := by
  cases r <;> first | (simp [flatD] at h; done) | skip
  all_goals (cases s <;> first | (simp [flatD] at h'; done) | skip)
  all_goals simp [eqV, PyData.eqv]
theorem Reps.inV {K M H} {w e} (s : Rep K M H w e) (h' : flatD e = true) : ∀ {vs ds}, Reps K M H vs ds → ds.all flatD = true → L2.inV w vs = ds.any fun z => PyData.eqv z e
  | _, _, .nil, _ => rfl
  | _, _, .cons r t, h => by
    simp only [List.all_cons, Bool.and_eq_true] at h
    unfold L2.inV
    rw [List.any_cons, List.any_cons, r.eqv s h.1 h']
    congr 1
    exact Reps.inV s h' t h.2
def inT (neg : Bool) : D → D → Option D
  | d, .tuple ds => if flatD d && ds.all flatD then some (.bool (neg ^^ ds.any fun z => PyData.eqv z d)) else none
  | _, _ => none
theorem ops_inT {K neg} : OpS K (rIn K neg) (inT neg) := fun F σ H ρ δ x y d e z G rx ry hz Q q => by
  unfold inT at hz
  split at hz
  · split at hz
    · rename_i h
      rw [Bool.and_eq_true] at h
      cases hz
      cases ry with
      | @tup a vs _ ha r =>
        refine ⟨_, _, rfl, .inr ha.sq, rx.flat h.1, r.flatAll h.2, ?_⟩
        rw [r.inV rx h.1 h.2]
        cases neg with
        | true => rw [Bool.true_xor] at q; exact q _ H (fun _ _ h => h) (.bl _)
        | false => rw [Bool.false_xor] at q; exact q _ H (fun _ _ h => h) (.bl _)
    · cases hz
  · cases hz
def strIn (i j : Str) : Bool := !(Builtin.Str.occurrences j i 0 j.length 1).isEmpty
def inD (neg : Bool) : D → D → Option D := fun d e => (inL neg d e).orElse fun _ => (inT neg d e).orElse fun _ => onS (fun _ _ => true) (fun i j => .bool (neg ^^ strIn i j)) d e
theorem cs_notin (hu : X.A.units + 65 < cLine) : CmpS X .NotIn (inD true) := ⟨_, OpR.or (op_notInD hu) (OpR.or op_notIn_seq op_notin_str), OpS.or ops_notInL (OpS.or ops_inT (by
  have := ops_cmpS (K := X.K) (c := fun i j => !strIn i j)
  simp only [Bool.true_xor]
  exact this))⟩
theorem pd_cmp {op : CmpOp} {f : D → D → Option D} (c : CmpS X op f) (ha : PD X a ma) (hb : PD X b mb) (hm : behindInMarks op b = false) : PD X (.Compare a [op] [b] pos) (mBin f ma mb) := by
  obtain ⟨r, o, s⟩ := c.ex
  obtain ⟨ta, h1, s1⟩ := ha.ex
  obtain ⟨tb, h2, s2⟩ := hb.ex
  exact ⟨_, pe_cmpR o h1 h2 hm, snd_bin s s1 s2⟩
end
end PD
namespace PD
open PySem PySem.Spec PyProof.Rows L2
section
variable {X : Cx} {a b c : Expr} {ma mb mc : ME} {na nb : MT} {pos : Pos}
def mChain (f g : D → D → Option D) (a b c : ME) : ME := fun ρ δ => (a ρ δ).bind fun p => (b ρ p.2).bind fun q => (f p.1 q.1).bind fun z => match z with
  | .bool true => (c ρ q.2).bind fun w => (g q.1 w.1).map fun y => (y, w.2)
  | .bool false => some (.bool false, q.2)
  | _ => none
theorem snd_chain {K r r' f g ta tb tc a b c} (o : OpS K r f) (o' : OpS K r' g) (ha : Snd K ta a) (hb : Snd K tb b) (hc : Snd K tc c) : Snd K (tChain r r' ta tb tc) (mChain f g a b c) := fun F σ H ρ δ d δ' G e Q q => by
  unfold mChain at e
  obtain ⟨⟨x, δ1⟩, e1, e⟩ := Option.bind_eq_some_iff.mp e
  obtain ⟨⟨y, δ2⟩, e2, e⟩ := Option.bind_eq_some_iff.mp e
  obtain ⟨z, e3, e⟩ := Option.bind_eq_some_iff.mp e
  refine ha F σ H ρ δ x δ1 G e1 _ fun v H1 G1 M1 R1 => hb F σ H1 ρ δ1 y δ2 G1 e2 _ fun u H2 G2 M2 R2 => ?_
  refine o F σ H2 ρ δ2 v u x y z G2 (R1.mv M2) R2 e3 _ fun w H3 k R3 => ?_
  have M3 : Mv (Mm F σ ρ) H (Mm F σ ρ) H3 := (M1.trans M2).trans (Mv.same k)
  split at e
  · cases R3
    refine ⟨true, rfl, iteT ?_⟩
    obtain ⟨⟨w, δ3⟩, e4, e⟩ := Option.bind_eq_some_iff.mp e
    obtain ⟨y', e5, e⟩ := Option.map_eq_some_iff.mp e
    cases e
    refine hc F σ H3 ρ δ2 w δ3 (G2.keep k) e4 _ fun t H4 G4 M4 R4 => ?_
    exact o' F σ H4 ρ δ3 u t y w _ G4 (R2.mv ((Mv.same k).trans M4)) R4 e5 _ fun w' H5 k' R5 => q _ _ (G4.keep k') ((M3.trans M4).trans (Mv.same k')) R5
  · cases R3
    cases e
    exact ⟨false, rfl, iteF (q _ _ (G2.keep k) M3 (.bl _))⟩
  · cases e
theorem pd_chain {op op' : CmpOp} {f g : D → D → Option D} (h : CmpS X op f) (h' : CmpS X op' g) (ha : PD X a ma) (hb : PD X b mb) (hc : PD X c mc) (hm : lastMarks [op, op'] [b, c] = false := by with_unfolding_all rfl) :
    PD X (.Compare a [op, op'] [b, c] pos) (mChain f g ma mb mc) := by
  obtain ⟨r, o, s⟩ := h.ex
  obtain ⟨r', o', s'⟩ := h'.ex
  obtain ⟨ta, h1, s1⟩ := ha.ex
  obtain ⟨tb, h2, s2⟩ := hb.ex
  obtain ⟨tc, h3, s3⟩ := hc.ex
  exact ⟨_, pe_chain o o' h1 h2 h3 hm, snd_chain s s' s1 s2 s3⟩
def truD : D → Option Bool
  | .none => some false
  | .bool b => some b
  | .int i => some (i != 0)
  | .str x => if x.length ≤ sizeLine then some ((x.length : Int) != 0) else none
  | .list ds => some !ds.isEmpty
  | .tuple ds => some !ds.isEmpty
  | .dict _ => none
def mTru (m : ME) : MT := fun ρ δ => (m ρ δ).bind fun p => (truD p.1).map fun b => (b, p.2)
/-- a bool alone -/
def mB (m : ME) : MT := fun ρ δ => (m ρ δ).bind fun p => match p.1 with
  | .bool b => some (b, p.2)
  | _ => none
theorem snd_test {K t m} (h : Snd K t m) : SndT K (tTest t) (mB m) := fun F σ H ρ δ d δ' G e Q q => by
  obtain ⟨⟨x, δ1⟩, e1, e⟩ := Option.bind_eq_some_iff.mp e
  refine h F σ H ρ δ x δ1 G e1 _ fun v H1 G1 M1 R1 => ?_
  dsimp only at e
  split at e
  · cases R1; cases e
    exact ⟨_, rfl, q _ G1 M1⟩
  · cases e
theorem Reps.emp {K M H vs ds} (r : Reps K M H vs ds) : vs.isEmpty = ds.isEmpty := by cases r <;> rfl
theorem RepK.emp {K M H vs ds} (r : RepK K M H vs ds) : vs.isEmpty = ds.isEmpty := by cases r <;> rfl
theorem Rep.tru {K M H v d b} (r : Rep K M H v d) (h : truD d = some b) : TruV K v H b := by
  cases r with
  | non => cases h; rfl
  | bl b => cases h; rfl
  | int i => cases h; rfl
  | str x =>
    simp only [truD] at h
    split at h
    · cases h; exact ⟨by assumption, rfl⟩
    · cases h
  | lst a r => cases h; exact .inl ⟨_, a.sq, by rw [r.emp]⟩
  | tup a r => cases h; exact .inr (.inl ⟨_, a.sq, by rw [r.emp]⟩)
  | dic n e r => cases h
theorem pdt_cmp {op : CmpOp} {f : D → D → Option D} (h : CmpS X op f) (ha : PD X a ma) (hb : PD X b mb) (hm : behindInMarks op b = false) : PDT X (.Compare a [op] [b] pos) (mB (mBin f ma mb)) := by
  obtain ⟨r, o, s⟩ := h.ex
  obtain ⟨ta, h1, s1⟩ := ha.ex
  obtain ⟨tb, h2, s2⟩ := hb.ex
  exact ⟨_, pt_cmpR o h1 h2 hm, snd_test (snd_bin s s1 s2)⟩
structure PDW (X : Cx) (e : Expr) (m : MT) : Prop where
  ex : ∃ t, PW X e t ∧ SndT X.K t m
theorem PDW.pt {e : Expr} {m : MT} (h : PDW X e m) : PDT X e m := by
  obtain ⟨t, h1, s1⟩ := h.ex
  exact ⟨_, h1.pt, s1⟩
def tAndM (a b : MT) : MT := fun ρ δ => (a ρ δ).bind fun p => if p.1 = true then b ρ p.2 else some (false, p.2)
def tOrM (a b : MT) : MT := fun ρ δ => (a ρ δ).bind fun p => if p.1 = true then some (true, p.2) else b ρ p.2
def tNotM (a : MT) : MT := fun ρ δ => (a ρ δ).map fun p => (!p.1, p.2)
theorem pdw_and1 (ha : PDT X a na) : PDW X (.BoolOp .And [a] pos) na := by
  obtain ⟨t, h1, s1⟩ := ha.ex
  exact ⟨_, pw_and1 h1, s1⟩
theorem pdw_or1 (ha : PDT X a na) : PDW X (.BoolOp .Or [a] pos) na := by
  obtain ⟨t, h1, s1⟩ := ha.ex
  exact ⟨_, pw_or1 h1, s1⟩
theorem pdw_and {rest : List Expr} (ha : PDT X a na) (hb : PDW X (.BoolOp .And (b :: rest) pos) nb) : PDW X (.BoolOp .And (a :: b :: rest) pos) (tAndM na nb) := by
  obtain ⟨t, h1, s1⟩ := ha.ex
  obtain ⟨u, h2, s2⟩ := hb.ex
  refine ⟨_, pw_and h1 h2, fun F σ H ρ δ d δ' G e Q q => ?_⟩
  obtain ⟨⟨x, δ1⟩, e1, e⟩ := Option.bind_eq_some_iff.mp e
  refine s1 F σ H ρ δ x δ1 G e1 _ fun H1 G1 M1 => ?_
  cases x with
  | true => exact iteT (s2 F σ H1 ρ δ1 d δ' G1 e _ fun H2 G2 M2 => q _ G2 (M1.trans M2))
  | false => cases e; exact iteF (q _ G1 M1)
theorem pdw_or {rest : List Expr} (ha : PDT X a na) (hb : PDW X (.BoolOp .Or (b :: rest) pos) nb) : PDW X (.BoolOp .Or (a :: b :: rest) pos) (tOrM na nb) := by
  obtain ⟨t, h1, s1⟩ := ha.ex
  obtain ⟨u, h2, s2⟩ := hb.ex
  refine ⟨_, pw_or h1 h2, fun F σ H ρ δ d δ' G e Q q => ?_⟩
  obtain ⟨⟨x, δ1⟩, e1, e⟩ := Option.bind_eq_some_iff.mp e
  refine s1 F σ H ρ δ x δ1 G e1 _ fun H1 G1 M1 => ?_
  cases x with
  | false => exact iteF (s2 F σ H1 ρ δ1 d δ' G1 e _ fun H2 G2 M2 => q _ G2 (M1.trans M2))
  | true => cases e; exact iteT (q _ G1 M1)
def mAnd (a b : ME) : ME := fun ρ δ => (a ρ δ).bind fun p => match p.1 with
  | .bool true => b ρ p.2
  | .bool false => some (.bool false, p.2)
  | _ => none
def mOr (a b : ME) : ME := fun ρ δ => (a ρ δ).bind fun p => match p.1 with
  | .bool true => some (.bool true, p.2)
  | .bool false => b ρ p.2
  | _ => none
def notD : D → Option D
  | .bool b => some (.bool !b)
  | _ => none
theorem pd_one {op} (h : PD X a ma) : PD X (.BoolOp op [a] pos) ma := by
  obtain ⟨t, h1, s1⟩ := h.ex
  exact ⟨_, pe_one h1, s1⟩
theorem pd_and {rest : List Expr} (ha : PD X a ma) (hb : PD X (.BoolOp .And (b :: rest) pos) mb) : PD X (.BoolOp .And (a :: b :: rest) pos) (mAnd ma mb) := by
  obtain ⟨t, h1, s1⟩ := ha.ex
  obtain ⟨u, h2, s2⟩ := hb.ex
  refine ⟨_, pe_and h1 h2, fun F σ H ρ δ d δ' G e Q q => ?_⟩
  obtain ⟨⟨x, δ1⟩, e1, e⟩ := Option.bind_eq_some_iff.mp e
  refine s1 F σ H ρ δ x δ1 G e1 _ fun v H1 G1 M1 R1 => ?_
  dsimp only at e
  split at e
  · cases R1; exact ⟨_, rfl, iteT (s2 F σ H1 ρ δ1 d δ' G1 e _ fun v H2 G2 M2 R2 => q _ _ G2 (M1.trans M2) R2)⟩
  · cases R1; cases e; exact ⟨_, rfl, iteF (q _ _ G1 M1 (.bl _))⟩
  · cases e
theorem pd_not (ha : PD X a ma) : PD X (.UnaryOp .Not a pos) (mUn notD ma) := by
  obtain ⟨ta, h1, s1⟩ := ha.ex
  refine ⟨_, pe_not h1, fun F σ H ρ δ d δ' G e Q q => ?_⟩
  obtain ⟨⟨x, δ1⟩, e1, e⟩ := Option.bind_eq_some_iff.mp e
  obtain ⟨z, e3, e⟩ := Option.map_eq_some_iff.mp e
  cases e
  refine s1 F σ H ρ δ x δ1 G e1 _ fun v H1 G1 M1 R1 => ?_
  cases R1 <;> first | (simp [notD] at e3; done) | skip
  simp only [notD, Option.some.injEq] at e3
  subst e3
  exact ⟨_, rfl, q _ _ G1 M1 (.bl _)⟩
def mIf (t : MT) (a b : ME) : ME := fun ρ δ => (t ρ δ).bind fun p => if p.1 = true then a ρ p.2 else b ρ p.2
def mNil : MA := fun _ δ => some ([], δ)
def mCons (a : ME) (r : MA) : MA := fun ρ δ => (a ρ δ).bind fun p => (r ρ p.2).map fun q => (p.1 :: q.1, q.2)
theorem snd_nil {K} : SndA K tNil mNil := fun F σ H ρ δ d δ' G e Q q => by
  cases e
  exact q _ _ G (Mv.refl _ _) .nil
theorem snd_cons {K t u m r} (h : Snd K t m) (g : SndA K u r) : SndA K (tCons t u) (mCons m r) := fun F σ H ρ δ d δ' G e Q q => by
  obtain ⟨⟨x, δ1⟩, e1, e⟩ := Option.bind_eq_some_iff.mp e
  obtain ⟨⟨y, δ2⟩, e2, e⟩ := Option.map_eq_some_iff.mp e
  cases e
  exact h F σ H ρ δ x δ1 G e1 _ fun v H1 G1 M1 R1 => g F σ H1 ρ δ1 y _ G1 e2 _ fun vs H2 G2 M2 R2 => q _ _ G2 (M1.trans M2) (.cons (R1.mv M2) R2)
theorem pda_nil : PDA X [] mNil := ⟨_, pa_nil, snd_nil⟩
theorem pda_cons {e : Expr} {es : List Expr} {m : ME} {r : MA} (h : PD X e m) (g : PDA X es r) (hs : starEach (e :: es) X.env = (false, eval e X.env) :: starEach es X.env := by rfl) : PDA X (e :: es) (mCons m r) := by
  obtain ⟨t, h1, s1⟩ := h.ex
  obtain ⟨u, h2, s2⟩ := g.ex
  exact ⟨_, pa_cons h1 h2 hs, snd_cons s1 s2⟩
def mTup (r : MA) : ME := fun ρ δ => (r ρ δ).bind fun p => if p.1.length ≤ sizeLine then some (.tuple p.1, p.2) else none
def mLst (r : MA) : ME := fun ρ δ => (r ρ δ).bind fun p => if p.1.length ≤ sizeLine then some (.list p.1, p.2) else none
/-- a display, the new tuple's object known -/
def tTupP (t : TA) : TE := fun σ H Q => t σ H fun xs H1 => xs.length ≤ sizeLine ∧ ∀ p, H1 p = none → ∀ o : Obj, o.dict = none → Q (.ref p) (upd H1 p (tupH o xs))
theorem pe_tupP {es : List Expr} {t : TA} {k} (h : PA X es t) : PE X (.Tuple es k pos) (tTupP t) := ⟨fun pins s σ H Q I hq => by
  refine wpAny_Tuple_spliced (thn (h.run pos pins s σ H _ I hq) fun us s1 ⟨xs, H1, I1, r, z, q⟩ => ⟨by rw [← r.length]; exact z, ?_⟩)
  have hf : H1 s1.heap.objs.size = none := I1.hok.fresh (Nat.le_refl _)
  exact ⟨.ref s1.heap.objs.size, _, I1.laid (t' := s1.toks) (fun b u e => Heap.get?_push_of_some _ e) (Nat.le_refl _) (tupH_ok (n := 0) z r (Heap.get?_push_size _ rfl)), rfl, q _ hf _ rfl⟩⟩
theorem pd_tup {es : List Expr} {r : MA} {k} (h : PDA X es r) : PD X (.Tuple es k pos) (mTup r) := by
  obtain ⟨t, h1, s1⟩ := h.ex
  refine ⟨_, pe_tupP h1, fun F σ H ρ δ d δ' G e Q q => ?_⟩
  obtain ⟨⟨x, δ1⟩, e1, e⟩ := Option.bind_eq_some_iff.mp e
  dsimp only at e
  split at e
  · rename_i hl
    cases e
    refine s1 F σ H ρ δ x _ G e1 _ fun vs H1 G1 M1 R1 => ⟨by rw [R1.length]; exact hl, fun p hp o hd => ?_⟩
    have k := upd_keeps (o := tupH o vs) hp
    exact q _ _ (G1.keep k) (M1.trans (Mv.same k)) (.tup (.new (G1.mfree hp) upd_same hd) (R1.mv (Mv.same k)))
  · cases e
theorem pd_lst {es : List Expr} {r : MA} (h : PDA X es r) : PD X (.List es pos) (mLst r) := by
  obtain ⟨t, h1, s1⟩ := h.ex
  refine ⟨_, pe_lst h1, fun F σ H ρ δ d δ' G e Q q => ?_⟩
  obtain ⟨⟨x, δ1⟩, e1, e⟩ := Option.bind_eq_some_iff.mp e
  dsimp only at e
  split at e
  · rename_i hl
    cases e
    refine s1 F σ H ρ δ x _ G e1 _ fun vs H1 G1 M1 R1 => ⟨by rw [R1.length]; exact hl, fun p hp => ?_⟩
    have k := upd_keeps (o := .lst vs) hp
    exact q _ _ (G1.keep k) (M1.trans (Mv.same k)) (.lst ⟨G1.mfree hp, upd_same⟩ (R1.mv (Mv.same k)))
  · cases e
def ixD : D → D → Option D
  | .list ds, .int i => atI ds i
  | .tuple ds, .int i => atI ds i
  | .str x, .int i => if x.length ≤ sizeLine then (atI x.cps.toList i).map fun c => .str ⟨#[c]⟩ else none
  | _, _ => none
theorem Reps.atI {K M H vs ds i d} (r : Reps K M H vs ds) (h : L2.atI ds i = some d) : ∃ v, L2.atI vs i = some v ∧ Rep K M H v d := by
  unfold L2.atI at h ⊢
  obtain ⟨j, e1, e2⟩ := Option.bind_eq_some_iff.mp h
  rw [r.length, e1]
  exact r.get' e2
theorem ops_ix {K} : OpS K (rIx K) ixD := fun F σ H ρ δ x y d e z G rx ry hz Q q => by
  cases rx with
  | lst a r =>
    cases ry <;> first | (simp [ixD] at hz; done) | skip
    obtain ⟨v, e1, r1⟩ := r.atI hz
    exact .inl ⟨_, _, _, v, rfl, rfl, a.sq, e1, q _ _ (fun _ _ h => h) r1⟩
  | tup a r =>
    cases ry <;> first | (simp [ixD] at hz; done) | skip
    obtain ⟨v, e1, r1⟩ := r.atI hz
    exact .inr (.inl ⟨_, _, _, v, rfl, rfl, a.sq, e1, q _ _ (fun _ _ h => h) r1⟩)
  | str x =>
    cases ry <;> first | (simp [ixD] at hz; done) | skip
    simp only [ixD] at hz
    split at hz
    · rename_i hl
      obtain ⟨c, e1, e2⟩ := Option.map_eq_some_iff.mp hz
      subst e2
      exact .inr (.inr ⟨_, _, c, rfl, rfl, hl, e1, q _ _ (fun _ _ h => h) (.str _)⟩)
    · cases hz
  | _ => simp [ixD] at hz
def lookD : List (D × D) → D → Option D
  | [], _ => none
  | (.int i, v) :: r, .int j => if i = j then some v else lookD r (.int j)
  | (.str i, v) :: r, .str j => if i = j then some v else lookD r (.str j)
  | _ :: r, k => lookD r k
def dgetD : D → D → Option D
  | .dict es, k => lookD es k
  | _, _ => none
theorem valV_cons {κ : Type} [DecidableEq κ] {k j : κ} {v : V} {r : List (κ × V)} : valV ((k, v) :: r) j = if k = j then some v else valV r j := by
  unfold valV
  rw [List.find?_cons]
  by_cases h : k = j
  · simp [h]
  · simp [h]
theorem RepK.look {K M H} : ∀ {kvs es} {k : Key} {z}, RepK K M H kvs es → lookD es (keyD k) = some z → ∃ v, valV kvs k = some v ∧ Rep K M H v z
  | _, _, _, _, .nil, h => by simp [lookD] at h
  | _, _, k, z, .cons (k := k') r t, h => by
    rw [valV_cons]
    cases k' with
    | inl i =>
      cases k with
      | inl j =>
        simp only [keyD, lookD] at h
        by_cases hj : i = j
        · subst hj; rw [if_pos rfl] at h; cases h; exact ⟨_, if_pos rfl, r⟩
        · rw [if_neg hj] at h
          obtain ⟨v, e, r'⟩ := RepK.look (k := .inl j) t h
          exact ⟨v, by rw [if_neg (fun q => hj (Sum.inl.inj q))]; exact e, r'⟩
      | inr j =>
        simp only [keyD, lookD] at h
        obtain ⟨v, e, r'⟩ := RepK.look (k := .inr j) t h
        exact ⟨v, by rw [if_neg (fun q => nomatch q)]; exact e, r'⟩
    | inr i =>
      cases k with
      | inr j =>
        simp only [keyD, lookD] at h
        by_cases hj : i = j
        · subst hj; rw [if_pos rfl] at h; cases h; exact ⟨_, if_pos rfl, r⟩
        · rw [if_neg hj] at h
          obtain ⟨v, e, r'⟩ := RepK.look (k := .inr j) t h
          exact ⟨v, by rw [if_neg (fun q => hj (Sum.inr.inj q))]; exact e, r'⟩
      | inl j =>
        simp only [keyD, lookD] at h
        obtain ⟨v, e, r'⟩ := RepK.look (k := .inl j) t h
        exact ⟨v, by rw [if_neg (fun q => nomatch q)]; exact e, r'⟩
def keyOf : D → Option Key
  | .int i => some (.inl i)
  | .str x => some (.inr x)
  | _ => none
theorem lookD_key : ∀ {es : List (D × D)} {k z : D}, lookD es k = some z → (∀ p ∈ es, ∃ j, p.1 = keyD j) → ∃ j, k = keyD j
  | [], _, _, h, _ => by simp [lookD] at h
  | (e, v) :: r, k, z, h, ha => by
    obtain ⟨j, hj⟩ := ha (e, v) (.head _)
    cases k with
    | int i => exact ⟨.inl i, rfl⟩
    | str i => exact ⟨.inr i, rfl⟩
    | _ =>
      dsimp only at hj
      subst hj
      cases j <;> (simp only [keyD, lookD] at h; exact lookD_key h fun p hp => ha p (.tail _ hp))
theorem RepK.keys {K M H} : ∀ {kvs es}, RepK K M H kvs es → ∀ p ∈ es, ∃ j, p.1 = keyD j
  | _, _, .nil, _, h => by simp at h
  | _, _, .cons (k := k) r t, p, h => by
    rcases List.mem_cons.mp h with h | h
    · subst h; exact ⟨k, rfl⟩
    · exact RepK.keys t p h
theorem kV_rep {K M H v} {k : Key} (r : Rep K M H v (keyD k)) : v = kV k := by cases k <;> (cases r; rfl)
theorem keyOf_rep {K M H v d k} (r : Rep K M H v d) (h : keyOf d = some k) : v = kV k := by
  cases d <;> simp only [keyOf, Option.some.injEq, reduceCtorEq] at h <;> (subst h; cases r; rfl)
def subD' : D → D → Option D := fun d e => (ixD d e).orElse fun _ => dgetD d e
theorem pd_ix (hu : X.A.units + 1 < cLine) (ha : PD X a ma) (hb : PD X b mb) (hs : PlainIx b := by exact fun _ _ => rfl) : PD X (.Subscript a b pos) (mBin subD' ma mb) := by
  obtain ⟨ta, h1, s1⟩ := ha.ex
  obtain ⟨tb, h2, s2⟩ := hb.ex
  have p1 := pe_ix (pos := pos) ix_seq h1 h2 hs
  have p2 := pe_dget (pos := pos) hu h1 h2 hs
  refine ⟨fun σ H Q => tOp (rIx X.K) ta tb σ H Q ∨ tDGet ta tb σ H Q, ⟨fun pins s σ H Q I q => q.elim (fun q => p1.run pins s σ H Q I q) (fun q => p2.run pins s σ H Q I q)⟩, fun F σ H ρ δ d δ' G e Q q => ?_⟩
  unfold mBin at e
  obtain ⟨⟨x, δ1⟩, e1, e⟩ := Option.bind_eq_some_iff.mp e
  obtain ⟨⟨y, δ2⟩, e2, e⟩ := Option.bind_eq_some_iff.mp e
  obtain ⟨z, e3, e⟩ := Option.map_eq_some_iff.mp e
  cases e
  unfold subD' at e3
  cases hx : ixD x y with
  | some w =>
    left
    rw [hx] at e3; cases e3
    exact snd_bin ops_ix s1 s2 F σ H ρ δ _ _ G (by unfold mBin; rw [e1]; simp only [Option.bind_some]; rw [e2]; simp only [Option.bind_some]; rw [hx]; rfl) Q q
  | none =>
    right
    rw [hx] at e3
    refine s1 F σ H ρ δ x δ1 G e1 _ fun v H1 G1 M1 R1 => s2 F σ H1 ρ δ1 y _ G1 e2 _ fun u H2 G2 M2 R2 => ?_
    have R1' := R1.mv M2
    replace e3 : dgetD x y = some d := e3
    unfold dgetD at e3
    split at e3
    · cases R1' with
      | dic n he r =>
        obtain ⟨j, hj⟩ := lookD_key e3 r.keys
        subst hj
        obtain ⟨v', e4, r4⟩ := r.look e3
        have := kV_rep R2
        subst this
        refine ⟨_, v', rfl, ?_, q _ _ G2 (M1.trans M2) r4⟩
        rw [← e4]
        exact .inl ⟨_, _, he, rfl, rfl⟩
    · cases e3
def cutD (ds : List D) (lo hi : Option Int) : List D := (ds.drop (HT.sIx ds.length 0 lo)).take (HT.sIx ds.length ds.length hi - HT.sIx ds.length 0 lo)
def slD (lo hi : Option Int) : D → Option D
  | .list ds => some (.list (cutD ds lo hi))
  | .tuple ds => some (.tuple (cutD ds lo hi))
  | .str x => if x.length ≤ sizeLine then some (.str (cutS x lo hi)) else none
  | _ => none
theorem Reps.cut {K M H vs ds lo hi} (r : Reps K M H vs ds) : Reps K M H (cutV vs lo hi) (cutD ds lo hi) := by
  unfold cutV cutD
  rw [r.length]
  exact (r.drop _).take _
theorem Reps.whole {K M H vs ds lo hi} (r : Reps K M H vs ds) (h : HT.sIx vs.length 0 lo = 0 ∧ HT.sIx vs.length vs.length hi = vs.length) : Reps K M H vs (cutD ds lo hi) := by
  unfold cutD
  rw [r.length] at h
  rw [h.1, h.2, List.drop_zero, Nat.sub_zero, List.take_length]
  exact r
abbrev MO := List Sl → Dk → Option (Option Int × Dk)
structure PDO (X : Cx) (e : Option Expr) (m : MO) : Prop where
  ex : ∃ t, PO X e t ∧ ∀ F σ H ρ δ d δ', Good X.K F σ H ρ δ → m ρ δ = some (d, δ') → ∀ Q : Option Int → Hp → Prop, (∀ H', Good X.K F σ H' ρ δ' → Mv (Mm F σ ρ) H (Mm F σ ρ) H' → Q d H') → t σ H Q
def oNo : MO := fun _ δ => some (none, δ)
def oSome (m : ME) : MO := fun ρ δ => (m ρ δ).bind fun p => match p.1 with
  | .int i => some (some i, p.2)
  | _ => none
theorem pdo_no : PDO X none oNo := ⟨_, po_none, fun F σ H ρ δ d δ' G e Q q => by cases e; exact q _ G (Mv.refl _ _)⟩
theorem pdo_some (h : PD X a ma) : PDO X (some a) (oSome ma) := by
  obtain ⟨t, h1, s1⟩ := h.ex
  refine ⟨_, po_some h1, fun F σ H ρ δ d δ' G e Q q => ?_⟩
  obtain ⟨⟨x, δ1⟩, e1, e⟩ := Option.bind_eq_some_iff.mp e
  refine s1 F σ H ρ δ x δ1 G e1 _ fun v H1 G1 M1 R1 => ?_
  dsimp only at e
  split at e
  · cases R1; cases e; exact ⟨_, rfl, q _ G1 M1⟩
  · cases e
def mSl (a : ME) (lo hi : MO) : ME := fun ρ δ => (a ρ δ).bind fun p => (lo ρ p.2).bind fun l => (hi ρ l.2).bind fun h => (slD l.1 h.1 p.1).map fun z => (z, h.2)
/-- t[lo:hi], the new tuple's object known -/
def rSlP (K : PySem.W.Frag) : V → Option Int → Option Int → Hp → VK → Prop := fun x lo hi H Q => ∃ a xs, x = .ref a ∧ SqT K H a xs ∧
  (HT.sIx xs.length 0 lo = 0 ∧ HT.sIx xs.length xs.length hi = xs.length → Q (.ref a) H) ∧ (¬ (HT.sIx xs.length 0 lo = 0 ∧ HT.sIx xs.length xs.length hi = xs.length) → ∀ p, H p = none → ∀ o : Obj, o.dict = none → Q (.ref p) (upd H p (tupH o (cutV xs lo hi))))
theorem sl_tupP {X : Cx} : SlR X (rSlP X.K) := fun pins s σ H x v vl vu lo hi sl Q I rx hs pl pu h => by
  obtain ⟨a, xs, rfl, hx, q1, q2⟩ := h
  by_cases hw : HT.sIx xs.length 0 lo = 0 ∧ HT.sIx xs.length xs.length hi = xs.length
  · exact sl_tupA pins s σ H _ v vl vu lo hi sl Q I rx hs pl pu ⟨a, xs, rfl, hx, q1, fun z => absurd hw z⟩
  · cases rx
    obtain ⟨its, r, ht, hz⟩ := I.tuple hx
    have hlen : its.toArray.size = xs.length := by rw [List.size_toArray]; exact r.length.symm
    refine ⟨"tuple", _, PyProof.Rows.slot_tuple_getitem.lookup, ht.typeIs, HT.getItem_tuple_cut ht hs pl pu (by rw [hlen]; exact hw) ?_ (by rw [hlen]; exact hz)⟩
    rw [hlen]
    exact ⟨.ref s.heap.objs.size, _, I.laid (t' := s.toks) (fun b ob q => Heap.get?_push_of_some _ q) (Nat.le_refl _) (tupH_ok (n := 0) (Nat.le_trans (cutV_length xs lo hi) hz) ((r.drop (HT.sIx xs.length 0 lo)).take (HT.sIx xs.length xs.length hi - HT.sIx xs.length 0 lo)) (Heap.get?_push_size _ rfl)), rfl, q2 hw _ (I.hok.fresh (Nat.le_refl _)) _ rfl⟩
theorem pd_sl {lo hi : Option Expr} {ml mh : MO} {p2 : Pos} (ha : PD X a ma) (hl : PDO X lo ml) (hh : PDO X hi mh) : PD X (.Subscript a (.Slice lo hi none p2) pos) (mSl ma ml mh) := by
  obtain ⟨t, h1, s1⟩ := ha.ex
  obtain ⟨tl, h2, s2⟩ := hl.ex
  obtain ⟨th, h3, s3⟩ := hh.ex
  refine ⟨_, pe_slice (sl_list.or (sl_tupP.or sl_str)) h1 h2 h3, fun F σ H ρ δ d δ' G e Q q => ?_⟩
  obtain ⟨⟨x, δ1⟩, e1, e⟩ := Option.bind_eq_some_iff.mp e
  obtain ⟨⟨l, δ2⟩, e2, e⟩ := Option.bind_eq_some_iff.mp e
  obtain ⟨⟨u, δ3⟩, e3, e⟩ := Option.bind_eq_some_iff.mp e
  obtain ⟨z, e4, e⟩ := Option.map_eq_some_iff.mp e
  cases e
  refine s1 F σ H ρ δ x δ1 G e1 _ fun v H1 G1 M1 R1 => s2 F σ H1 ρ δ1 l δ2 G1 e2 _ fun H2 G2 M2 => s3 F σ H2 ρ δ2 u _ G2 e3 _ fun H3 G3 M3 => ?_
  have R := (R1.mv M2).mv M3
  have MM := (M1.trans M2).trans M3
  cases R with
  | @lst a vs _ ha r =>
    cases e4
    refine .inl ⟨_, _, rfl, ha.sq, fun p hp => ?_⟩
    have k := upd_keeps (o := .lst (cutV vs l u)) hp
    exact q _ _ (G3.keep k) (MM.trans (Mv.same k)) (.lst ⟨G3.mfree hp, upd_same⟩ (r.cut.mv (Mv.same k)))
  | @tup a vs _ ha r =>
    cases e4
    refine .inr (.inl ⟨_, _, rfl, ha.sq, fun hw => q _ _ G3 MM (.tup ha (r.whole hw)), fun _ p hp o hd => ?_⟩)
    have k := upd_keeps (o := tupH o (cutV vs l u)) hp
    exact q _ _ (G3.keep k) (MM.trans (Mv.same k)) (.tup (.new (G3.mfree hp) upd_same hd) (r.cut.mv (Mv.same k)))
  | str x =>
    simp only [slD] at e4
    split at e4
    · rename_i hl
      cases e4
      exact .inr (.inr ⟨_, rfl, hl, q _ _ G3 MM (.str _)⟩)
    · cases e4
  | _ => simp [slD] at e4
end
end PD
namespace PD
open PySem PySem.Spec PyProof.Rows L2
def CallS (K : PySem.W.Frag) (r : List V → Hp → VK → Prop) (f : List D → Option D) : Prop := ∀ F σ H ρ δ xs ds z, Good K F σ H ρ δ → Reps K (Mm F σ ρ) H xs ds → f ds = some z → ∀ Q : VK,
  (∀ v H', (∀ a o, H a = some o → H' a = some o) → Rep K (Mm F σ ρ) H' v z → Q v H') → r xs H Q
def mCall (f : List D → Option D) (r : MA) : ME := fun ρ δ => (r ρ δ).bind fun p => (f p.1).map fun z => (z, p.2)
theorem snd_cb {K r f t m} (h : CallS K r f) (ha : SndA K t m) : Snd K (tCB r t) (mCall f m) := fun F σ H ρ δ d δ' G e Q q => by
  obtain ⟨⟨x, δ1⟩, e1, e⟩ := Option.bind_eq_some_iff.mp e
  obtain ⟨z, e3, e⟩ := Option.map_eq_some_iff.mp e
  cases e
  exact ha F σ H ρ δ x _ G e1 _ fun vs H1 G1 M1 R1 => h F σ H1 ρ _ vs x _ G1 R1 e3 Q fun v H2 k R2 => q v H2 (G1.keep k) (M1.trans (Mv.same k)) R2
theorem nokeep {H : Hp} : ∀ a o, H a = some o → H a = some o := fun _ _ h => h
section
variable {X : Cx} {a b c e : Expr} {es : List Expr} {ma mb mc : ME} {r : MA} {p pos : Pos}
theorem pd_cb {x : Str} {id : String} {rr : List V → Hp → VK → Prop} {f : List D → Option D} (hv : bootBuiltins x = some (.builtin id)) (hc : CallR X (.builtin id) rr) (hs : CallS X.K rr f) (ha : PDA X (e :: es) r) (hg : Gl X x) (hm : X.mg x = none) (hn : x ≠ "__name__") (hdb : (x == ("__debug__" : Str)) = false)
    (he : starEach (e :: es) X.env = (false, eval e X.env) :: starEach es X.env) (hpl : (backTo pos (starEach es X.env)).any (·.1) = false) : PD X (.Call (.Name x p) (e :: es) [] pos) (mCall f r) := by
  obtain ⟨t, h1, s1⟩ := ha.ex
  exact ⟨_, pe_callB hc hg hm hv h1 hn hdb he hpl, snd_cb hs s1⟩
theorem pd_ct {x : Str} {T : String} {rr : List V → Hp → VK → Prop} {f : List D → Option D} (hv : bootBuiltins x = some (.type T)) (hc : CallR X (.type T) rr) (hs : CallS X.K rr f) (ha : PDA X (e :: es) r) (hg : Gl X x) (hm : X.mg x = none) (hn : x ≠ "__name__") (hdb : (x == ("__debug__" : Str)) = false)
    (he : starEach (e :: es) X.env = (false, eval e X.env) :: starEach es X.env) (hpl : (backTo pos (starEach es X.env)).any (·.1) = false) : PD X (.Call (.Name x p) (e :: es) [] pos) (mCall f r) := by
  obtain ⟨t, h1, s1⟩ := ha.ex
  exact ⟨_, pe_callTy hc hg hm hv h1 hn hdb he hpl, snd_cb hs s1⟩
def lenD : List D → Option D
  | [.list ds] => some (.int ds.length)
  | [.tuple ds] => some (.int ds.length)
  | [.str x] => if x.length ≤ sizeLine then some (.int x.length) else none
  | _ => none
theorem reps1 {K M H vs d} (r : Reps K M H vs [d]) : ∃ v, vs = [v] ∧ Rep K M H v d := by
  cases r with | cons r t => cases t; exact ⟨_, rfl, r⟩
theorem reps2 {K M H vs d e} (r : Reps K M H vs [d, e]) : ∃ v w, vs = [v, w] ∧ Rep K M H v d ∧ Rep K M H w e := by
  cases r with | cons r t => cases t with | cons r' t => cases t; exact ⟨_, _, rfl, r, r'⟩
theorem cs_len {K} : CallS K (fun xs H Q => ∃ x n, xs = [x] ∧ LenV K x H n ∧ Q (.int n) H) lenD := fun F σ H ρ δ xs ds z G R hz Q q => by
  unfold lenD at hz
  split at hz
  · cases hz
    obtain ⟨v, rfl, r⟩ := reps1 R
    cases r with
    | lst a r => exact ⟨_, _, rfl, .inl ⟨_, a.sq, rfl⟩, by rw [r.length]; exact q _ _ nokeep (.int _)⟩
  · cases hz
    obtain ⟨v, rfl, r⟩ := reps1 R
    cases r with
    | tup a r => exact ⟨_, _, rfl, .inr ⟨_, a.sq, rfl⟩, by rw [r.length]; exact q _ _ nokeep (.int _)⟩
  · split at hz
    · rename_i hl
      cases hz
      obtain ⟨v, rfl, r⟩ := reps1 R
      cases r
      exact ⟨_, _, rfl, ⟨hl, rfl⟩, q _ _ nokeep (.int _)⟩
    · cases hz
  · cases hz
def intD : List D → Option D
  | [.int i] => some (.int i)
  | [.bool k] => some (.int (if k then 1 else 0))
  | _ => none
theorem cs_int {K} : CallS K (fun xs H Q => (∃ i, xs = [.int i] ∧ Q (.int i) H) ∨ ∃ k, xs = [.bl k] ∧ Q (.int (if k then 1 else 0)) H) intD := fun F σ H ρ δ xs ds z G R hz Q q => by
  unfold intD at hz
  split at hz
  · cases hz
    obtain ⟨v, rfl, r⟩ := reps1 R
    cases r
    exact .inl ⟨_, rfl, q _ _ nokeep (.int _)⟩
  · cases hz
    obtain ⟨v, rfl, r⟩ := reps1 R
    cases r
    exact .inr ⟨_, rfl, q _ _ nokeep (.int _)⟩
  · cases hz
def tupD : List D → Option D
  | [.list ds] => some (.tuple ds)
  | [.tuple ds] => some (.tuple ds)
  | _ => none
/-- tuple(e), the new tuple's object known -/
theorem call_tupleP {X : Cx} : CallR X (.type "tuple") (fun xs H Q => ∃ p ys, xs = [.ref p] ∧ ((SqL X.K H p ys ∧ ∀ l, H l = none → ∀ o : Obj, o.dict = none → Q (.ref l) (upd H l (tupH o ys))) ∨ (SqT X.K H p ys ∧ Q (.ref p) H))) := fun pins s σ H xs us Q I r h => by
  obtain ⟨p, ys, rfl, ⟨hq, q⟩ | h⟩ := h
  · obtain ⟨u, rfl, rx⟩ := vals1 r
    cases rx
    obtain ⟨its, r', pl, hz⟩ := I.list hq
    have hlen := r'.length
    refine call_tuple_list pl.isList (fun h' kp => ?_) (by simp only [List.size_toArray] <;> omega)
    have I1 : Inv X pins σ H { s with heap := h' } := I.kept (t' := s.toks) kp
    exact ⟨.ref h'.objs.size, _, I1.laid (t' := s.toks) (fun b o e => Heap.get?_push_of_some _ e) (Nat.le_refl _) (tupH_ok (n := 0) hz r' (Heap.get?_push_size _ rfl)), rfl, q _ (I1.hok.fresh (Nat.le_refl _)) _ rfl⟩
  · exact call_tuple_of pins s σ H _ us Q I r ⟨p, ys, rfl, .inr h⟩
theorem cs_tup {K} : CallS K (fun xs H Q => ∃ p ys, xs = [.ref p] ∧ ((SqL K H p ys ∧ ∀ l, H l = none → ∀ o : Obj, o.dict = none → Q (.ref l) (upd H l (tupH o ys))) ∨ (SqT K H p ys ∧ Q (.ref p) H))) tupD := fun F σ H ρ δ xs ds z G R hz Q q => by
  unfold tupD at hz
  split at hz
  · cases hz
    obtain ⟨v, rfl, r⟩ := reps1 R
    cases r with
    | @lst a vs _ ha r =>
      refine ⟨_, _, rfl, .inl ⟨ha.sq, fun p hp o hd => ?_⟩⟩
      have k := upd_keeps (o := tupH o vs) hp
      exact q _ _ k (.tup (.new (G.mfree hp) upd_same hd) (r.mv (Mv.same k)))
  · cases hz
    obtain ⟨v, rfl, r⟩ := reps1 R
    cases r with
    | tup ha r => exact ⟨_, _, rfl, .inr ⟨ha.sq, q _ _ nokeep (.tup ha r)⟩⟩
  · cases hz
section
variable {x : Str}
theorem pd_len (hm : X.mg "len" = none) (ha : PDA X (e :: es) r) (hg : Gl X "len" := by rfl) (he : starEach (e :: es) X.env = (false, eval e X.env) :: starEach es X.env := by rfl) (hpl : (backTo pos (starEach es X.env)).any (·.1) = false := by rfl) : PD X (.Call (.Name "len" p) (e :: es) [] pos) (mCall lenD r) := pd_cb PySem.boot_len call_len cs_len ha hg hm (by decide) (by decide) he hpl
theorem pd_cint (hm : X.mg "int" = none) (ha : PDA X (e :: es) r) (hg : Gl X "int" := by rfl) (he : starEach (e :: es) X.env = (false, eval e X.env) :: starEach es X.env := by rfl) (hpl : (backTo pos (starEach es X.env)).any (·.1) = false := by rfl) : PD X (.Call (.Name "int" p) (e :: es) [] pos) (mCall intD r) := pd_ct (by decide +kernel) call_int1 cs_int ha hg hm (by decide) (by decide) he hpl
theorem pd_ctup (hm : X.mg "tuple" = none) (ha : PDA X (e :: es) r) (hg : Gl X "tuple" := by rfl) (he : starEach (e :: es) X.env = (false, eval e X.env) :: starEach es X.env := by rfl) (hpl : (backTo pos (starEach es X.env)).any (·.1) = false := by rfl) : PD X (.Call (.Name "tuple" p) (e :: es) [] pos) (mCall tupD r) := pd_ct (by decide +kernel) call_tupleP cs_tup ha hg hm (by decide) (by decide) he hpl
end
def tyD : D → String
  | .none => "NoneType" | .bool _ => "bool" | .int _ => "int" | .str _ => "str" | .list _ => "list" | .tuple _ => "tuple" | .dict _ => "dict"
def isiD (T : String) (d : D) : Option D := (kitB (tyD d) T).map .bool
theorem Rep.ty {K M H v d} (r : Rep K M H v d) : TyX K H v (.type (tyD d)) := by
  cases r with
  | non => exact .base .non
  | bl b => exact .base (.bl b)
  | int b => exact .base (.int b)
  | str b => exact .base (.str b)
  | lst a r => exact .base (.lst a.2)
  | tup a r =>
    rcases a with ⟨⟨_, a⟩, _⟩ | ⟨⟨o, its, n, e, c, _⟩, _⟩ | ⟨_, o, a, _⟩ | ⟨_, o, a, _, _⟩
    · exact .base (.tup a)
    · exact .kTuple e c
    · exact .fTuple a
    · exact .fTuple a
  | dic n e r =>
    rcases e with e | ⟨o, e⟩
    · exact .base (.dK e)
    · exact .fDict e
theorem pd_isi {T : Str} {t : String} {p2 : Pos} (hv : bootBuiltins T = some (.type t)) (hm : X.mg "isinstance" = none) (hT : X.mg T = none) (ha : PD X a ma) (hg : Gl X "isinstance" := by rfl) (hgT : Gl X T := by rfl)
    (hn : T ≠ "__name__" := by decide) (hd : (T == ("__debug__" : Str)) = false := by decide) (hs1 : starEach [a, .Name T p2] X.env = (false, eval a X.env) :: starEach [.Name T p2] X.env := by rfl) (hs2 : starEach [Expr.Name T p2] X.env = (false, eval (.Name T p2) X.env) :: starEach [] X.env := by rfl)
    (hpl : (backTo pos (starEach [Expr.Name T p2] X.env)).any (·.1) = false := by rfl) :
    PD X (.Call (.Name "isinstance" p) [a, .Name T p2] [] pos) (mUn (isiD t) ma) := by
  obtain ⟨ta, h1, s1⟩ := ha.ex
  refine ⟨_, pe_callB call_isi hg hm (by decide +kernel) (pa_cons h1 (pa_cons (pe_bltn (v := .ty t) hgT hT hv rfl hn hd) pa_nil hs2) hs1) (by decide) (by decide) hs1 hpl, fun F σ H ρ δ d δ' G e Q q => ?_⟩
  obtain ⟨⟨x, δ1⟩, e1, e⟩ := Option.bind_eq_some_iff.mp e
  obtain ⟨z, e3, e⟩ := Option.map_eq_some_iff.mp e
  cases e
  refine s1 F σ H ρ δ x δ1 G e1 _ fun v H1 G1 M1 R1 => ?_
  unfold isiD at e3
  obtain ⟨bb, e4, e5⟩ := Option.map_eq_some_iff.mp e3
  subst e5
  exact ⟨v, .ty t, _, _, bb, rfl, .ty t, R1.ty, kit_ty e4, q _ _ G1 M1 (.bl _)⟩
def strsD : List D → Option (List Str)
  | [] => some []
  | .str b :: r => (strsD r).map fun bs => b :: bs
  | _ :: _ => none
theorem Reps.strs {K M H} : ∀ {vs ds bs}, Reps K M H vs ds → strsD ds = some bs → vs = bs.map V.str
  | _, _, _, .nil, h => by cases h; rfl
  | _, _, _, .cons r t, h => by
    cases r <;> first | (simp [strsD] at h; done) | skip
    simp only [strsD] at h
    obtain ⟨bs, e1, e2⟩ := Option.map_eq_some_iff.mp h
    subst e2
    rw [Reps.strs t e1]; rfl
def joinSz (a : Str) (ys : List Str) : Bool := decide ((ys.map (·.length)).sum + ys.length * a.length ≤ 16777216)
def joinD : D → D → Option D
  | .str a, .list ds => (strsD ds).bind fun ys => if joinSz a ys then some (.str (Txt.join a ys)) else none
  | .str a, .tuple ds => (strsD ds).bind fun ys => if joinSz a ys then some (.str (Txt.join a ys)) else none
  | _, _ => none
theorem pd_join {apos : Pos} (ha : PD X a ma) (hb : PD X b mb) (hs : starEach [b] X.env = [(false, eval b X.env)] := by rfl) (hbase : attributeBase a "join" X.env (eval a X.env) = eval a X.env := by rfl) (hline : (apos.endLine == pos.line) = true := by rfl) :
    PD X (.Call (.Attribute a "join" apos) [b] [] pos) (mBin joinD ma mb) := by
  obtain ⟨ta, h1, s1⟩ := ha.ex
  obtain ⟨tb, h2, s2⟩ := hb.ex
  refine ⟨_, pe_join h1 h2 hs hbase hline, fun F σ H ρ δ d δ' G e Q q => ?_⟩
  obtain ⟨⟨x, δ1⟩, e1, e⟩ := Option.bind_eq_some_iff.mp e
  obtain ⟨⟨y, δ2⟩, e2, e⟩ := Option.bind_eq_some_iff.mp e
  obtain ⟨z, e3, e⟩ := Option.map_eq_some_iff.mp e
  cases e
  refine s1 F σ H ρ δ x δ1 G e1 _ fun v H1 G1 M1 R1 => ?_
  dsimp only at e3
  unfold joinD at e3
  split at e3
  · cases R1
    refine ⟨⟨_, rfl⟩, s2 F σ H1 ρ δ1 _ _ G1 e2 _ fun u H2 G2 M2 R2 => ?_⟩
    obtain ⟨ys, e4, e5⟩ := Option.bind_eq_some_iff.mp e3
    split at e5
    · rename_i hz
      cases e5
      cases R2 with
      | lst ha r => exact ⟨_, _, ys, rfl, rfl, .inl (by rw [← r.strs e4]; exact ha.sq), of_decide_eq_true hz, q _ _ G2 (M1.trans M2) (.str _)⟩
    · cases e5
  · cases R1
    refine ⟨⟨_, rfl⟩, s2 F σ H1 ρ δ1 _ _ G1 e2 _ fun u H2 G2 M2 R2 => ?_⟩
    obtain ⟨ys, e4, e5⟩ := Option.bind_eq_some_iff.mp e3
    split at e5
    · rename_i hz
      cases e5
      cases R2 with
      | tup ha r => exact ⟨_, _, ys, rfl, rfl, .inr (by rw [← r.strs e4]; exact ha.sq), of_decide_eq_true hz, q _ _ G2 (M1.trans M2) (.str _)⟩
    · cases e5
  · cases e3
/-- a def without the deck: it leaves all as it is -/
def spP (K : PySem.W.Frag) (m : List D → Option D) : Sp := fun vs H Q _ => ∃ (M : Addr → Prop) (ds : List D) (r : D), (∀ a, M a → mtO (H a)) ∧ Reps K M H vs ds ∧ m ds = some r ∧ ∀ v H', (∀ a o, H a = some o → H' a = some o) → Rep K M H' v r → Q v H'
/-- a def whose first argument is the deck -/
def spK (K : PySem.W.Frag) (m : List D → Dk → Option (D × Dk)) : Sp := fun vs H Q _ => ∃ (M : Addr → Prop) (p : DP) (ws : List V) (ds : List D) (δ : Dk) (r : D) (δ' : Dk), vs = .ref p.1 :: ws ∧ (∀ a, M a → mtO (H a)) ∧ M p.1 ∧ M p.2 ∧ M p.3 ∧ DeckAt H p δ ∧
  Reps K M H ws ds ∧ m ds δ = some (r, δ') ∧ ∀ v H', (∀ a o, a ≠ p.1 → a ≠ p.2 → a ≠ p.3 → H a = some o → H' a = some o) → DeckAt H' p δ' → Rep K M H' v r → Q v H'
theorem Good.mm {K F σ H ρ δ} (G : Good K F σ H ρ δ) : ∀ a, Mm F σ ρ a → mtO (H a) := fun a h => by
  rcases h with h | ⟨i, ds, e1, e2⟩
  · exact G.m0 a h
  · obtain ⟨b, xs, e3, e4, r, _⟩ := G.own i ds e1
    rw [e2] at e3
    cases e3
    rw [e4]
    exact r.mt
theorem pd_callP {CX : CXT} {k : Nat} {f : Addr} {fd : FuncData} {ps : List Str} {m : List D → Option D} {x : Str} {E : XK} (Fn : FnOk X.prog X.w X.K X.mg X.base CX k f fd ps (spP X.K m)) (hr : Room k X.A) (hm : X.mg x = some (.ref f)) (hk : PySem.W.keepIn X.K (.ref f) = true) (hb : Binds X.K fd ps []) (hx : Passes CX X E)
    (ha : PDA X (e :: es) r) (hg : Gl X x := by rfl) (hdb : (x == ("__debug__" : Str)) = false := by decide) (he : starEach (e :: es) X.env = (false, eval e X.env) :: starEach es X.env := by rfl) (hpl : (backTo pos (starEach es X.env)).any (·.1) = false := by rfl) :
    PD X (.Call (.Name x p) (e :: es) [] pos) (mCall m r) := by
  obtain ⟨t, h1, s1⟩ := ha.ex
  refine ⟨_, pe_call Fn hr hg hm hk hb .nil hx h1 hdb he hpl, fun F σ H ρ δ d δ' G e Q q => ?_⟩
  obtain ⟨⟨ds, δ1⟩, e1, e⟩ := Option.bind_eq_some_iff.mp e
  obtain ⟨z, e3, e⟩ := Option.map_eq_some_iff.mp e
  cases e
  refine s1 F σ H ρ δ ds _ G e1 _ fun vs H1 G1 M1 R1 => ?_
  rw [List.append_nil]
  exact ⟨_, ds, _, G1.mm, R1, e3, fun v H2 k R2 => q v H2 (G1.keep k) (M1.trans (Mv.same k)) R2⟩
def mCallK (i : Nat) (m : List D → Dk → Option (D × Dk)) (r : MA) : ME := fun ρ δ => match ρ[i]? with
  | some (.fix .deck) => (r ρ δ).bind fun p => m p.1 p.2
  | _ => none
theorem Good.deck {K F σ H H' ρ δ δ' p} (G : Good K F σ H ρ δ) (hp : F.dk = some p) (k : ∀ a o, a ≠ p.1 → a ≠ p.2 → a ≠ p.3 → H a = some o → H' a = some o) (hd : DeckAt H' p δ') : Good K F σ H' ρ δ' ∧ Mv (Mm F σ ρ) H (Mm F σ ρ) H' := by
  obtain ⟨d1, d2, d4, d3⟩ := G.dck p hp
  have mv : Mv (Mm F σ ρ) H (Mm F σ ρ) H' := fun a o e n => ⟨k a o (fun z => n (by rw [z]; exact .inl d1)) (fun z => n (by rw [z]; exact .inl d2)) (fun z => n (by rw [z]; exact .inl d4)) e, n⟩
  refine ⟨⟨G.len, fun i d e => ?_, fun i ds e => ?_, G.inj, fun a ha => ?_, G.dsl, fun p' hp' => ?_, fun a o e n => ?_⟩, mv⟩
  · obtain ⟨v, e1, r⟩ := G.val i d e
    exact ⟨v, e1, r.mv mv⟩
  · obtain ⟨a, xs, e1, e2, r, n⟩ := G.own i ds e
    exact ⟨a, xs, e1, k a _ (fun z => n.1 (by rw [z]; exact d1)) (fun z => n.1 (by rw [z]; exact d2)) (fun z => n.1 (by rw [z]; exact d4)) e2, r.mv mv, n⟩
  · by_cases h1 : a = p.1
    · rw [h1, hd.one]; trivial
    · by_cases h2 : a = p.2
      · rw [h2]; exact hd.mt2
      · by_cases h3 : a = p.3
        · rw [h3, hd.tri]; trivial
        · exact (G.m0 a ha).keep fun o e => k a o h1 h2 h3 e
  · rw [hp] at hp'; cases hp'
    exact ⟨d1, d2, d4, hd⟩
  · exact k a o (n p hp).1 (n p hp).2.1 (n p hp).2.2 (G.fr a o e n)
theorem pd_callK (i : Nat) {CX : CXT} {k : Nat} {f : Addr} {fd : FuncData} {ps : List Str} {m : List D → Dk → Option (D × Dk)} {x y : Str} {E : XK} {py : Pos} (Fn : FnOk X.prog X.w X.K X.mg X.base CX k f fd ps (spK X.K m)) (hr : Room k X.A) (hm : X.mg x = some (.ref f)) (hk : PySem.W.keepIn X.K (.ref f) = true) (hb : Binds X.K fd ps []) (hx : Passes CX X E)
    (ha : PDA X es r) (hN : X.N[i]? = some y := by rfl) (hv : Vis X.env.scope y := by first | exact Or.inl rfl | exact Or.inr (Or.inl rfl) | exact Or.inr (Or.inr rfl)) (hyd : (y == ("__debug__" : Str)) = false := by decide) (hcd : (y == ("__classdict__" : Str)) = false := by decide)
    (hg : Gl X x := by rfl) (hdb : (x == ("__debug__" : Str)) = false := by decide) (he : starEach (.Name y py :: es) X.env = (false, eval (.Name y py) X.env) :: starEach es X.env := by rfl) (hpl : (backTo pos (starEach es X.env)).any (·.1) = false := by rfl) :
    PD X (.Call (.Name x p) (.Name y py :: es) [] pos) (mCallK i m r) := by
  obtain ⟨t, h1, s1⟩ := ha.ex
  refine ⟨_, pe_call Fn hr hg hm hk hb .nil hx (pa_cons (pe_var hN hv hyd hcd) h1 he) hdb he hpl, fun F σ H ρ δ d δ' G e Q q => ?_⟩
  unfold mCallK at e
  split at e
  · rename_i hi
    obtain ⟨⟨ds, δ1⟩, e1, e⟩ := Option.bind_eq_some_iff.mp e
    obtain ⟨pp, hp, hs⟩ := G.dsl i hi
    refine ⟨_, hs, s1 F σ H ρ δ ds _ G e1 _ fun vs H1 G1 M1 R1 => ?_⟩
    dsimp only
    rw [List.append_nil]
    obtain ⟨d1, d2, d4, d3⟩ := G1.dck pp hp
    exact ⟨_, pp, vs, ds, δ1, d, δ', rfl, G1.mm, .inl d1, .inl d2, .inl d4, d3, R1, e, fun v H2 k hd R2 => q v H2 (G1.deck hp k hd).1 (M1.trans (G1.deck hp k hd).2) R2⟩
  · cases e
end
end PD
namespace PD
open PySem PySem.Spec PyProof.Rows L2
def Walks (K : PySem.W.Frag) (M : Addr → Prop) (H : Hp) (J : It) (ds : List D) : Prop := ∀ M2 H2, Mv M H M2 H2 → (∀ a, M2 a → mtO (H2 a)) → ∀ i : Nat,
  (i < ds.length → J.go i H2 ∧ ∀ x H3, J.yld i H2 x H3 → (∀ a o, H2 a = some o → H3 a = some o) ∧ ∃ d, ds[i]? = some d ∧ Rep K M2 H3 x d) ∧ (ds.length ≤ i → J.stop i H2)
structure PDI (X : Cx) (tg iter : Expr) (m : MA) : Prop where
  ex : ∃ wi, PI X tg iter wi ∧ ∀ F σ H ρ δ ds δ', Good X.K F σ H ρ δ → m ρ δ = some (ds, δ') → ∀ R : It → Hp → Prop,
    (∀ J H', Good X.K F σ H' ρ δ' → Mv (Mm F σ ρ) H (Mm F σ ρ) H' → Walks X.K (Mm F σ ρ) H' J ds → R J H') → wi σ H R
def itemsD : D → Option (List D)
  | .list ds => some ds
  | .tuple ds => some ds
  | .str x => some (x.cps.toList.map fun c => .str ⟨#[c]⟩)
  | _ => none
def mItems (m : ME) : MA := fun ρ δ => (m ρ δ).bind fun p => (itemsD p.1).map fun z => (z, p.2)
theorem walk_list {K M H a xs ds} (h : AL K M H a xs) (r : Reps K M H xs ds) : Walks K M H (Itl K a) ds := fun M2 H2 mv _ i => by
  have h2 := h.mv mv
  have r2 := r.mv mv
  have hl := r.length
  refine ⟨fun hi => ⟨⟨xs, xs[i], h2.sq, by simp [hl, hi]⟩, fun x H3 y => ?_⟩, fun hi => ⟨xs, h2.sq, by omega⟩⟩
  obtain ⟨rfl, y2⟩ := y
  obtain ⟨d, e, rr⟩ := r2.get (y2 xs h2.sq)
  exact ⟨fun _ _ h => h, d, e, rr⟩
theorem walk_tup {K M H a xs ds} (h : AT K M H a xs) (r : Reps K M H xs ds) : Walks K M H (Itt K a) ds := fun M2 H2 mv _ i => by
  have h2 := h.mv mv
  have r2 := r.mv mv
  have hl := r.length
  refine ⟨fun hi => ⟨⟨xs, xs[i], h2.sq, by simp [hl, hi]⟩, fun x H3 y => ?_⟩, fun hi => ⟨xs, h2.sq, by omega⟩⟩
  obtain ⟨rfl, y2⟩ := y
  obtain ⟨d, e, rr⟩ := r2.get (y2 xs h2.sq)
  exact ⟨fun _ _ h => h, d, e, rr⟩
theorem walk_str {K M H} (x : Str) : Walks K M H (Its x) (x.cps.toList.map fun c => .str ⟨#[c]⟩) := fun M2 H2 mv _ i => by
  refine ⟨fun hi => ⟨?_, fun y H3 z => ?_⟩, fun hi => ?_⟩
  · simpa [Its] using hi
  · obtain ⟨rfl, c, e1, rfl⟩ := z
    exact ⟨fun _ _ h => h, .str ⟨#[c]⟩, by rw [List.getElem?_map, Array.getElem?_toList, e1]; rfl, .str _⟩
  · simpa [Its] using hi
theorem walk_range {K M H} (lo : Int) (n : Nat) : Walks K M H (Itr lo n) ((List.range n).map fun (i : Nat) => .int (lo + (i : Int))) := fun M2 H2 mv _ i => by
  refine ⟨fun hi => ⟨?_, fun y H3 z => ?_⟩, fun hi => ?_⟩
  · simpa [Itr] using hi
  · obtain ⟨rfl, rfl⟩ := z
    simp at hi
    exact ⟨fun _ _ h => h, .int (lo + (i : Int)), by rw [List.getElem?_map, List.getElem?_range hi]; rfl, .int _⟩
  · simpa [Itr] using hi
section
variable {X : Cx} {a b tg : Expr} {ma mb : ME} {p pos : Pos}
theorem pdi_seq (ha : PD X a ma) : PDI X tg a (mItems ma) := by
  obtain ⟨ta, h1, s1⟩ := ha.ex
  refine ⟨fun σ H R => iList X.K ta σ H R ∨ iTup X.K ta σ H R ∨ iStr ta σ H R, ⟨fun pins s σ H R I q => ?_⟩, fun F σ H ρ δ ds δ' G e R q => ?_⟩
  · rcases q with q | q | q
    · exact (pi_list h1).run pins s σ H R I q
    · exact (pi_tup h1).run pins s σ H R I q
    · exact (pi_str h1).run pins s σ H R I q
  · obtain ⟨⟨x, δ1⟩, e1, e⟩ := Option.bind_eq_some_iff.mp e
    obtain ⟨z, e3, e⟩ := Option.map_eq_some_iff.mp e
    cases e
    cases x <;> first | (simp [itemsD] at e3; done) | skip
    · cases e3
      refine .inr (.inr (s1 F σ H ρ δ _ _ G e1 _ fun v H1 G1 M1 R1 => ?_))
      cases R1
      exact ⟨_, rfl, q _ _ G1 M1 (walk_str _)⟩
    · cases e3
      refine .inl (s1 F σ H ρ δ _ _ G e1 _ fun v H1 G1 M1 R1 => ?_)
      cases R1 with
      | lst ha r => exact ⟨_, rfl, ⟨_, ha.sq⟩, q _ _ G1 M1 (walk_list ha r)⟩
    · cases e3
      refine .inr (.inl (s1 F σ H ρ δ _ _ G e1 _ fun v H1 G1 M1 R1 => ?_))
      cases R1 with
      | tup ha r => exact ⟨_, rfl, ⟨_, ha.sq⟩, q _ _ G1 M1 (walk_tup ha r)⟩
def inB (j : Int) : Bool := decide (-(2 ^ 62) ≤ j ∧ j < 2 ^ 62)
def mRng1 (m : ME) : MA := fun ρ δ => (m ρ δ).bind fun p => match p.1 with
  | .int j => if inB j then some ((List.range j.toNat).map fun (i : Nat) => .int (0 + (i : Int)), p.2) else none
  | _ => none
theorem pdi_range1 (hm : X.mg "range" = none) (ha : PD X a ma) (hg : Gl X "range" := by rfl) (hs : starEach [a] X.env = [(false, eval a X.env)] := by rfl) : PDI X tg (.Call (.Name "range" p) [a] [] pos) (mRng1 ma) := by
  obtain ⟨ta, h1, s1⟩ := ha.ex
  refine ⟨_, pi_range1 hg hm (pa_cons h1 pa_nil hs) hs, fun F σ H ρ δ ds δ' G e R q => ?_⟩
  obtain ⟨⟨x, δ1⟩, e1, e⟩ := Option.bind_eq_some_iff.mp e
  refine s1 F σ H ρ δ _ _ G e1 _ fun v H1 G1 M1 R1 => ?_
  dsimp only at e
  split at e
  · split at e
    · rename_i hb
      have hb := of_decide_eq_true hb
      cases e
      cases R1
      exact ⟨_, rfl, hb.1, hb.2, q _ _ G1 M1 (walk_range 0 _)⟩
    · cases e
  · cases e
end
abbrev MG := D → List Sl → Option (List Sl)
structure Set1 (sl : List Nat) (σ σ' : L2.St) (ρ ρ' : List Sl) : Prop where
  ls : σ'.length = σ.length
  lr : ρ'.length = ρ.length
  s : ∀ j, j ∉ sl → σ'[j]? = σ[j]?
  r : ∀ j, j ∉ sl → ρ'[j]? = ρ[j]?
  u : ∀ (j : Nat) ds, ρ'[j]? = some (.own ds) → ρ[j]? = some (.own ds) ∧ j ∉ sl
structure PDG (X : Cx) (tg : Expr) (sl : List Nat) (m : MG) : Prop where
  ex : ∃ g, PG X tg g ∧ ∀ F σ H ρ δ v d ρ', Good X.K F σ H ρ δ → Rep X.K (Mm F σ ρ) H v d → m d ρ = some ρ' → ∀ Q : L2.St → Hp → Prop,
    (∀ σ', Good X.K F σ' H ρ' δ → Mv (Mm F σ ρ) H (Mm F σ' ρ') H → Set1 sl σ σ' ρ ρ' → Q σ' H) → g v σ H Q
theorem Mm_set {F σ ρ i v d a} (h : Mm F (σ.set i (some v)) (ρ.set i (.val d)) a) : Mm F σ ρ a := by
  rcases h with h | ⟨j, ds, e1, e2⟩
  · exact .inl h
  · by_cases hj : i = j
    · subst hj
      by_cases hl : i < ρ.length
      · rw [List.getElem?_set_self hl] at e1; cases e1
      · rw [List.getElem?_eq_none (by simpa using hl)] at e1; cases e1
    · rw [List.getElem?_set_ne hj] at e1 e2
      exact .inr ⟨j, ds, e1, e2⟩
theorem Good.set {K F σ H ρ δ v d} (G : Good K F σ H ρ δ) (i : Nat) (r : Rep K (Mm F σ ρ) H v d) : Good K F (σ.set i (some v)) H (ρ.set i (.val d)) δ ∧ Mv (Mm F σ ρ) H (Mm F (σ.set i (some v)) (ρ.set i (.val d))) H := by
  have mv : Mv (Mm F σ ρ) H (Mm F (σ.set i (some v)) (ρ.set i (.val d))) H := fun a o e n => ⟨e, fun z => n (Mm_set z)⟩
  have un : ∀ (j : Nat) ds, (ρ.set i (.val d))[j]? = some (.own ds) → i ≠ j ∧ ρ[j]? = some (.own ds) := fun j ds e => by
    by_cases hj : i = j
    · subst hj
      by_cases hl : i < ρ.length
      · rw [List.getElem?_set_self hl] at e; cases e
      · rw [List.getElem?_eq_none (by simpa using hl)] at e; cases e
    · rw [List.getElem?_set_ne hj] at e
      exact ⟨hj, e⟩
  refine ⟨⟨by rw [List.length_set, List.length_set]; exact G.len, fun j e h => ?_, fun j ds e => ?_, fun j k ds es a e1 e2 e3 e4 => ?_, G.m0, fun j e => ?_, G.dck, G.fr⟩, mv⟩
  · by_cases hj : i = j
    · subst hj
      by_cases hl : i < ρ.length
      · rw [List.getElem?_set_self hl] at h; cases h
        exact ⟨v, List.getElem?_set_self (by rw [G.len]; exact hl), r.mv mv⟩
      · rw [List.getElem?_eq_none (by simpa using hl)] at h; cases h
    · rw [List.getElem?_set_ne hj] at h ⊢
      obtain ⟨w, e1, r1⟩ := G.val j e h
      exact ⟨w, e1, r1.mv mv⟩
  · obtain ⟨hj, e⟩ := un j ds e
    obtain ⟨a, xs, e1, e2, r1, n⟩ := G.own j ds e
    exact ⟨a, xs, by rw [List.getElem?_set_ne hj]; exact e1, e2, r1.mv mv, n⟩
  · obtain ⟨hj, e1⟩ := un j ds e1
    obtain ⟨hk, e2⟩ := un k es e2
    rw [List.getElem?_set_ne hj] at e3
    rw [List.getElem?_set_ne hk] at e4
    exact G.inj j k ds es a e1 e2 e3 e4
  · by_cases hj : i = j
    · subst hj
      by_cases hl : i < ρ.length
      · rw [List.getElem?_set_self hl] at e; cases e
      · rw [List.getElem?_eq_none (by simpa using hl)] at e; cases e
    · rw [List.getElem?_set_ne hj] at e ⊢
      exact G.dsl j e
theorem Set1.set {σ ρ v d} (i : Nat) : Set1 [i] σ (σ.set i (some v)) ρ (ρ.set i (.val d)) where
  ls := List.length_set
  lr := List.length_set
  s := fun j h => List.getElem?_set_ne (fun e => h (by simp [e]))
  r := fun j h => List.getElem?_set_ne (fun e => h (by simp [e]))
  u := fun j ds e => by
    by_cases hj : i = j
    · subst hj
      by_cases hl : i < ρ.length
      · rw [List.getElem?_set_self hl] at e; cases e
      · rw [List.getElem?_eq_none (by simpa using hl)] at e; cases e
    · rw [List.getElem?_set_ne hj] at e
      exact ⟨e, by simp; exact fun z => hj z.symm⟩
theorem Set1.refl {σ ρ} : Set1 [] σ σ ρ ρ := ⟨rfl, rfl, fun _ _ => rfl, fun _ _ => rfl, fun _ _ e => ⟨e, by simp⟩⟩
theorem Set1.trans {sl sl' σ σ1 σ2 ρ ρ1 ρ2} (h : Set1 sl σ σ1 ρ ρ1) (g : Set1 sl' σ1 σ2 ρ1 ρ2) : Set1 (sl ++ sl') σ σ2 ρ ρ2 where
  ls := g.ls.trans h.ls
  lr := g.lr.trans h.lr
  s := fun j hj => by simp only [List.mem_append, not_or] at hj; rw [g.s j hj.2, h.s j hj.1]
  r := fun j hj => by simp only [List.mem_append, not_or] at hj; rw [g.r j hj.2, h.r j hj.1]
  u := fun j ds e => by
    obtain ⟨e1, n1⟩ := g.u j ds e
    obtain ⟨e2, n2⟩ := h.u j ds e1
    exact ⟨e2, by simp only [List.mem_append, not_or]; exact ⟨n2, n1⟩⟩
def gSet (i : Nat) : MG := fun d ρ => some (ρ.set i (.val d))
section
variable {X : Cx} {pos : Pos}
theorem pdg_name (i : Nat) {x : Str} (hN : X.N.Nodup) (hi : X.N[i]? = some x := by rfl) (hx : Loc X.env.scope x := by first | exact Or.inl rfl | exact Or.inr rfl) (hf : X.fn x = true ∨ X.env.scope.names.lookup x = some .local := by first | exact .inl rfl | exact .inr rfl | assumption) : PDG X (.Name x pos) [i] (gSet i) :=
  ⟨_, pg_name hN hi hx hf, fun F σ H ρ δ v d ρ' G r e Q q => by
    cases e
    obtain ⟨G1, M1⟩ := G.set i r
    exact q _ G1 M1 (Set1.set i)⟩
abbrev MGs := List D → List Sl → Option (List Sl)
structure PDGs (X : Cx) (tgs : List Expr) (sl : List Nat) (m : MGs) : Prop where
  ex : ∃ g, PGs X tgs g ∧ ∀ F σ H ρ δ v d ρ', Good X.K F σ H ρ δ → Reps X.K (Mm F σ ρ) H v d → m d ρ = some ρ' → ∀ Q : L2.St → Hp → Prop,
    (∀ σ', Good X.K F σ' H ρ' δ → Mv (Mm F σ ρ) H (Mm F σ' ρ') H → Set1 sl σ σ' ρ ρ' → Q σ' H) → g v σ H Q
def gsNil : MGs := fun ds ρ => match ds with
  | [] => some ρ
  | _ => none
def gsCons (m : MG) (r : MGs) : MGs := fun ds ρ => match ds with
  | d :: ds => (m d ρ).bind fun ρ1 => r ds ρ1
  | [] => none
theorem pdgs_nil : PDGs X [] [] gsNil := ⟨_, pgs_nil, fun F σ H ρ δ v d ρ' G r e Q q => by
  cases r with
  | nil => cases e; exact ⟨rfl, q _ G (Mv.refl _ _) Set1.refl⟩
  | cons _ _ => cases e⟩
theorem pdgs_cons {e : Expr} {es : List Expr} {sl sl' : List Nat} {m : MG} {r : MGs} (h1 : PDG X e sl m) (h2 : PDGs X es sl' r) (hs : (assignEach (e :: es) X.env).map (·.2) = assign e X.env :: (assignEach es X.env).map (·.2) := by rfl) : PDGs X (e :: es) (sl ++ sl') (gsCons m r) := by
  obtain ⟨g, p1, s1⟩ := h1.ex
  obtain ⟨g', p2, s2⟩ := h2.ex
  refine ⟨_, pgs_cons p1 p2 hs, fun F σ H ρ δ v d ρ' G r e Q q => ?_⟩
  cases r with
  | nil => cases e
  | cons r t =>
    obtain ⟨ρ1, e1, e2⟩ := Option.bind_eq_some_iff.mp e
    refine ⟨_, _, rfl, s1 F σ H ρ δ _ _ ρ1 G r e1 _ fun σ1 G1 M1 T1 => ?_⟩
    exact s2 F σ1 H ρ1 δ _ _ ρ' G1 (t.mv M1) e2 _ fun σ2 G2 M2 T2 => q _ G2 (M1.trans M2) (T1.trans T2)
def gTupM (n : Nat) (m : MGs) : MG := fun d ρ => match d with
  | .tuple ds => if ds.length = n then m ds ρ else none
  | _ => none
theorem pdg_tup {es : List Expr} {k n : Nat} {sl : List Nat} {m : MGs} (hc : X.calm = true) (h : PDGs X es sl m) (hn : (assignEach es X.env).length = n := by rfl) (hst : (assignEach es X.env).findIdx? (·.1) = none := by rfl) : PDG X (.Tuple es k pos) sl (gTupM n m) := by
  obtain ⟨g, p1, s1⟩ := h.ex
  refine ⟨_, pg_tup hc p1 hn hst, fun F σ H ρ δ v d ρ' G r e Q q => ?_⟩
  unfold gTupM at e
  split at e
  · split at e
    · rename_i hl
      cases r with
      | tup ha r => exact ⟨_, _, rfl, ha.sq, by rw [r.length]; exact hl, s1 F σ H ρ δ _ _ ρ' G r e _ q⟩
    · cases e
  · cases e
end
end PD
namespace PD
open PySem PySem.Spec PyProof.Rows L2
def wipeR (ρ : List Sl) : List Nat → List Sl
  | [] => ρ
  | v :: vs => (wipeR ρ vs).set v .no
def noU (ρ : List Sl) (vs : List Nat) : Bool := vs.all fun i => match ρ[i]? with
  | some (.own _) => false
  | _ => true
theorem noU_of {ρ vs i ds} (h : noU ρ vs = true) (hi : i ∈ vs) (e : ρ[i]? = some (.own ds)) : False := by
  have := List.all_eq_true.mp h i hi
  rw [e] at this
  cases this
theorem wipeR_length (ρ : List Sl) : ∀ vs, (wipeR ρ vs).length = ρ.length
  | [] => rfl
  | v :: vs => by unfold wipeR; rw [List.length_set, wipeR_length ρ vs]
theorem wipe_get (σ : L2.St) (i : Nat) : ∀ vs : List Nat, (wipe σ vs)[i]? = if i ∈ vs then (if i < σ.length then some none else none) else σ[i]?
  | [] => by simp [wipe]
  | v :: vs => by
    unfold wipe
    by_cases hv : v = i
    · subst hv
      by_cases hl : v < σ.length
      · rw [List.getElem?_set_self (by rw [wipe_length]; exact hl)]; simp [hl]
      · rw [List.getElem?_eq_none (by rw [List.length_set, wipe_length]; omega)]; simp [hl]
    · rw [List.getElem?_set_ne hv, wipe_get σ i vs]
      simp [Ne.symm hv]
theorem wipeR_get (ρ : List Sl) (i : Nat) : ∀ vs : List Nat, (wipeR ρ vs)[i]? = if i ∈ vs then (if i < ρ.length then some .no else none) else ρ[i]?
  | [] => by simp [wipeR]
  | v :: vs => by
    unfold wipeR
    by_cases hv : v = i
    · subst hv
      by_cases hl : v < ρ.length
      · rw [List.getElem?_set_self (by rw [wipeR_length]; exact hl)]; simp [hl]
      · rw [List.getElem?_eq_none (by rw [List.length_set, wipeR_length]; omega)]; simp [hl]
    · rw [List.getElem?_set_ne hv, wipeR_get ρ i vs]
      simp [Ne.symm hv]
theorem wipeR_uni {ρ vs i ds} (h : (wipeR ρ vs)[i]? = some (.own ds)) : i ∉ vs ∧ ρ[i]? = some (.own ds) := by
  rw [wipeR_get] at h
  by_cases hi : i ∈ vs
  · rw [if_pos hi] at h; split at h <;> cases h
  · rw [if_neg hi] at h; exact ⟨hi, h⟩
theorem Mm_wipe {F σ ρ vs} (h : noU ρ vs = true) : Mm F (wipe σ vs) (wipeR ρ vs) = Mm F σ ρ := by
  funext a
  refine propext ⟨fun z => ?_, fun z => ?_⟩
  · rcases z with z | ⟨i, ds, e1, e2⟩
    · exact .inl z
    · obtain ⟨hi, e1⟩ := wipeR_uni e1
      rw [wipe_get, if_neg hi] at e2
      exact .inr ⟨i, ds, e1, e2⟩
  · rcases z with z | ⟨i, ds, e1, e2⟩
    · exact .inl z
    · have hi : i ∉ vs := fun q => noU_of h q e1
      exact .inr ⟨i, ds, by rw [wipeR_get, if_neg hi]; exact e1, by rw [wipe_get, if_neg hi]; exact e2⟩
theorem Good.wipe {K F σ H ρ δ vs} (G : Good K F σ H ρ δ) (h : noU ρ vs = true) : Good K F (L2.wipe σ vs) H (wipeR ρ vs) δ := by
  refine ⟨by rw [wipe_length, wipeR_length]; exact G.len, fun i d e => ?_, fun i ds e => ?_, fun i j ds es a e1 e2 e3 e4 => ?_, G.m0, fun i e => ?_, G.dck, G.fr⟩
  · rw [Mm_wipe h]
    by_cases hi : i ∈ vs
    · rw [wipeR_get, if_pos hi] at e; split at e <;> cases e
    · rw [wipeR_get, if_neg hi] at e
      rw [wipe_get, if_neg hi]
      exact G.val i d e
  · rw [Mm_wipe h]
    obtain ⟨hi, e⟩ := wipeR_uni e
    rw [wipe_get, if_neg hi]
    exact G.own i ds e
  · obtain ⟨hi, e1⟩ := wipeR_uni e1
    obtain ⟨hj, e2⟩ := wipeR_uni e2
    rw [wipe_get, if_neg hi] at e3
    rw [wipe_get, if_neg hj] at e4
    exact G.inj i j ds es a e1 e2 e3 e4
  · by_cases hi : i ∈ vs
    · rw [wipeR_get, if_pos hi] at e; split at e <;> cases e
    · rw [wipeR_get, if_neg hi] at e
      rw [wipe_get, if_neg hi]
      exact G.dsl i e
/-- the frame with one more address that may change -/
def Fr.plus (F : Fr) (D : Addr) : Fr := { F with M0 := fun a => F.M0 a ∨ a = D }
theorem Mm_plus {F σ ρ D} : Mm (F.plus D) σ ρ = fun a => Mm F σ ρ a ∨ a = D := by
  funext a
  refine propext ⟨fun z => ?_, fun z => ?_⟩
  · rcases z with (z | z) | z
    · exact .inl (.inl z)
    · exact .inr z
    · exact .inl (.inr z)
  · rcases z with (z | z) | z
    · exact .inl (.inl z)
    · exact .inr z
    · exact .inl (.inr z)
/-- a new object that is to be changed -/
theorem Good.plus {K F σ H ρ δ D o} (G : Good K F σ H ρ δ) (h : H D = none) (ho : mtO (some o) := by trivial) : Good K (F.plus D) σ (upd H D o) ρ δ ∧ Mv (Mm F σ ρ) H (Mm (F.plus D) σ ρ) (upd H D o) := by
  have mv : Mv (Mm F σ ρ) H (Mm (F.plus D) σ ρ) (upd H D o) := fun a u e n => ⟨upd_keeps h a u e, by rw [Mm_plus]; exact fun z => z.elim n (ne_of_none e h)⟩
  refine ⟨⟨G.len, fun i d e => ?_, fun i ds e => ?_, G.inj, fun a ha => ?_, fun {k} i e => (G.dsl i e).mo rfl (fun a u t e1 n1 => ⟨e1, fun z => z.elim n1 fun z => by rw [z] at e1 n1; have := G.frT e1 n1; rw [h] at this; cases this⟩) (Nat.le_refl _), fun p e => ?_, fun a u e n => upd_keeps h _ _ (G.fr a u e n)⟩, mv⟩
  · obtain ⟨v, e1, r⟩ := G.val i d e
    exact ⟨v, e1, r.mv mv⟩
  · obtain ⟨a, xs, e1, e2, r, n⟩ := G.own i ds e
    exact ⟨a, xs, e1, upd_keeps h _ _ e2, r.mv mv, fun z => z.elim n.1 (ne_of_none e2 h), n.2⟩
  · rcases ha with ha | ha
    · exact (G.m0 a ha).keep fun u e => upd_keeps h a u e
    · rw [ha, upd_same]; exact ho
  · obtain ⟨d1, d2, d4, d3⟩ := G.dck p e
    exact ⟨.inl d1, .inl d2, .inl d4, d3.ne, d3.ne2, d3.ne3, upd_keeps h _ _ d3.one, (fun z => upd_keeps h _ _ (d3.two z)), upd_keeps h _ _ d3.tri, d3.tab.new h⟩
/-- the object is changed -/
theorem Good.write {K F σ H H1 ρ δ D o} (G0 : ∃ σ ρ δ, Good K F σ H1 ρ δ) (hD : H1 D = none) (G : Good K (F.plus D) σ H ρ δ) (ho : mtO (some o) := by trivial) : Good K (F.plus D) σ (upd H D o) ρ δ ∧ Mv (Mm (F.plus D) σ ρ) H (Mm (F.plus D) σ ρ) (upd H D o) := by
  obtain ⟨σ0, ρ0, δ0, G0⟩ := G0
  have mv : Mv (Mm (F.plus D) σ ρ) H (Mm (F.plus D) σ ρ) (upd H D o) := fun a u e n => ⟨by rw [upd_ne (fun z => n (by rw [Mm_plus]; exact .inr z))]; exact e, n⟩
  refine ⟨⟨G.len, fun i d e => ?_, fun i ds e => ?_, G.inj, fun a ha => ?_, G.dsl, fun p e => ?_, fun a u e n => ?_⟩, mv⟩
  · obtain ⟨v, e1, r⟩ := G.val i d e
    exact ⟨v, e1, r.mv mv⟩
  · obtain ⟨a, xs, e1, e2, r, n⟩ := G.own i ds e
    exact ⟨a, xs, e1, by rw [upd_ne (fun z => n.1 (.inr z))]; exact e2, r.mv mv, n⟩
  · by_cases hz : a = D
    · rw [hz, upd_same]; exact ho
    · rw [upd_ne hz]; exact G.m0 a ha
  · obtain ⟨d1, d2, d4, d3⟩ := G.dck p e
    obtain ⟨c1, c2, c4, c3⟩ := G0.dck p e
    exact ⟨d1, d2, d4, d3.ne, d3.ne2, d3.ne3, by rw [upd_ne (ne_of_none c3.one hD)]; exact d3.one, (fun ez => by rw [upd_ne (c3.ne2N hD)]; exact d3.two ez), by rw [upd_ne (ne_of_none c3.tri hD)]; exact d3.tri, d3.tab.atM c3.tab hD (G.m0 D (.inr rfl)) fun b n => upd_ne n⟩
  · have e1 := G0.fr a u e n
    rw [upd_ne (ne_of_none e1 hD)]
    exact G.fr a u e n
/-- back from the block -/
theorem Good.back {K F σ H H1 ρ δ δ1 D vs} (G1 : Good K F σ H1 ρ δ1) (hu : noU ρ vs = true) (hD : H1 D = none) (G : Good K (F.plus D) (L2.wipe σ vs) H (wipeR ρ vs) δ) (mv : Mv (Mm F σ ρ) H1 (Mm F σ ρ) H) : Good K F σ H ρ δ := by
  have an : Mv (Mm (F.plus D) (L2.wipe σ vs) (wipeR ρ vs)) H (Mm F σ ρ) H := fun a o e n => ⟨e, fun z => n (by rw [Mm_wipe hu, Mm_plus]; exact .inl z)⟩
  refine ⟨G1.len, fun i d e => ?_, fun i ds e => ?_, G1.inj, fun a ha => G.m0 a (.inl ha), G1.dsl, fun p e => ?_, G.fr⟩
  · obtain ⟨v, e1, r⟩ := G1.val i d e
    exact ⟨v, e1, r.mv mv⟩
  · have hi : i ∉ vs := fun q => noU_of hu q e
    obtain ⟨a, xs, e1, e2, r, n⟩ := G.own i ds (by rw [wipeR_get, if_neg hi]; exact e)
    rw [wipe_get, if_neg hi] at e1
    exact ⟨a, xs, e1, e2, r.mv an, fun z => n.1 (.inl z), n.2⟩
  · obtain ⟨_, _, _, d3⟩ := G.dck p e
    obtain ⟨d1, d2, d4, _⟩ := G1.dck p e
    exact ⟨d1, d2, d4, d3⟩
theorem list_ext {α : Type} {l l' : List α} (h : ∀ i : Nat, l[i]? = l'[i]?) : l = l' := List.ext_getElem? h
theorem Set1.wipes {sl vs σ σ' ρ ρ'} (h : Set1 sl σ σ' ρ ρ') (hs : ∀ i ∈ sl, i ∈ vs) : L2.wipe σ' vs = L2.wipe σ vs ∧ wipeR ρ' vs = wipeR ρ vs := by
  constructor
  · refine list_ext fun i => ?_
    rw [wipe_get, wipe_get, h.ls]
    by_cases hi : i ∈ vs
    · rw [if_pos hi, if_pos hi]
    · rw [if_neg hi, if_neg hi]; exact h.s i fun q => hi (hs i q)
  · refine list_ext fun i => ?_
    rw [wipeR_get, wipeR_get, h.lr]
    by_cases hi : i ∈ vs
    · rw [if_pos hi, if_pos hi]
    · rw [if_neg hi, if_neg hi]; exact h.r i fun q => hi (hs i q)
theorem wipe_wipe (σ : L2.St) (vs) : L2.wipe (L2.wipe σ vs) vs = L2.wipe σ vs := list_ext fun i => by
  rw [wipe_get, wipe_length, wipe_get]
  by_cases hi : i ∈ vs
  · rw [if_pos hi, if_pos hi]
  · rw [if_neg hi, if_neg hi]
theorem wipeR_wipeR (ρ : List Sl) (vs) : wipeR (wipeR ρ vs) vs = wipeR ρ vs := list_ext fun i => by
  rw [wipeR_get, wipeR_length, wipeR_get]
  by_cases hi : i ∈ vs
  · rw [if_pos hi, if_pos hi]
  · rw [if_neg hi, if_neg hi]
theorem noU_wipe (ρ : List Sl) (vs) : noU (wipeR ρ vs) vs = true := List.all_eq_true.mpr fun i hi => by
  rw [wipeR_get, if_pos hi]
  split <;> rename_i h
  · split at h <;> cases h
  · rfl
theorem Set1.noU {sl vs σ σ' ρ ρ'} (h : Set1 sl σ σ' ρ ρ') (hu : PD.noU ρ vs = true) : PD.noU ρ' vs = true := List.all_eq_true.mpr fun i hi => by
  split
  · rename_i ds e
    exact (noU_of hu hi (h.u i _ e).1).elim
  · rfl
/-- the frame with one more object that stays -/
def Fr.pin (F : Fr) (D : Addr) (o : HO) : Fr := { F with H0 := upd F.H0 D o }
theorem Mm_pin {F D o σ ρ} : Mm (F.pin D o) σ ρ = Mm F σ ρ := rfl
theorem Good.pin {K F σ H ρ δ D o} (G : Good K F σ H ρ δ) (hM : F.M0 D) (h : H D = some o) : Good K (F.pin D o) σ H ρ δ := ⟨G.len, G.val, fun i ds e => by
  obtain ⟨a, xs, e1, e2, r, n⟩ := G.own i ds e
  exact ⟨a, xs, e1, e2, r, n.1, n.2.mo fun n2 => (upd_ne (a := D) (b := a) (fun z => n.1 (by rw [z]; exact hM))).trans n2⟩, G.inj, G.m0, fun {k} i e => (G.dsl i e).mo rfl (fun a u t e1 n1 => ⟨(upd_ne (a := D) (b := a) (fun z => n1 (by rw [z]; exact hM))).trans e1, n1⟩) (Nat.le_refl _), G.dck, fun a u e n => by
  by_cases hz : a = D
  · subst hz
    have : upd F.H0 a o a = some u := e
    rw [upd_same] at this
    cases this
    exact h
  · have : upd F.H0 D o a = some u := e
    rw [upd_ne hz] at this
    exact G.fr a u this n⟩
theorem Good.unpin {K F σ H ρ δ D o} (h0 : F.H0 D = none) (hM : F.M0 D) (G : Good K (F.pin D o) σ H ρ δ) : Good K F σ H ρ δ := ⟨G.len, G.val, fun i ds e => by
  obtain ⟨a, xs, e1, e2, r, n⟩ := G.own i ds e
  exact ⟨a, xs, e1, e2, r, n.1, n.2.mo fun n2 => (upd_ne (a := D) (b := a) (fun z => n.1 (by rw [z]; exact hM))).symm.trans n2⟩, G.inj, G.m0, fun {k} i e => (G.dsl i e).mo rfl (fun a u t e1 n1 => ⟨(upd_ne (a := D) (b := a) (fun z => n1 (by rw [z]; exact hM))).symm.trans e1, n1⟩) (Nat.le_refl _), G.dck, fun a u e n => G.fr a u (by
  show upd F.H0 D o a = some u
  rw [upd_ne (ne_of_none e h0)]
  exact e) n⟩
theorem Good.fresh0 {K F σ H ρ δ D} (G : Good K F σ H ρ δ) (h : H D = none) : F.H0 D = none := by
  cases e : F.H0 D with
  | none => rfl
  | some o =>
    have := G.fr D o e fun p hp => ⟨(ne_of_none (G.dck p hp).2.2.2.one h).symm, ((G.dck p hp).2.2.2.ne2N h).symm, (ne_of_none (G.dck p hp).2.2.2.tri h).symm⟩
    rw [h] at this
    cases this
def compL (g : MG) (tt : MT) (te : ME) (ρ : List Sl) : List D → Dk → Option (List D × Dk)
  | [], δ => some ([], δ)
  | d :: ds, δ => (g d ρ).bind fun ρ2 => (tt ρ2 δ).bind fun p => if p.1 = true then (te ρ2 p.2).bind fun q => (compL g tt te ρ ds q.2).map fun r => (q.1 :: r.1, r.2) else compL g tt te ρ ds p.2
def mLc (mi : MA) (vs : List Nat) (g : MG) (tt : MT) (te : ME) : ME := fun ρ δ => (mi ρ δ).bind fun p => if noU ρ vs = true then (compL g tt te (wipeR ρ vs) p.1 p.2).bind fun q => if q.1.length ≤ sizeLine then some (.list q.1, q.2) else none else none
structure PDTs (X : Cx) (ifs : List Expr) (m : MT) : Prop where
  ex : ∃ t, PTs X ifs t ∧ SndT X.K t m
def mYes : MT := fun _ δ => some (true, δ)
theorem pdts_nil {X : Cx} : PDTs X [] mYes := ⟨_, pts_nil, fun F σ H ρ δ d δ' G e Q q => by cases e; exact q _ G (Mv.refl _ _)⟩
theorem pdts_one {X : Cx} {c : Expr} {m : MT} (h : PDT X c m) : PDTs X [c] m := by
  obtain ⟨t, h1, s1⟩ := h.ex
  exact ⟨_, pts_one h1, s1⟩
theorem lc_in {K : PySem.W.Frag} {g : TG} {tt : TT} {te : TE} {vs : List Nat} {mg : MG} {mt : MT} {me : ME} {sl : List Nat} {F : Fr} {σ : L2.St} {H1 : Hp} {ρ : List Sl} {δ1 δ2 : Dk} {J : It} {ds out : List D} {Q : VK}
    (hg : ∀ F σ H ρ δ v d ρ', Good K F σ H ρ δ → Rep K (Mm F σ ρ) H v d → mg d ρ = some ρ' → ∀ Q : L2.St → Hp → Prop, (∀ σ', Good K F σ' H ρ' δ → Mv (Mm F σ ρ) H (Mm F σ' ρ') H → Set1 sl σ σ' ρ ρ' → Q σ' H) → g v σ H Q)
    (ht : SndT K tt mt) (he : Snd K te me) (hs : ∀ i ∈ sl, i ∈ vs) (hu : noU ρ vs = true) (e2 : compL mg mt me (wipeR ρ vs) ds δ1 = some (out, δ2)) (hz : out.length ≤ sizeLine) (G1 : Good K F σ H1 ρ δ1) (Wk : Walks K (Mm F σ ρ) H1 J ds)
    (q : ∀ v H', Good K F σ H' ρ δ2 → Mv (Mm F σ ρ) H1 (Mm F σ ρ) H' → Rep K (Mm F σ ρ) H' v (.list out) → Q v H') : ∀ D, H1 D = none → ∃ W : Nat → Nat → Hp → Prop, (∃ m, W 0 m (upd H1 D (.lst []))) ∧ ∀ i m H, W i m H →
      (J.stop i H ∧ Q (.ref D) H) ∨ (J.go i H ∧ ∃ Nx : Hp → Prop, (∀ H', Nx H' → ∃ m', m' < m ∧ W (i + 1) m' H') ∧ ∀ x H', J.yld i H x H' → g x (L2.wipe σ vs) H' fun σ2 H2 => L2.wipe σ2 vs = L2.wipe σ vs ∧ tt σ2 H2 fun b H3 =>
        if b = true then te σ2 H3 fun y H4 => ∃ acc, H4 D = some (.lst acc) ∧ acc.length < sizeLine ∧ Nx (upd H4 D (.lst (acc ++ [y]))) else Nx H3) := fun D hD => by
  have GW := G1.wipe (vs := vs) hu
  obtain ⟨GP, MP⟩ := GW.plus (o := .lst []) hD
  rw [Mm_wipe hu] at MP
  have nDk : ∀ p, F.dk = some p → D ≠ p.1 ∧ D ≠ p.2 ∧ D ≠ p.3 := fun p hp => ⟨(ne_of_none (G1.dck p hp).2.2.2.one hD).symm, ((G1.dck p hp).2.2.2.ne2N hD).symm, (ne_of_none (G1.dck p hp).2.2.2.tri hD).symm⟩
  have hD0 : (F.plus D).H0 D = none := G1.fresh0 hD
  -- the sets that may change
  have eM : Mm (F.plus D) (L2.wipe σ vs) (wipeR ρ vs) = Mm (F.plus D) σ ρ := Mm_wipe hu
  rw [eM] at MP
  refine ⟨fun i m H => m = ds.length - i ∧ i ≤ ds.length ∧ ∃ δ3 done rest acc, Good K (F.plus D) (L2.wipe σ vs) H (wipeR ρ vs) δ3 ∧ Mv (Mm F σ ρ) H1 (Mm (F.plus D) σ ρ) H ∧ H D = some (.lst acc) ∧ Reps K (Mm (F.plus D) σ ρ) H acc done ∧
    compL mg mt me (wipeR ρ vs) (ds.drop i) δ3 = some (rest, δ2) ∧ done ++ rest = out, ⟨_, rfl, Nat.zero_le _, δ1, [], out, [], GP, MP, upd_same, .nil, e2, rfl⟩, ?_⟩
  rintro i m H2 ⟨rfl, hile, δ3, done, rest, acc, G2, M2, hacc, racc, ec, eo⟩
  have wf2 : ∀ a, Mm (F.plus D) σ ρ a → mtO (H2 a) := by rw [← eM]; exact G2.mm
  by_cases hlt : i < ds.length
  · obtain ⟨go, yl⟩ := (Wk _ H2 M2 wf2 i).1 hlt
    have hld : i < ds.length := hlt
    rw [List.drop_eq_getElem_cons hld] at ec
    refine .inr ⟨go, fun H' => ∃ δ3 done rest acc, Good K (F.plus D) (L2.wipe σ vs) H' (wipeR ρ vs) δ3 ∧ Mv (Mm F σ ρ) H1 (Mm (F.plus D) σ ρ) H' ∧ H' D = some (.lst acc) ∧ Reps K (Mm (F.plus D) σ ρ) H' acc done ∧
      compL mg mt me (wipeR ρ vs) (ds.drop (i + 1)) δ3 = some (rest, δ2) ∧ done ++ rest = out, fun H' h => ⟨ds.length - (i + 1), by omega, rfl, hlt, h⟩, fun x H3 hy => ?_⟩
    obtain ⟨kp, dx, edx, rdx⟩ := yl x H3 hy
    rw [List.getElem?_eq_getElem hld] at edx
    cases edx
    replace G2 := G2.keep kp
    replace M2 := M2.trans (Mv.same kp)
    replace hacc := kp _ _ hacc
    replace racc := racc.mv (Mv.same kp)
    unfold compL at ec
    obtain ⟨ρ2, f1, ec⟩ := Option.bind_eq_some_iff.mp ec
    obtain ⟨⟨b, δ4⟩, f2, ec⟩ := Option.bind_eq_some_iff.mp ec
    dsimp only at ec
    refine hg ((F.plus D).pin D (.lst acc)) (L2.wipe σ vs) H3 (wipeR ρ vs) δ3 x _ ρ2 (G2.pin (.inr rfl) hacc) (by rw [Mm_pin, eM]; exact rdx) f1 _ fun σ2 G3 M3 T3 => ?_
    obtain ⟨w1, w2⟩ := T3.wipes hs
    rw [wipe_wipe] at w1
    rw [wipeR_wipeR] at w2
    have hu2 : noU ρ2 vs = true := T3.noU (noU_wipe ρ vs)
    have eM2 : Mm (F.plus D) σ2 ρ2 = Mm (F.plus D) σ ρ := by
      rw [← Mm_wipe hu2, w1, w2, eM]
    rw [Mm_pin, Mm_pin, eM2, eM] at M3
    refine ⟨w1, ht ((F.plus D).pin D (.lst acc)) σ2 H3 ρ2 δ3 b δ4 G3 f2 _ fun H4 G4 M4 => ?_⟩
    rw [Mm_pin, eM2] at M4
    cases b with
    | false =>
      refine iteF ?_
      rw [if_neg Bool.false_ne_true] at ec
      have GB := (Good.unpin hD0 (.inr rfl) G4).wipe hu2
      rw [w1, w2] at GB
      exact ⟨δ4, done, rest, acc, GB, M2.trans M4, G4.fr D _ upd_same nDk, racc.mv M4, ec, eo⟩
    | true =>
      refine iteT ?_
      rw [if_pos rfl] at ec
      obtain ⟨⟨y, δ5⟩, f3, ec⟩ := Option.bind_eq_some_iff.mp ec
      obtain ⟨⟨more, δ6⟩, f4, ec⟩ := Option.map_eq_some_iff.mp ec
      cases ec
      refine he ((F.plus D).pin D (.lst acc)) σ2 H4 ρ2 δ4 y δ5 G4 f3 _ fun v H5 G5 M5 R5 => ?_
      rw [Mm_pin, eM2] at M5 R5
      have hD5 := G5.fr D _ upd_same nDk
      have GB := (Good.unpin hD0 (.inr rfl) G5).wipe hu2
      rw [w1, w2] at GB
      obtain ⟨GC, MC⟩ := GB.write ⟨_, _, _, G1⟩ hD (o := .lst (acc ++ [v]))
      rw [eM] at MC
      refine ⟨acc, hD5, ?_, δ5, done ++ [y], more, acc ++ [v], GC, ((M2.trans M4).trans M5).trans MC, upd_same, ((racc.mv (M4.trans M5)).append (.cons R5 .nil)).mv MC, f4, by rw [← eo]; simp⟩
      have : out.length = done.length + (more.length + 1) := by rw [← eo]; simp
      rw [racc.length]
      omega
  · have hi' : i = ds.length := by omega
    subst hi'
    refine .inl ⟨(Wk _ H2 M2 wf2 ds.length).2 (Nat.le_refl _), ?_⟩
    rw [List.drop_of_length_le (Nat.le_refl _)] at ec
    cases ec
    rw [List.append_nil] at eo
    subst eo
    have an : Mv (Mm (F.plus D) σ ρ) H2 (Mm F σ ρ) H2 := fun a o e n => ⟨e, fun z => n (by rw [Mm_plus]; exact .inl z)⟩
    have M3 := M2.trans an
    exact q _ _ (G1.back hu hD G2 M3) M3 (.lst ⟨G1.mfree hD, hacc⟩ (racc.mv an))
theorem snd_lc {K wi g tt te vs mi mg mt me} {sl : List Nat} (hi : ∀ F σ H ρ δ ds δ', Good K F σ H ρ δ → mi ρ δ = some (ds, δ') → ∀ R : It → Hp → Prop, (∀ J H', Good K F σ H' ρ δ' → Mv (Mm F σ ρ) H (Mm F σ ρ) H' → Walks K (Mm F σ ρ) H' J ds → R J H') → wi σ H R)
    (hg : ∀ F σ H ρ δ v d ρ', Good K F σ H ρ δ → Rep K (Mm F σ ρ) H v d → mg d ρ = some ρ' → ∀ Q : L2.St → Hp → Prop, (∀ σ', Good K F σ' H ρ' δ → Mv (Mm F σ ρ) H (Mm F σ' ρ') H → Set1 sl σ σ' ρ ρ' → Q σ' H) → g v σ H Q)
    (ht : SndT K tt mt) (he : Snd K te me) (hs : ∀ i ∈ sl, i ∈ vs) : Snd K (tLc wi g tt te vs) (mLc mi vs mg mt me) := fun F σ H ρ δ d δ' G e Q q => by
  unfold mLc at e
  obtain ⟨⟨ds, δ1⟩, e1, e⟩ := Option.bind_eq_some_iff.mp e
  dsimp only at e
  split at e
  · rename_i hu
    obtain ⟨⟨out, δ2⟩, e2, e⟩ := Option.bind_eq_some_iff.mp e
    dsimp only at e
    split at e
    · rename_i hz
      obtain ⟨rfl, rfl⟩ : PyData.list out = d ∧ δ2 = δ' := by
        have := Option.some.inj e
        exact ⟨congrArg Prod.fst this, congrArg Prod.snd this⟩
      exact hi F σ H ρ δ ds δ1 G e1 _ fun J H1 G1 M1 Wk => lc_in hg ht he hs hu e2 hz G1 Wk fun v H' G' M' R => q v H' G' (M1.trans M') R
    · cases e
  · cases e
end PD
namespace PD
open PySem PySem.Spec PyProof.Rows L2
section
variable {X : Cx} {elt tg iter : Expr} {ifs : List Expr} {scope : Scope} {own : List (Str × Nat)} {pos : Pos} {mi : MA} {mg : MG} {mt : MT} {me : ME} {sl : List Nat}
structure Blk (X : Cx) (scope : Scope) (own : List (Str × Nat)) (tg : Expr) (ifs : List Expr) (elt : Expr) (sl : List Nat) (mg : MG) (mt : MT) (me : ME) : Prop where
  g : ∀ (s : Shared) (H : Hp) (C : Addr) (cl : List (Str × Addr)) (fp : List Addr), PDG (X.blk s H scope (compEnvC scope cl C X.env) fp) tg sl mg
  t : ∀ (s : Shared) (H : Hp) (C : Addr) (cl : List (Str × Addr)) (fp : List Addr), PDTs (X.blk s H scope (compEnvC scope cl C X.env) fp) ifs mt
  e : ∀ (s : Shared) (H : Hp) (C : Addr) (cl : List (Str × Addr)) (fp : List Addr), PD (X.blk s H scope (compEnvC scope cl C X.env) fp) elt me
  o : ∀ i ∈ sl, i ∈ own.map (·.2)
theorem Blk.all (B : Blk X scope own tg ifs elt sl mg mt me) : ∃ (g : TG) (tt : TT) (te : TE),
    (∀ (s : Shared) (H : Hp) (C : Addr) (cl : List (Str × Addr)) (fp : List Addr), PG (X.blk s H scope (compEnvC scope cl C X.env) fp) tg g) ∧ (∀ (s : Shared) (H : Hp) (C : Addr) (cl : List (Str × Addr)) (fp : List Addr), PTs (X.blk s H scope (compEnvC scope cl C X.env) fp) ifs tt) ∧
    (∀ (s : Shared) (H : Hp) (C : Addr) (cl : List (Str × Addr)) (fp : List Addr), PE (X.blk s H scope (compEnvC scope cl C X.env) fp) elt te) ∧
    (∀ F σ H ρ δ v d ρ', Good X.K F σ H ρ δ → Rep X.K (Mm F σ ρ) H v d → mg d ρ = some ρ' → ∀ Q : L2.St → Hp → Prop, (∀ σ', Good X.K F σ' H ρ' δ → Mv (Mm F σ ρ) H (Mm F σ' ρ') H → Set1 sl σ σ' ρ ρ' → Q σ' H) → g v σ H Q) ∧
    SndT X.K tt mt ∧ Snd X.K te me := by
  refine ⟨fun v σ H Q => ∀ s h C cl fp, (B.g s h C cl fp).ex.choose v σ H Q, fun σ H Q => ∀ s h C cl fp, (B.t s h C cl fp).ex.choose σ H Q, fun σ H Q => ∀ s h C cl fp, (B.e s h C cl fp).ex.choose σ H Q,
    fun s h C cl fp => ⟨fun pins s' σ H v u Q I r q => (B.g s h C cl fp).ex.choose_spec.1.run pins s' σ H v u Q I r (q s h C cl fp)⟩,
    fun s h C cl fp => ⟨fun pins s' σ H Q I q => (B.t s h C cl fp).ex.choose_spec.1.run pins s' σ H Q I (q s h C cl fp)⟩,
    fun s h C cl fp => ⟨fun pins s' σ H Q I q => (B.e s h C cl fp).ex.choose_spec.1.run pins s' σ H Q I (q s h C cl fp)⟩,
    fun F σ H ρ δ v d ρ' G r e Q q s h C cl fp => (B.g s h C cl fp).ex.choose_spec.2 F σ H ρ δ v d ρ' G r e Q q,
    fun F σ H ρ δ d δ' G e Q q s h C cl fp => (B.t s h C cl fp).ex.choose_spec.2 F σ H ρ δ d δ' G e Q q,
    fun F σ H ρ δ d δ' G e Q q s h C cl fp => (B.e s h C cl fp).ex.choose_spec.2 F σ H ρ δ d δ' G e Q q⟩
theorem pd_lc (hc : X.calm = true) (hN : X.N.Nodup) (hi : PDI X tg iter mi) (ok : BlkOk X.N X.env.scope scope own) (B : Blk X scope own tg ifs elt sl mg mt me) (hs : ∀ x, foldedSetIterable iter X.env x = pure x := by intro _; rfl) :
    PD X (.ListComp elt [⟨tg, iter, ifs, 0⟩] scope pos) (mLc mi (own.map (·.2)) mg mt me) := by
  obtain ⟨wi, h1, s1⟩ := hi.ex
  obtain ⟨g, tt, te, p1, p2, p3, s2, s3, s4⟩ := B.all
  exact ⟨_, pe_lc hc hN h1 ok p1 p2 p3 hs, snd_lc s1 s2 s3 s4 B.o⟩
end
inductive Fl where
  | nx | rt (d : D) | bk | ct
abbrev MS := List Sl → Dk → Option (Fl × List Sl × Dk)
def SndS (K : PySem.W.Frag) (t : TS) (m : MS) : Prop := ∀ F σ H ρ δ fl ρ' δ', Good K F σ H ρ δ → m ρ δ = some (fl, ρ', δ') → ∀ D : Ends,
  (∀ σ' H', Good K F σ' H' ρ' δ' → Mv (Mm F σ ρ) H (Mm F σ' ρ') H' → match fl with
    | .nx => D.nx σ' H'
    | .bk => D.bk σ' H'
    | .ct => D.ct σ' H'
    | .rt d => ∀ v, Rep K (Mm F σ' ρ') H' v d → D.rt v H') → t D σ H
structure PDS (X : Cx) (st : Stmt) (m : MS) : Prop where
  ex : ∃ t, PS X st t ∧ SndS X.K t m
structure PDSs (X : Cx) (sts : List Stmt) (m : MS) : Prop where
  ex : ∃ t, PSs X sts t ∧ SndS X.K t m
def sNext : MS := fun ρ δ => some (.nx, ρ, δ)
def sSeq (a b : MS) : MS := fun ρ δ => (a ρ δ).bind fun p => match p.1 with
  | .nx => b p.2.1 p.2.2
  | f => some (f, p.2)
theorem snd_next {K} : SndS K tNext sNext := fun F σ H ρ δ fl ρ' δ' G e D q => by
  cases e
  exact q σ H G (Mv.refl _ _)
theorem snd_seq {K t u a b} (h : SndS K t a) (g : SndS K u b) : SndS K (tSeq t u) (sSeq a b) := fun F σ H ρ δ fl ρ' δ' G e D q => by
  unfold sSeq at e
  obtain ⟨⟨f, ρ1, δ1⟩, e1, e⟩ := Option.bind_eq_some_iff.mp e
  cases f with
  | nx => exact h F σ H ρ δ .nx ρ1 δ1 G e1 _ fun σ1 H1 G1 M1 => g F σ1 H1 ρ1 δ1 fl ρ' δ' G1 e D fun σ2 H2 G2 M2 => q σ2 H2 G2 (M1.trans M2)
  | bk => cases e; exact h F σ H ρ δ _ _ _ G e1 _ fun σ1 H1 G1 M1 => q σ1 H1 G1 M1
  | ct => cases e; exact h F σ H ρ δ _ _ _ G e1 _ fun σ1 H1 G1 M1 => q σ1 H1 G1 M1
  | rt d => cases e; exact h F σ H ρ δ _ _ _ G e1 _ fun σ1 H1 G1 M1 => q σ1 H1 G1 M1
section
variable {X : Cx} {st : Stmt} {rest : List Stmt} {m m' : MS} {a b c e tg : Expr} {ma mb : ME} {nc : MT} {pos : Pos} {sl : List Nat} {mg : MG}
theorem pdss_nil : PDSs X [] sNext := ⟨_, pss_nil, snd_next⟩
theorem pdss_cons (h1 : PDS X st m) (h2 : PDSs X rest m') : PDSs X (st :: rest) (sSeq m m') := by
  obtain ⟨t, p1, s1⟩ := h1.ex
  obtain ⟨u, p2, s2⟩ := h2.ex
  exact ⟨_, pss_cons p1 p2, snd_seq s1 s2⟩
theorem pdss_one (h1 : PDS X st m) : PDSs X [st] m := by
  obtain ⟨t, p1, s1⟩ := h1.ex
  exact ⟨_, pss_one p1, s1⟩
/-- a list that grew, from now on as it is -/
def sFrz (i : Nat) (s : MS) : MS := fun ρ δ => match ρ[i]? with
  | some (.own (.lst ds)) => s (ρ.set i (.val (.list ds))) δ
  | _ => none
theorem snd_frz {K t s} (i : Nat) (h : SndS K t s) : SndS K t (sFrz i s) := fun F σ H ρ δ fl ρ' δ' G e D q => by
  unfold sFrz at e
  split at e
  · rename_i ds hi
    obtain ⟨a, xs, e1, e2, r, n⟩ := G.uni i ds hi
    have hl : i < ρ.length := by
      rcases Nat.lt_or_ge i ρ.length with h | h
      · exact h
      · rw [List.getElem?_eq_none h] at hi; cases hi
    have hset : σ.set i (some (.ref a)) = σ := by
      refine list_ext fun j => ?_
      by_cases hj : i = j
      · subst hj; rw [List.getElem?_set_self (by rw [G.len]; exact hl), e1]
      · rw [List.getElem?_set_ne hj]
    have hM : ∀ b, Mm F σ (ρ.set i (.val (.list ds))) b → Mm F σ ρ b ∧ b ≠ a := fun b z => by
      rcases z with z | ⟨j, es, f1, f2⟩
      · exact ⟨.inl z, fun y => n.1 (y ▸ z)⟩
      · by_cases hj : i = j
        · subst hj; rw [List.getElem?_set_self hl] at f1; cases f1
        · rw [List.getElem?_set_ne hj] at f1
          exact ⟨.inr ⟨j, es, f1, f2⟩, fun y => by subst y; exact hj (G.inj i j _ es b hi f1 e1 f2)⟩
    have mv : Mv (Mm F σ ρ) H (Mm F σ (ρ.set i (.val (.list ds)))) H := fun b o f g => ⟨f, fun z => g (hM b z).1⟩
    have un : ∀ (j : Nat) es, (ρ.set i (.val (.list ds)))[j]? = some (.own es) → ρ[j]? = some (.own es) := fun j es f => by
      by_cases hj : i = j
      · subst hj; rw [List.getElem?_set_self hl] at f; cases f
      · rw [List.getElem?_set_ne hj] at f; exact f
    have G1 : Good K F σ H (ρ.set i (.val (.list ds))) δ := by
      refine ⟨by rw [List.length_set]; exact G.len, fun j d f => ?_, fun j es f => ?_, fun j k es fs b f1 f2 f3 f4 => G.inj j k es fs b (un j es f1) (un k fs f2) f3 f4, G.m0, fun j f => ?_, G.dck, G.fr⟩
      · by_cases hj : i = j
        · subst hj
          rw [List.getElem?_set_self hl] at f
          cases f
          exact ⟨_, e1, .lst ⟨fun z => (hM a z).2 rfl, e2⟩ (r.mv mv)⟩
        · rw [List.getElem?_set_ne hj] at f
          obtain ⟨v, g1, g2⟩ := G.val j d f
          exact ⟨v, g1, g2.mv mv⟩
      · obtain ⟨b, ys, g1, g2, g3, g4⟩ := G.own j es (un j es f)
        exact ⟨b, ys, g1, g2, g3.mv mv, g4⟩
      · by_cases hj : i = j
        · subst hj; rw [List.getElem?_set_self hl] at f; cases f
        · rw [List.getElem?_set_ne hj] at f
          exact G.dsl j f
    exact h F σ H _ δ fl ρ' δ' G1 e D fun σ1 H1 G2 M2 => q σ1 H1 G2 (mv.trans M2)
  · cases e
def sAsg (me : ME) (g : MG) : MS := fun ρ δ => (me ρ δ).bind fun p => (g p.1 ρ).map fun ρ1 => (.nx, ρ1, p.2)
theorem snd_asg {K te g m mg} {sl : List Nat} (h : Snd K te m) (hg : ∀ F σ H ρ δ v d ρ', Good K F σ H ρ δ → Rep K (Mm F σ ρ) H v d → mg d ρ = some ρ' → ∀ Q : L2.St → Hp → Prop, (∀ σ', Good K F σ' H ρ' δ → Mv (Mm F σ ρ) H (Mm F σ' ρ') H → Set1 sl σ σ' ρ ρ' → Q σ' H) → g v σ H Q) : SndS K (tAsg te g) (sAsg m mg) := fun F σ H ρ δ fl ρ' δ' G e D q => by
  obtain ⟨⟨x, δ1⟩, e1, e⟩ := Option.bind_eq_some_iff.mp e
  obtain ⟨ρ1, e2, e⟩ := Option.map_eq_some_iff.mp e
  cases e
  exact h F σ H ρ δ x _ G e1 _ fun v H1 G1 M1 R1 => hg F σ H1 ρ _ v x _ G1 R1 e2 _ fun σ2 G2 M2 _ => q σ2 H1 G2 (M1.trans M2)
theorem pds_asg (he : PD X e ma) (hg : PDG X tg sl mg) (hs : swapsWithSole [tg] e pos.line X.env = pure false := by rfl) (hw : swappedStores [tg] e X.env = pure none := by rfl) (h1 : (assignEach [tg] X.env).map (·.2) = [assign tg X.env] := by rfl) : PDS X (.Assign [tg] e pos) (sAsg ma mg) := by
  obtain ⟨t, p1, s1⟩ := he.ex
  obtain ⟨g, p2, s2⟩ := hg.ex
  exact ⟨_, ps_asg p1 p2 hs hw h1, snd_asg s1 s2⟩
theorem pg_set {K} (i : Nat) : ∀ F σ H ρ δ v d ρ', Good K F σ H ρ δ → Rep K (Mm F σ ρ) H v d → gSet i d ρ = some ρ' → ∀ Q : L2.St → Hp → Prop, (∀ σ', Good K F σ' H ρ' δ → Mv (Mm F σ ρ) H (Mm F σ' ρ') H → Set1 [i] σ σ' ρ ρ' → Q σ' H) → gName i v σ H Q := fun F σ H ρ δ v d ρ' G r e Q q => by
  cases e
  exact q _ (G.set i r).1 (G.set i r).2 (Set1.set i)
theorem pds_set (i : Nat) {x : Str} {pos' : Pos} (hN : X.N.Nodup) (he : PD X e ma) (hi : X.N[i]? = some x := by rfl) (hx : Loc X.env.scope x := by first | exact Or.inl rfl | exact Or.inr rfl) (hs : swapsWith e (some (.Name x pos')) pos.line X.env = pure false := by rfl) (hf : X.fn x = true ∨ X.env.scope.names.lookup x = some .local := by first | exact .inl rfl | exact .inr rfl | assumption) : PDS X (.Assign [.Name x pos'] e pos) (sAsg ma (gSet i)) := by
  obtain ⟨t, p1, s1⟩ := he.ex
  exact ⟨_, ps_set hN hi hx p1 hs hf, snd_asg s1 (pg_set i)⟩
theorem pds_setLc (i : Nat) {y : Str} {py spos : Pos} {elt iter : Expr} {ifs : List Expr} {scope : Scope} {own : List (Str × Nat)} {mi : MA} {mt : MT} (hc : X.calm = true) (hN : X.N.Nodup) (hi : PDI X tg iter mi) (ok : BlkOk X.N X.env.scope scope own) (B : Blk X scope own tg ifs elt sl mg mt ma)
    (hsw : swapsWith (.ListComp elt [⟨tg, iter, ifs, 0⟩] scope pos) (some (.Name y py)) spos.line X.env = pure true) (hy : X.N[i]? = some y := by rfl) (hyl : X.env.scope.names.lookup y = some .local := by rfl)  (hs : ∀ x, foldedSetIterable iter X.env x = pure x := by intro _; rfl) :
    PDS X (.Assign [.Name y py] (.ListComp elt [⟨tg, iter, ifs, 0⟩] scope pos) spos) (sAsg (mLc mi (own.map (·.2)) mg mt ma) (gSet i)) := by
  obtain ⟨wi, h1, s1⟩ := hi.ex
  obtain ⟨g, tt, te, p1, p2, p3, s2, s3, s4⟩ := B.all
  exact ⟨_, ps_setLc hc hN hy hyl hsw h1 ok p1 p2 p3 hs, snd_asg (snd_lc s1 s2 s3 s4 B.o) (pg_set i)⟩
def sRet (m : ME) : MS := fun ρ δ => (m ρ δ).map fun p => (.rt p.1, ρ, p.2)
theorem pds_ret (he : PD X e ma) : PDS X (.Return (some e) pos) (sRet ma) := by
  obtain ⟨t, p1, s1⟩ := he.ex
  refine ⟨_, ps_ret p1, fun F σ H ρ δ fl ρ' δ' G e D q => ?_⟩
  obtain ⟨⟨x, δ1⟩, e1, e⟩ := Option.map_eq_some_iff.mp e
  cases e
  exact s1 F σ H ρ δ x _ G e1 _ fun v H1 G1 M1 R1 => q σ H1 G1 M1 v R1
def sIf (c : MT) (a b : MS) : MS := fun ρ δ => (c ρ δ).bind fun p => if p.1 = true then a ρ p.2 else b ρ p.2
theorem pds_if {x y : List Stmt} (hc : PDT X c nc) (ha : PDSs X x m) (hb : PDSs X y m') : PDS X (.If c x y pos) (sIf nc m m') := by
  obtain ⟨t, p0, s0⟩ := hc.ex
  obtain ⟨u, p1, s1⟩ := ha.ex
  obtain ⟨w, p2, s2⟩ := hb.ex
  refine ⟨_, ps_if p0 p1 p2, fun F σ H ρ δ fl ρ' δ' G e D q => ?_⟩
  obtain ⟨⟨x, δ1⟩, e1, e⟩ := Option.bind_eq_some_iff.mp e
  refine s0 F σ H ρ δ x δ1 G e1 _ fun H1 G1 M1 => ?_
  cases x with
  | true => exact iteT (s1 F σ H1 ρ δ1 fl ρ' δ' G1 e D fun σ2 H2 G2 M2 => q σ2 H2 G2 (M1.trans M2))
  | false => exact iteF (s2 F σ H1 ρ δ1 fl ρ' δ' G1 e D fun σ2 H2 G2 M2 => q σ2 H2 G2 (M1.trans M2))
def sAug (i : Nat) (f : D → D → Option D) (m : ME) : MS := fun ρ δ => match ρ[i]? with
  | some (.val x) => (m ρ δ).bind fun p => (f x p.1).map fun z => (.nx, ρ.set i (.val z), p.2)
  | _ => none
end
end PD
namespace PD
open PySem PySem.Spec PyProof.Rows L2
theorem get_set_self {α : Type} {l : List α} {i : Nat} {x y : α} (h : (l.set i x)[i]? = some y) : x = y := by
  by_cases hl : i < l.length
  · rw [List.getElem?_set_self hl] at h; exact Option.some.inj h
  · rw [List.getElem?_eq_none (by simpa using hl)] at h; cases h
theorem Good.ownNew {K F σ H ρ δ p vs ds} (G : Good K F σ H ρ δ) (i : Nat) (hi : i < ρ.length) (hp : H p = none) (r : OwR K (Mm F σ ρ) H vs ds) :
    Good K F (σ.set i (some (.ref p))) (upd H p vs) (ρ.set i (.own ds)) δ ∧ Mv (Mm F σ ρ) H (Mm F (σ.set i (some (.ref p))) (ρ.set i (.own ds))) (upd H p vs) := by
  have hiσ : i < σ.length := by rw [G.len]; exact hi
  have un : ∀ (j : Nat) es, i ≠ j → (ρ.set i (.own ds))[j]? = some (.own es) → ρ[j]? = some (.own es) := fun j es hj e => by
    rw [List.getElem?_set_ne hj] at e; exact e
  have hM : ∀ a, Mm F (σ.set i (some (.ref p))) (ρ.set i (.own ds)) a → Mm F σ ρ a ∨ a = p := fun a z => by
    rcases z with z | ⟨j, es, e1, e2⟩
    · exact .inl (.inl z)
    · by_cases hj : i = j
      · subst hj
        have := get_set_self e2
        cases this
        exact .inr rfl
      · rw [List.getElem?_set_ne hj] at e1 e2
        exact .inl (.inr ⟨j, es, e1, e2⟩)
  have mv : Mv (Mm F σ ρ) H (Mm F (σ.set i (some (.ref p))) (ρ.set i (.own ds))) (upd H p vs) := fun a o e n => ⟨upd_keeps hp a o e, fun z => (hM a z).elim n (ne_of_none e hp)⟩
  refine ⟨⟨by rw [List.length_set, List.length_set]; exact G.len, fun j d e => ?_, fun j es e => ?_, fun j k es fs a e1 e2 e3 e4 => ?_, fun a ha => ?_, fun j e => ?_, fun q e => ?_, fun a o e n => upd_keeps hp _ _ (G.fr a o e n)⟩, mv⟩
  · by_cases hj : i = j
    · subst hj; rw [List.getElem?_set_self hi] at e; cases e
    · rw [List.getElem?_set_ne hj] at e ⊢
      obtain ⟨v, e1, r1⟩ := G.val j d e
      exact ⟨v, e1, r1.mv mv⟩
  · by_cases hj : i = j
    · subst hj
      rw [List.getElem?_set_self hi] at e
      cases e
      exact ⟨p, vs, List.getElem?_set_self hiσ, upd_same, r.mv mv, fun z => (G.m0 p z).ne hp, .inl (G.fresh0 hp)⟩
    · rw [List.getElem?_set_ne hj] at e ⊢
      obtain ⟨a, xs, e1, e2, r1, n⟩ := G.own j es e
      exact ⟨a, xs, e1, upd_keeps hp _ _ e2, r1.mv mv, n⟩
  · by_cases hj : i = j
    · by_cases hk : i = k
      · exact hj.symm.trans hk
      · subst hj
        have z := get_set_self e3
        cases z
        rw [List.getElem?_set_ne hk] at e2 e4
        obtain ⟨b, xs, f1, f2, _⟩ := G.own k fs e2
        rw [e4] at f1; cases f1
        rw [hp] at f2; cases f2
    · by_cases hk : i = k
      · subst hk
        have z := get_set_self e4
        cases z
        rw [List.getElem?_set_ne hj] at e1 e3
        obtain ⟨b, xs, f1, f2, _⟩ := G.own j es e1
        rw [e3] at f1; cases f1
        rw [hp] at f2; cases f2
      · rw [List.getElem?_set_ne hj] at e1 e3
        rw [List.getElem?_set_ne hk] at e2 e4
        exact G.inj j k es fs a e1 e2 e3 e4
  · exact (G.m0 a ha).keep fun o e => upd_keeps hp a o e
  · by_cases hj : i = j
    · subst hj; rw [List.getElem?_set_self hi] at e; cases e
    · rw [List.getElem?_set_ne hj] at e ⊢
      exact G.dsl j e
  · obtain ⟨d1, d2, d4, d3⟩ := G.dck q e
    exact ⟨d1, d2, d4, d3.ne, d3.ne2, d3.ne3, upd_keeps hp _ _ d3.one, (fun z => upd_keeps hp _ _ (d3.two z)), upd_keeps hp _ _ d3.tri, d3.tab.new hp⟩
theorem Good.ownWrite {K F σ H ρ δ a ys ds es} (G : Good K F σ H ρ δ) (i : Nat) (hi : ρ[i]? = some (.own ds)) (ha : σ[i]? = some (some (.ref a))) (r : OwR K (Mm F σ ρ) H ys es) (hn : ∀ es, ds ≠ Ow.dcf es := by intro _ z; cases z) :
    Good K F σ (upd H a ys) (ρ.set i (.own es)) δ ∧ Mv (Mm F σ ρ) H (Mm F σ (ρ.set i (.own es))) (upd H a ys) := by
  have hl : i < ρ.length := by
    rcases Nat.lt_or_ge i ρ.length with h | h
    · exact h
    · rw [List.getElem?_eq_none h] at hi; cases hi
  have eM : Mm F σ (ρ.set i (.own es)) = Mm F σ ρ := by
    funext b
    refine propext ⟨fun z => ?_, fun z => ?_⟩
    · rcases z with z | ⟨j, fs, e1, e2⟩
      · exact .inl z
      · by_cases hj : i = j
        · subst hj; exact .inr ⟨i, ds, hi, e2⟩
        · rw [List.getElem?_set_ne hj] at e1; exact .inr ⟨j, fs, e1, e2⟩
    · rcases z with z | ⟨j, fs, e1, e2⟩
      · exact .inl z
      · by_cases hj : i = j
        · subst hj; exact .inr ⟨i, es, List.getElem?_set_self hl, e2⟩
        · exact .inr ⟨j, fs, by rw [List.getElem?_set_ne hj]; exact e1, e2⟩
  rw [eM]
  have mv : Mv (Mm F σ ρ) H (Mm F σ ρ) (upd H a ys) := fun b o e n => ⟨by rw [upd_ne (fun z => n (.inr ⟨i, ds, hi, by rw [z]; exact ha⟩))]; exact e, n⟩
  obtain ⟨a', xs', f1, f2, f3, n0, n1⟩ := G.own i ds hi
  have n1 : F.H0 a' = none := n1.resolve_right fun z => by obtain ⟨es, z⟩ := z; exact hn es z
  rw [ha] at f1
  cases f1
  refine ⟨⟨by rw [List.length_set]; exact G.len, fun j d e => ?_, fun j fs e => ?_, fun j k fs gs b e1 e2 e3 e4 => ?_, fun b hb => ?_, fun j e => ?_, fun q e => ?_, fun b o e n => ?_⟩, mv⟩
  · rw [eM]
    by_cases hj : i = j
    · subst hj; rw [List.getElem?_set_self hl] at e; cases e
    · rw [List.getElem?_set_ne hj] at e
      obtain ⟨v, e1, r1⟩ := G.val j d e
      exact ⟨v, e1, r1.mv mv⟩
  · rw [eM]
    by_cases hj : i = j
    · subst hj
      rw [List.getElem?_set_self hl] at e
      cases e
      exact ⟨a, ys, ha, upd_same, r.mv mv, n0, .inl n1⟩
    · rw [List.getElem?_set_ne hj] at e
      obtain ⟨b, zs, e1, e2, r1, n⟩ := G.own j fs e
      exact ⟨b, zs, e1, by rw [upd_ne (fun z => hj (G.inj i j ds fs a hi e ha (by rw [← z]; exact e1)))]; exact e2, r1.mv mv, n⟩
  · have g : ∀ (j : Nat) fs, (ρ.set i (.own es))[j]? = some (.own fs) → ∃ gs, ρ[j]? = some (.own gs) := fun j fs e => by
      by_cases hj : i = j
      · subst hj; exact ⟨ds, hi⟩
      · rw [List.getElem?_set_ne hj] at e; exact ⟨fs, e⟩
    obtain ⟨fs', e1⟩ := g j fs e1
    obtain ⟨gs', e2⟩ := g k gs e2
    exact G.inj j k fs' gs' b e1 e2 e3 e4
  · by_cases hz : b = a
    · rw [hz, upd_same]; exact r.mt
    · rw [upd_ne hz]; exact G.m0 b hb
  · by_cases hj : i = j
    · subst hj; rw [List.getElem?_set_self hl] at e; cases e
    · rw [List.getElem?_set_ne hj] at e
      exact G.dsl j e
  · obtain ⟨d1, d2, d4, d3⟩ := G.dck q e
    exact ⟨d1, d2, d4, d3.ne, d3.ne2, d3.ne3, by rw [upd_ne (fun z => n0 (by rw [← z]; exact d1))]; exact d3.one, (fun ez => by rw [upd_ne (fun z => n0 (by rw [← z]; exact d2))]; exact d3.two ez), by rw [upd_ne (fun z => n0 (by rw [← z]; exact d4))]; exact d3.tri, d3.tab.at f2 f3.nt.1 f3.nt.2 f3.nf fun b n => upd_ne n⟩
  · rw [upd_ne (fun z => by rw [z, n1] at e; cases e)]
    exact G.fr b o e n
theorem Good.uniNew {K F σ H ρ δ p vs ds} (G : Good K F σ H ρ δ) (i : Nat) (hi : i < ρ.length) (hp : H p = none) (r : Reps K (Mm F σ ρ) H vs ds) :
    Good K F (σ.set i (some (.ref p))) (upd H p (.lst vs)) (ρ.set i (.uni ds)) δ ∧ Mv (Mm F σ ρ) H (Mm F (σ.set i (some (.ref p))) (ρ.set i (.uni ds))) (upd H p (.lst vs)) := G.ownNew i hi hp (.lst r)
theorem Good.uniWrite {K F σ H ρ δ a ys ds es} (G : Good K F σ H ρ δ) (i : Nat) (hi : ρ[i]? = some (.uni ds)) (ha : σ[i]? = some (some (.ref a))) (r : Reps K (Mm F σ ρ) H ys es) :
    Good K F σ (upd H a (.lst ys)) (ρ.set i (.uni es)) δ ∧ Mv (Mm F σ ρ) H (Mm F σ (ρ.set i (.uni es))) (upd H a (.lst ys)) := G.ownWrite i hi ha (.lst r)
section
variable {X : Cx} {st : Stmt} {rest : List Stmt} {m m' : MS} {a b c e tg iter : Expr} {es : List Expr} {ma mb : ME} {mr mi : MA} {nc : MT} {pos : Pos} {sl : List Nat} {mg : MG}
def sUni (i : Nat) (r : MA) : MS := fun ρ δ => (r ρ δ).bind fun p => if p.1.length ≤ sizeLine ∧ i < ρ.length then some (.nx, ρ.set i (.uni p.1), p.2) else none
def sApp (i : Nat) (me : ME) : MS := fun ρ δ => match ρ[i]? with
  | some (.own (.lst ds)) => (me ρ δ).bind fun p => if ds.length < sizeLine then some (.nx, ρ.set i (.uni (ds ++ [p.1])), p.2) else none
  | _ => none
def forL (g : MG) (s : MS) : List D → MS
  | [] => fun ρ δ => some (.nx, ρ, δ)
  | d :: ds => fun ρ δ => (g d ρ).bind fun ρ1 => (s ρ1 δ).bind fun p => match p.1 with
    | .nx => forL g s ds p.2.1 p.2.2
    | .ct => forL g s ds p.2.1 p.2.2
    | .bk => some (.nx, p.2)
    | .rt d => some (.rt d, p.2)
def sFor (mi : MA) (g : MG) (s : MS) : MS := fun ρ δ => (mi ρ δ).bind fun p => forL g s p.1 ρ p.2
theorem pds_for {body : List Stmt} (hp : PassesOwn (model X.prog X.w) X.A X.env X.xe) (hc : X.calm = true) (hi : PDI X tg iter mi) (hg : PDG X tg sl mg) (hb : PDSs X body m) (hs : ∀ x, foldedSetIterable iter X.env x = pure x := by intro _; rfl) :
    PDS X (.For tg iter body [] pos) (sFor mi mg m) := by
  obtain ⟨wi, p1, s1⟩ := hi.ex
  obtain ⟨g, p2, s2⟩ := hg.ex
  obtain ⟨tb, p3, s3⟩ := hb.ex
  refine ⟨_, ps_for hp hc p1 p2 p3 hs, fun F σ0 H0 ρ0 δ0 fl ρ' δ' G e D q => ?_⟩
  obtain ⟨⟨ds, δ1⟩, e1, e⟩ := Option.bind_eq_some_iff.mp e
  refine s1 F σ0 H0 ρ0 δ0 ds δ1 G e1 _ fun J H1 G1 M1 Wk => ?_
  refine ⟨fun i k σ H => k = ds.length - i ∧ i ≤ ds.length ∧ ∃ ρ δ, Good X.K F σ H ρ δ ∧ Mv (Mm F σ0 ρ0) H1 (Mm F σ ρ) H ∧ forL mg m (ds.drop i) ρ δ = some (fl, ρ', δ'), ⟨_, rfl, Nat.zero_le _, ρ0, δ1, G1, Mv.refl _ _, e⟩, ?_⟩
  rintro i k σ H ⟨rfl, hile, ρ, δ, G2, M2, ef⟩
  by_cases hlt : i < ds.length
  · obtain ⟨go, yl⟩ := (Wk _ H M2 G2.mm i).1 hlt
    have hld : i < ds.length := hlt
    rw [List.drop_eq_getElem_cons hld] at ef
    refine .inr ⟨go, fun σ H => ∃ ρ δ, Good X.K F σ H ρ δ ∧ Mv (Mm F σ0 ρ0) H1 (Mm F σ ρ) H ∧ forL mg m (ds.drop (i + 1)) ρ δ = some (fl, ρ', δ'), fun σ' H' h => ⟨ds.length - (i + 1), by omega, rfl, hlt, h⟩, fun x H3 hy => ?_⟩
    obtain ⟨kp, dx, edx, rdx⟩ := yl x H3 hy
    rw [List.getElem?_eq_getElem hld] at edx
    cases edx
    replace G2 := G2.keep kp
    replace M2 := M2.trans (Mv.same kp)
    unfold forL at ef
    obtain ⟨ρ2, f1, ef⟩ := Option.bind_eq_some_iff.mp ef
    obtain ⟨⟨f, ρ3, δ3⟩, f2, ef⟩ := Option.bind_eq_some_iff.mp ef
    refine s2 F σ H3 ρ δ x _ ρ2 G2 rdx f1 _ fun σ2 G3 M3 _ => ?_
    refine s3 F σ2 H3 ρ2 δ f ρ3 δ3 G3 f2 _ fun σ4 H4 G4 M4 => ?_
    cases f with
    | nx => exact ⟨ρ3, δ3, G4, (M2.trans M3).trans M4, ef⟩
    | ct => exact ⟨ρ3, δ3, G4, (M2.trans M3).trans M4, ef⟩
    | bk => cases ef; exact q σ4 H4 G4 (M1.trans ((M2.trans M3).trans M4))
    | rt d => cases ef; exact q σ4 H4 G4 (M1.trans ((M2.trans M3).trans M4))
  · have hi' : i = ds.length := by omega
    subst hi'
    rw [List.drop_of_length_le (Nat.le_refl _)] at ef
    cases ef
    exact .inl ⟨(Wk _ H M2 G2.mm ds.length).2 (Nat.le_refl _), q σ H G2 (M1.trans M2)⟩
end
def slots (n : Nat) (ds : List Sl) : List Sl := ds ++ List.replicate (n - ds.length) .no
def outP : Option (Fl × List Sl × Dk) → Option (D × Dk)
  | some (.rt d, _, δ) => some (d, δ)
  | some (.nx, _, δ) => some (.none, δ)
  | _ => none
def fnP (n np : Nat) (s : MS) : List D → Option D := fun ds => if ds.length = np ∧ np ≤ n then (outP (s (slots n (ds.map .val)) ⟨[], 0, [], none⟩)).map (·.1) else none
def fnK (n np : Nat) (s : MS) : List D → Dk → Option (D × Dk) := fun ds δ => if ds.length + 1 = np ∧ np ≤ n then outP (s (slots n (.deck :: ds.map .val)) δ) else none
theorem start_get {N : List Str} {vs : List V} {i : Nat} {v : V} (h : vs[i]? = some v) : (start N vs)[i]? = some (some v) := by
  have hl : i < vs.length := by
    rcases Nat.lt_or_ge i vs.length with h' | h'
    · exact h'
    · rw [List.getElem?_eq_none h'] at h; cases h
  unfold L2.start
  rw [List.getElem?_append_left (by rw [List.length_map]; exact hl), List.getElem?_map, h]; rfl
theorem slots_get {n : Nat} {ds : List Sl} {i : Nat} {x : Sl} (h : (slots n ds)[i]? = some x) : ds[i]? = some x ∨ x = .no := by
  unfold slots at h
  rcases Nat.lt_or_ge i ds.length with h' | h'
  · rw [List.getElem?_append_left h'] at h; exact .inl h
  · rw [List.getElem?_append_right h'] at h
    right
    rw [List.getElem?_replicate] at h
    split at h
    · exact (Option.some.inj h).symm
    · cases h
section
variable {P : Program} {w : World} {K : PySem.W.Frag} {mg : Str → Option Value} {base : Heap}
theorem okP {x qual : Str} {st : Stmt} {f : Addr} {fd : FuncData} {N ps : List Str} {k : Nat} {s : MS} (F : Fun K x qual st f fd) (S : FnScope N ps (defScope st)) (hn : ps.length ≤ N.length)
    (hb : ∀ (cdv : Value) (A : Around) (outer : List Env) (s0 : Shared) (H : Hp) (E : XK), Room k (A.deeper (envOfC qual (defScope st) s0.heap.objs.size f cdv)) → PDSs (cxOf CX0 P w K mg base N qual (defScope st) f cdv A outer s0 H E).nox (defBody st) s) :
    FnOk P w K mg base CX0 (k + 1) f fd ps (spP K (fnP N.length ps.length s)) := by
  refine F.ok S (fun vs H Q E h => ?_) (fun cdv A outer s0 H vs Q E hr h => ?_)
  · obtain ⟨M, ds, r, hM, R, hm, q⟩ := h
    unfold fnP at hm
    split at hm
    · rename_i hz; rw [R.length]; exact hz.1
    · cases hm
  · obtain ⟨M, ds, r, hM, R, hm, q⟩ := h
    unfold fnP at hm
    split at hm
    · rename_i hz
      obtain ⟨t, p1, s1⟩ := (hb cdv A outer s0 H E hr).ex
      refine ⟨t, p1, ?_⟩
      obtain ⟨⟨r', δ'⟩, e1, e2⟩ := Option.map_eq_some_iff.mp hm
      cases e2
      generalize hres : s (slots N.length (ds.map Sl.val)) ⟨[], 0, [], none⟩ = res at e1
      have nun : ∀ (i : Nat) es, (slots N.length (ds.map Sl.val))[i]? ≠ some (.own es) := fun i es h => by
        rcases slots_get h with h | h
        · rw [List.getElem?_map] at h
          obtain ⟨d, _, h⟩ := Option.map_eq_some_iff.mp h
          cases h
        · cases h
      let Fr0 : Fr := ⟨M, none, H, 0, fun _ _ _ => False⟩
      have eM : Mm Fr0 (start N vs) (slots N.length (ds.map Sl.val)) = M := by
        funext a
        refine propext ⟨fun z => ?_, .inl⟩
        rcases z with z | ⟨i, es, f1, _⟩
        · exact z
        · exact (nun i es f1).elim
      have G : Good K Fr0 (start N vs) H (slots N.length (ds.map Sl.val)) ⟨[], 0, [], none⟩ := by
        refine ⟨?_, fun i d h => ?_, fun i es h => (nun i es h).elim, fun i j es _ _ h => (nun i es h).elim, hM, fun i h => ?_, fun p h => (nomatch h), fun _ _ e _ => e⟩
        · unfold L2.start slots
          simp only [List.length_append, List.length_map, List.length_replicate, R.length]
        · rw [eM]
          rcases slots_get h with h | h
          · rw [List.getElem?_map] at h
            obtain ⟨d', h1, h2⟩ := Option.map_eq_some_iff.mp h
            cases h2
            obtain ⟨v, g1, g2⟩ := R.get' h1
            exact ⟨v, start_get g1, g2⟩
          · cases h
        · rcases slots_get h with h | h
          · rw [List.getElem?_map] at h
            obtain ⟨d', h1, h2⟩ := Option.map_eq_some_iff.mp h
            cases h2
          · cases h
      cases res with
      | none => cases e1
      | some p =>
        obtain ⟨fl, ρ1, δ1⟩ := p
        refine s1 Fr0 (start N vs) H _ ⟨[], 0, [], none⟩ fl ρ1 δ1 G hres _ fun σ' H' G' M' => ?_
        have an : Mv (Mm Fr0 σ' ρ1) H' M H' := fun a o e n => ⟨e, fun z => n (.inl z)⟩
        have kp : ∀ a o, H a = some o → H' a = some o := fun a o e => G'.fr a o e fun p h => nomatch h
        cases fl with
        | nx => cases e1; exact q _ _ kp .non
        | rt d => cases e1; exact fun v R1 => q _ _ kp (R1.mv an)
        | bk => cases e1
        | ct => cases e1
    · cases hm
theorem okK {x qual : Str} {st : Stmt} {f : Addr} {fd : FuncData} {N ps : List Str} {k : Nat} {s : MS} (F : Fun K x qual st f fd) (S : FnScope N ps (defScope st)) (hn : ps.length ≤ N.length)
    (hb : ∀ (cdv : Value) (A : Around) (outer : List Env) (s0 : Shared) (H : Hp) (E : XK), Room k (A.deeper (envOfC qual (defScope st) s0.heap.objs.size f cdv)) → PDSs (cxOf CX0 P w K mg base N qual (defScope st) f cdv A outer s0 H E).nox (defBody st) s) :
    FnOk P w K mg base CX0 (k + 1) f fd ps (spK K (fnK N.length ps.length s)) := by
  refine F.ok S (fun vs H Q E h => ?_) (fun cdv A outer s0 H vs Q E hr h => ?_)
  · obtain ⟨M, p, ws, ds, δ, r, δ', rfl, hM, _, _, _, _, R, hm, q⟩ := h
    unfold fnK at hm
    split at hm
    · rename_i hz; rw [List.length_cons, R.length]; exact hz.1
    · cases hm
  · obtain ⟨M, p, ws, ds, δ, r, δ', rfl, hM, m1, m2, m3, dk, R, hm, q⟩ := h
    unfold fnK at hm
    split at hm
    · rename_i hz
      obtain ⟨t, p1, s1⟩ := (hb cdv A outer s0 H E hr).ex
      refine ⟨t, p1, ?_⟩
      generalize hres : s (slots N.length (Sl.deck :: ds.map Sl.val)) δ = res at hm
      have nun : ∀ (i : Nat) es, (slots N.length (Sl.deck :: ds.map Sl.val))[i]? ≠ some (.own es) := fun i es h => by
        rcases slots_get h with h | h
        · cases i with
          | zero => cases h
          | succ i =>
            rw [List.getElem?_cons_succ, List.getElem?_map] at h
            obtain ⟨d, _, h⟩ := Option.map_eq_some_iff.mp h
            cases h
        · cases h
      let Fr0 : Fr := ⟨M, some p, H, 0, fun _ _ _ => False⟩
      have eM : Mm Fr0 (start N (.ref p.1 :: ws)) (slots N.length (Sl.deck :: ds.map Sl.val)) = M := by
        funext a
        refine propext ⟨fun z => ?_, .inl⟩
        rcases z with z | ⟨i, es, f1, _⟩
        · exact z
        · exact (nun i es f1).elim
      have G : Good K Fr0 (start N (.ref p.1 :: ws)) H (slots N.length (Sl.deck :: ds.map Sl.val)) δ := by
        refine ⟨?_, fun i d h => ?_, fun i es h => (nun i es h).elim, fun i j es _ _ h => (nun i es h).elim, hM, fun i h => ?_, fun p' h => ?_, fun _ _ e _ => e⟩
        · unfold L2.start slots
          simp only [List.length_append, List.length_map, List.length_replicate, List.length_cons, R.length]
        · rw [eM]
          rcases slots_get h with h | h
          · cases i with
            | zero => cases h
            | succ i =>
              rw [List.getElem?_cons_succ, List.getElem?_map] at h
              obtain ⟨d', h1, h2⟩ := Option.map_eq_some_iff.mp h
              cases h2
              obtain ⟨v, g1, g2⟩ := R.get' h1
              exact ⟨v, start_get (by rw [List.getElem?_cons_succ]; exact g1), g2⟩
          · cases h
        · rcases slots_get h with h | h
          · cases i with
            | zero => cases h; exact ⟨p, rfl, start_get rfl⟩
            | succ i =>
              rw [List.getElem?_cons_succ, List.getElem?_map] at h
              obtain ⟨d', h1, h2⟩ := Option.map_eq_some_iff.mp h
              cases h2
          · cases h
        · cases h
          exact ⟨m1, m2, m3, dk⟩
      cases res with
      | none => cases hm
      | some pp =>
        obtain ⟨fl, ρ1, δ1⟩ := pp
        refine s1 Fr0 (start N (.ref p.1 :: ws)) H _ δ fl ρ1 δ1 G hres _ fun σ' H' G' M' => ?_
        have an : Mv (Mm Fr0 σ' ρ1) H' M H' := fun a o e n => ⟨e, fun z => n (.inl z)⟩
        have kp : ∀ a o, a ≠ p.1 → a ≠ p.2 → a ≠ p.3 → H a = some o → H' a = some o := fun a o n1 n2 n3 e => G'.fr a o e fun p' h => by cases h; exact ⟨n1, n2, n3⟩
        cases fl with
        | nx => cases hm; exact q _ _ kp (G'.dck p rfl).2.2.2 .non
        | rt d => cases hm; exact fun v R1 => q _ _ kp (G'.dck p rfl).2.2.2 (R1.mv an)
        | bk => cases hm
        | ct => cases hm
    · cases hm
end
end PD
namespace PD
open PySem PySem.Spec PyProof.Rows L2
abbrev MP := List Sl → Dk → Option (List (Key × D) × Dk)
def pNil : MP := fun _ δ => some ([], δ)
def pCons (k v : ME) (r : MP) : MP := fun ρ δ => (k ρ δ).bind fun p => (keyOf p.1).bind fun kk => (v ρ p.2).bind fun q => (r ρ q.2).map fun z => ((kk, q.1) :: z.1, z.2)
inductive RepP (K : PySem.W.Frag) (M : Addr → Prop) (H : Hp) : List (V × V) → List (Key × D) → Prop
  | nil : RepP K M H [] []
  | cons {k : Key} {v : V} {d : D} {ps : List (V × V)} {es : List (Key × D)} : Rep K M H v d → RepP K M H ps es → RepP K M H ((kV k, v) :: ps) ((k, d) :: es)
theorem RepP.mv {K M H M' H'} (h : Mv M H M' H') : ∀ {ps es}, RepP K M H ps es → RepP K M' H' ps es
  | _, _, .nil => .nil
  | _, _, .cons r t => .cons (r.mv h) (RepP.mv h t)
section
variable {X : Cx} {pos : Pos} {k v : Expr} {ks : List (Option Expr)} {vs : List Expr} {mk mv : ME} {mr : MP}
def nodupK (es : List (Key × D)) : Bool := decide (es.map (·.1)).Nodup
def mDisp (m : MP) : ME := fun ρ δ => (m ρ δ).bind fun p => if nodupK p.1 ∧ p.1.length ≤ 15 then some (.dict (p.1.map fun e => (keyD e.1, e.2)), p.2) else none
end
end PD
namespace PD
open PySem PySem.Spec PyProof.Rows L2
theorem atI_map {α β : Type} (f : α → β) (xs : List α) (i : Int) : atI (xs.map f) i = (atI xs i).map f := by
  unfold atI
  rw [List.length_map]
  cases ixN xs.length i with
  | none => rfl
  | some j => simp
end PD
namespace PD
open PySem L2
theorem u65 {k : Nat} {A : Around} (hr : Room k A) : A.units + 65 < cLine := by have := hr.un; omega
end PD
namespace PD
open PySem PySem.Spec PyProof.Rows L2
def Fr.plusS (F : Fr) (l : List Addr) : Fr := { F with M0 := fun a => F.M0 a ∨ a ∈ l }
theorem Good.writeM {K F σ H ρ δ D o} (G : Good K F σ H ρ δ) (hM : F.M0 D) (nd : ∀ p, F.dk = some p → D ≠ p.1 ∧ D ≠ p.2 ∧ D ≠ p.3) (h0 : F.H0 D = none) (ht : ∃ u, H D = some u ∧ ∀ ps, u ≠ .tbl ps) (ho : mtO (some o) := by trivial) : Good K F σ (upd H D o) ρ δ ∧ Mv (Mm F σ ρ) H (Mm F σ ρ) (upd H D o) := by
  have mv : Mv (Mm F σ ρ) H (Mm F σ ρ) (upd H D o) := fun a u e n => ⟨by rw [upd_ne (fun z => n (.inl (by rw [z]; exact hM)))]; exact e, n⟩
  refine ⟨⟨G.len, fun i d e => ?_, fun i ds e => ?_, G.inj, fun a ha => ?_, G.dsl, fun p e => ?_, fun a u e n => ?_⟩, mv⟩
  · obtain ⟨v, e1, r⟩ := G.val i d e
    exact ⟨v, e1, r.mv mv⟩
  · obtain ⟨a, xs, e1, e2, r, n⟩ := G.own i ds e
    exact ⟨a, xs, e1, by rw [upd_ne (fun z => n.1 (by rw [z]; exact hM))]; exact e2, r.mv mv, n⟩
  · by_cases hz : a = D
    · rw [hz, upd_same]; exact ho
    · rw [upd_ne hz]; exact G.m0 a ha
  · obtain ⟨d1, d2, d4, d3⟩ := G.dck p e
    exact ⟨d1, d2, d4, d3.ne, d3.ne2, d3.ne3, by rw [upd_ne (nd p e).1.symm]; exact d3.one, (fun ez => by rw [upd_ne (nd p e).2.1.symm]; exact d3.two ez), by rw [upd_ne (nd p e).2.2.symm]; exact d3.tri, d3.tab.atT ht (G.m0 D hM) fun b n => upd_ne n⟩
  · rw [upd_ne (fun z => by rw [z, h0] at e; cases e)]
    exact G.fr a u e n
def Fr.pinS (F : Fr) (l : List Addr) (H : Hp) : Fr := { F with H0 := fun a => if a ∈ l then H a else F.H0 a }
theorem Good.pinS {K F σ H ρ δ l} (G : Good K F σ H ρ δ) (hM : ∀ a ∈ l, F.M0 a) : Good K (F.pinS l H) σ H ρ δ := ⟨G.len, G.val, fun i ds e => by
  obtain ⟨a, xs, e1, e2, r, n⟩ := G.own i ds e
  exact ⟨a, xs, e1, e2, r, n.1, n.2.mo fun n2 => (if_neg (fun z => n.1 (hM a z))).trans n2⟩, G.inj, G.m0, fun {k} i e => (G.dsl i e).mo rfl (fun a u t e1 n1 => ⟨(if_neg (fun z => n1 (hM a z))).trans e1, n1⟩) (Nat.le_refl _), G.dck, fun a u e n => by
  by_cases hz : a ∈ l
  · exact (if_pos hz).symm.trans e
  · exact G.fr a u ((if_neg hz).symm.trans e) n⟩
theorem Good.setNo {K F σ H ρ δ} (G : Good K F σ H ρ δ) (i : Nat) (x : Option V) : Good K F (σ.set i x) H (ρ.set i .no) δ ∧ Mv (Mm F σ ρ) H (Mm F (σ.set i x) (ρ.set i .no)) H := by
  have un : ∀ (j : Nat) y, (ρ.set i .no)[j]? = some y → y ≠ .no → i ≠ j ∧ ρ[j]? = some y := fun j y e hy => by
    by_cases hj : i = j
    · subst hj; exact absurd (get_set_self e).symm hy
    · rw [List.getElem?_set_ne hj] at e
      exact ⟨hj, e⟩
  have hM : ∀ a, Mm F (σ.set i x) (ρ.set i .no) a → Mm F σ ρ a := fun a z => by
    rcases z with z | ⟨j, ds, e1, e2⟩
    · exact .inl z
    · obtain ⟨hj, e1⟩ := un j _ e1 (fun z => nomatch z)
      rw [List.getElem?_set_ne hj] at e2
      exact .inr ⟨j, ds, e1, e2⟩
  have mv : Mv (Mm F σ ρ) H (Mm F (σ.set i x) (ρ.set i .no)) H := fun a o e n => ⟨e, fun z => n (hM a z)⟩
  refine ⟨⟨by rw [List.length_set, List.length_set]; exact G.len, fun j e h => ?_, fun j ds e => ?_, fun j k ds es a e1 e2 e3 e4 => ?_, G.m0, fun j e => ?_, G.dck, G.fr⟩, mv⟩
  · obtain ⟨hj, h⟩ := un j _ h (fun z => nomatch z)
    obtain ⟨w, e1, r1⟩ := G.val j e h
    exact ⟨w, by rw [List.getElem?_set_ne hj]; exact e1, r1.mv mv⟩
  · obtain ⟨hj, e⟩ := un j _ e (fun z => nomatch z)
    obtain ⟨a, xs, e1, e2, r1, n⟩ := G.own j ds e
    exact ⟨a, xs, by rw [List.getElem?_set_ne hj]; exact e1, e2, r1.mv mv, n⟩
  · obtain ⟨hj, e1⟩ := un j _ e1 (fun z => nomatch z)
    obtain ⟨hk, e2⟩ := un k _ e2 (fun z => nomatch z)
    rw [List.getElem?_set_ne hj] at e3
    rw [List.getElem?_set_ne hk] at e4
    exact G.inj j k ds es a e1 e2 e3 e4
  · obtain ⟨hj, e⟩ := un j _ e (fun z => nomatch z)
    rw [List.getElem?_set_ne hj]
    exact G.dsl j e
/-- the lists at bs hold dss -/
structure Lists (K : PySem.W.Frag) (M : Addr → Prop) (H : Hp) (bs : List Addr) (dss : List (List D)) : Prop where
  len : bs.length = dss.length
  at' : ∀ (j : Nat) b, bs[j]? = some b → ∃ ds xs, dss[j]? = some ds ∧ H b = some (.lst xs) ∧ Reps K M H xs ds
end PD
namespace PD
open PySem PySem.Spec PyProof.Rows L2
def cellsOf (ns : List Int) : List Int := ns.take 63 ++ (if ns = [] then [0] else [])
def restOf (c : Int) : Int := c * (if 1000000000000000000 ≤ c then 1 else 0)
def deckOf (ns : List Int) : Dk := ⟨cellsOf ns, 0, (cellsOf ns).map restOf, none⟩
def spDeck (K : PySem.W.Frag) (mk : List Int → Dk := deckOf) : Sp := fun vs H Q _ => ∃ (a : Addr) (ns : List Int), vs = [.ref a] ∧ SqL K H a (ns.map V.int) ∧ ∀ (p : DP) H', Same H H' → DeckAt H' p (mk ns) → Q (.ref p.1) H'
theorem same_new {H : Hp} {p : Addr} {o : HO} (h : H p = none) : Same H (upd H p o) := fun b x e => upd_keeps h b x e
theorem cut63 (xs : List V) : cutV xs none (some 63) = xs.take 63 := by
  unfold cutV
  rw [show HT.sIx xs.length xs.length (some 63) = min 63 xs.length from HT.sIx_nat xs.length xs.length 63, HT.sIx_none, List.drop_zero, Nat.sub_zero]
  rcases Nat.le_total 63 xs.length with h | h
  · rw [Nat.min_eq_left h]
  · rw [Nat.min_eq_right h, List.take_of_length_le h, List.take_of_length_le (Nat.le_refl _)]
section
variable {P : Program} {w : World} {K : PySem.W.Frag} {mg : Str → Option Value} {base : Heap}
def spLaw (K : PySem.W.Frag) : Sp := fun vs H Q _ => ∃ (a : Addr) (ns : List Int), vs = [.ref a] ∧ SqL K H a (ns.map V.int) ∧ ns.length ≤ 63 ∧ ∀ H', Q (.bl true) H'
end
end PD
namespace PD
open PySem PySem.Spec PyProof.Rows L2
theorem addD_str {x y : Str} (h : x.length + y.length ≤ sizeLine) : addD (.str x) (.str y) = some (.str (x ++ y)) := by
  show (Option.orElse none fun _ => Option.orElse (if decide (x.length + y.length ≤ sizeLine) = true then some (PyData.str (x ++ y)) else none) _) = _
  rw [if_pos (decide_eq_true h)]; rfl
theorem addD_lst {x y : List D} (h : x.length + y.length ≤ sizeLine) : addD (.list x) (.list y) = some (.list (x ++ y)) := by
  show (Option.orElse none fun _ => Option.orElse none fun _ => Option.orElse (if x.length + y.length ≤ sizeLine then some (PyData.list (x ++ y)) else none) _) = _
  rw [if_pos h]; rfl
theorem addD_tup {x y : List D} (h : x.length + y.length ≤ sizeLine) : addD (.tuple x) (.tuple y) = some (.tuple (x ++ y)) := by
  show (Option.orElse none fun _ => Option.orElse none fun _ => Option.orElse none fun _ => (if x.length + y.length ≤ sizeLine then some (PyData.tuple (x ++ y)) else none)) = _
  rw [if_pos h]; rfl
theorem eqD_int (i j : Int) : eqD (.int i) (.int j) = some (.bool (decide (i = j))) := by
  show some (PyData.bool (i == j)) = _
  rw [Bool.eq_iff_iff.mpr (by simp : (i == j) = true ↔ decide (i = j) = true)]
theorem eqD_str {x y : Str} (h : PyData.strOk x = true) (h' : PyData.strOk y = true) : eqD (.str x) (.str y) = some (.bool (decide (x = y))) := by
  unfold eqD
  have h1 : SeqAt.shaped (.str x) = true := by simp [SeqAt.shaped, PyData.canLay0, PyData.depth, h]
  have h2 : SeqAt.shaped (.str y) = true := by simp [SeqAt.shaped, PyData.canLay0, PyData.depth, h']
  rw [h1, h2]
  show some (PyData.bool (x == y)) = _
  rw [show (x == y) = decide (x = y) from Bool.eq_iff_iff.mpr (by simp)]
theorem ix_lst (ds : List D) (i : Int) {d : D} (h : atI ds i = some d) : subD' (.list ds) (.int i) = some d := by
  show (Option.orElse (atI ds i) _) = _
  rw [h]; rfl
theorem ix_tupl (ds : List D) (i : Int) {d : D} (h : atI ds i = some d) : subD' (.tuple ds) (.int i) = some d := by
  show (Option.orElse (atI ds i) _) = _
  rw [h]; rfl
theorem asg_eq {m : ME} {g : MG} {ρ ρ1 : List Sl} {δ δ1 : Dk} {d : D} (h : m ρ δ = some (d, δ1)) (hg : g d ρ = some ρ1) : sAsg m g ρ δ = some (.nx, ρ1, δ1) := by unfold sAsg; rw [h]; simp [hg]
theorem ret_eq {m : ME} {ρ : List Sl} {δ δ1 : Dk} {d : D} (h : m ρ δ = some (d, δ1)) : sRet m ρ δ = some (.rt d, ρ, δ1) := by unfold sRet; rw [h]; rfl
theorem bin_eq {f : D → D → Option D} {a b : ME} {ρ : List Sl} {δ δ1 δ2 : Dk} {x y z : D} (h1 : a ρ δ = some (x, δ1)) (h2 : b ρ δ1 = some (y, δ2)) (h3 : f x y = some z) : mBin f a b ρ δ = some (z, δ2) := by
  unfold mBin; rw [h1]; simp only [Option.bind_some]; rw [h2]; simp only [Option.bind_some]; rw [h3]; rfl
theorem mB_eq {m : ME} {ρ : List Sl} {δ δ1 : Dk} {b : Bool} (h : m ρ δ = some (.bool b, δ1)) : mB m ρ δ = some (b, δ1) := by unfold mB; rw [h]; rfl
theorem un_eq {f : D → Option D} {a : ME} {ρ : List Sl} {δ δ1 : Dk} {x z : D} (h1 : a ρ δ = some (x, δ1)) (h3 : f x = some z) : mUn f a ρ δ = some (z, δ1) := by
  unfold mUn; rw [h1]; simp only [Option.bind_some]; rw [h3]; rfl
theorem callK_eq {i : Nat} {m : List D → Dk → Option (D × Dk)} {r : MA} {ρ : List Sl} {δ δ1 δ2 : Dk} {ds : List D} {z : D} (hi : ρ[i]? = some .deck) (h1 : r ρ δ = some (ds, δ1)) (h2 : m ds δ1 = some (z, δ2)) : mCallK i m r ρ δ = some (z, δ2) := by
  unfold mCallK; rw [hi]; simp only; rw [h1]; exact h2
theorem call_eq {f : List D → Option D} {r : MA} {ρ : List Sl} {δ δ1 : Dk} {ds : List D} {z : D} (h1 : r ρ δ = some (ds, δ1)) (h2 : f ds = some z) : mCall f r ρ δ = some (z, δ1) := by
  unfold mCall; rw [h1]; simp only [Option.bind_some]; rw [h2]; rfl
theorem cons_eq {a : ME} {r : MA} {ρ : List Sl} {δ δ1 δ2 : Dk} {x : D} {xs : List D} (h1 : a ρ δ = some (x, δ1)) (h2 : r ρ δ1 = some (xs, δ2)) : mCons a r ρ δ = some (x :: xs, δ2) := by
  unfold mCons; rw [h1]; simp only [Option.bind_some]; rw [h2]; rfl
theorem sl_eq {a : ME} {lo hi : MO} {ρ : List Sl} {δ δ1 δ2 δ3 : Dk} {x z : D} {l h : Option Int} (h1 : a ρ δ = some (x, δ1)) (h2 : lo ρ δ1 = some (l, δ2)) (h3 : hi ρ δ2 = some (h, δ3)) (h4 : slD l h x = some z) : mSl a lo hi ρ δ = some (z, δ3) := by
  unfold mSl; rw [h1]; simp only [Option.bind_some]; rw [h2]; simp only [Option.bind_some]; rw [h3]; simp only [Option.bind_some]; rw [h4]; rfl
theorem os_eq {m : ME} {ρ : List Sl} {δ δ1 : Dk} {i : Int} (h : m ρ δ = some (.int i, δ1)) : oSome m ρ δ = some (some i, δ1) := by unfold oSome; rw [h]; rfl
theorem lst_eq {r : MA} {ρ : List Sl} {δ δ1 : Dk} {ds : List D} (h : r ρ δ = some (ds, δ1)) (hz : ds.length ≤ sizeLine) : mLst r ρ δ = some (.list ds, δ1) := by unfold mLst; rw [h]; simp only [Option.bind_some]; rw [if_pos hz]
theorem tup_eq {r : MA} {ρ : List Sl} {δ δ1 : Dk} {ds : List D} (h : r ρ δ = some (ds, δ1)) (hz : ds.length ≤ sizeLine) : mTup r ρ δ = some (.tuple ds, δ1) := by unfold mTup; rw [h]; simp only [Option.bind_some]; rw [if_pos hz]
theorem tru_eq {m : ME} {ρ : List Sl} {δ δ1 : Dk} {d : D} {b : Bool} (h : m ρ δ = some (d, δ1)) (h2 : truD d = some b) : mTru m ρ δ = some (b, δ1) := by unfold mTru; rw [h]; simp only [Option.bind_some]; rw [h2]; rfl
theorem lc_eq {mi : MA} {vs : List Nat} {g : MG} {tt : MT} {te : ME} {ρ : List Sl} {δ δ1 δ2 : Dk} {ds out : List D} (h1 : mi ρ δ = some (ds, δ1)) (hu : noU ρ vs = true) (h2 : compL g tt te (wipeR ρ vs) ds δ1 = some (out, δ2)) (hz : out.length ≤ sizeLine) : mLc mi vs g tt te ρ δ = some (.list out, δ2) := by
  unfold mLc; rw [h1]; simp only [Option.bind_some]; rw [if_pos hu, h2]; simp only [Option.bind_some]; rw [if_pos hz]
theorem it_eq {m : ME} {ρ : List Sl} {δ δ1 : Dk} {d : D} {ds : List D} (h : m ρ δ = some (d, δ1)) (h2 : itemsD d = some ds) : mItems m ρ δ = some (ds, δ1) := by unfold mItems; rw [h]; simp only [Option.bind_some]; rw [h2]; rfl
theorem inB_nat {j : Nat} (h : j ≤ 1000000) : inB (j : Int) = true := by
  have h1 : (-(4611686018427387904 : Int)) ≤ (j : Int) := by omega
  have h2 : (j : Int) < 4611686018427387904 := by omega
  have e : (2 : Int) ^ 62 = 4611686018427387904 := by decide
  unfold inB
  rw [e]
  exact decide_eq_true ⟨h1, h2⟩
def rngL (j : Nat) : List D := (List.range j).map fun (i : Nat) => .int (i : Int)
theorem rngL_eq (j : Nat) : ((List.range (j : Int).toNat).map fun (i : Nat) => PyData.int (0 + (i : Int))) = rngL j := by
  unfold rngL
  rw [Int.toNat_natCast]
  congr 1
  funext i
  rw [Int.zero_add]
theorem rng_eq {m : ME} {ρ : List Sl} {δ δ1 : Dk} {j : Nat} (h : m ρ δ = some (.int j, δ1)) (h2 : j ≤ 1000000) : mRng1 m ρ δ = some (rngL j, δ1) := by
  unfold mRng1
  rw [h, Option.bind_some]
  dsimp only
  rw [if_pos (inB_nat h2), rngL_eq]
/-- a comprehension without a draw: each item's element -/
theorem compL_map {α : Type} {g : MG} {te : ME} {ρ : List Sl} {δ : Dk} (enc : α → D) (f : α → D) : ∀ xs : List α, (∀ x ∈ xs, ∃ ρ2, g (enc x) ρ = some ρ2 ∧ te ρ2 δ = some (f x, δ)) → compL g mYes te ρ (xs.map enc) δ = some (xs.map f, δ)
  | [], _ => rfl
  | d :: ds, h => by
    obtain ⟨ρ2, e1, e2⟩ := h d (.head _)
    rw [List.map_cons]
    unfold compL
    rw [e1]
    simp only [Option.bind_some, mYes, ↓reduceIte]
    rw [e2]
    simp only [Option.bind_some]
    rw [compL_map enc f ds fun x hx => h x (.tail _ hx)]
    rfl
theorem compL_filter {α : Type} {g : MG} {tt : MT} {te : ME} {ρ : List Sl} {δ : Dk} (enc : α → D) (p : α → Bool) (f : α → D) : ∀ xs : List α, (∀ x ∈ xs, ∃ ρ2, g (enc x) ρ = some ρ2 ∧ tt ρ2 δ = some (p x, δ) ∧ (p x = true → te ρ2 δ = some (f x, δ))) → compL g tt te ρ (xs.map enc) δ = some ((xs.filter p).map f, δ)
  | [], _ => rfl
  | d :: ds, h => by
    obtain ⟨ρ2, e1, e2, e3⟩ := h d (.head _)
    rw [List.map_cons]
    unfold compL
    rw [e1]
    simp only [Option.bind_some]
    rw [e2]
    simp only [Option.bind_some]
    have ih := compL_filter enc p f ds fun x hx => h x (.tail _ hx)
    cases hp : p d with
    | false =>
      rw [List.filter_cons_of_neg (by rw [hp]; exact Bool.false_ne_true)]
      simp only [Bool.false_eq_true, ↓reduceIte]
      exact ih
    | true =>
      rw [List.filter_cons_of_pos hp]
      simp only [↓reduceIte]
      rw [e3 hp]
      simp only [Option.bind_some]
      rw [ih]
      rfl
theorem strsD_map : ∀ bs : List Str, strsD (bs.map .str) = some bs
  | [] => rfl
  | b :: r => by rw [List.map_cons]; unfold strsD; rw [strsD_map r]; rfl
/-- data that may be compared, so deep -/
def Sh (k : Nat) (d : D) : Prop := d.canLay0 = true ∧ d.depth ≤ k
theorem Sh.all {k : Nat} : ∀ {ds : List D}, (∀ d ∈ ds, Sh k d) → PyData.canLayAll0 ds = true ∧ PyData.depthAll ds ≤ k
  | [], _ => ⟨by simp [PyData.canLayAll0], by simp [PyData.depthAll]⟩
  | d :: ds, h => by
    obtain ⟨a1, a2⟩ := h d (.head _)
    obtain ⟨b1, b2⟩ := Sh.all (ds := ds) fun x hx => h x (.tail _ hx)
    refine ⟨by simp [PyData.canLayAll0, a1, b1], ?_⟩
    simp only [PyData.depthAll]
    omega
theorem Sh.lst {k : Nat} {ds : List D} (h : ∀ d ∈ ds, Sh k d) : Sh (k + 1) (.list ds) := by
  obtain ⟨a, b⟩ := Sh.all h
  exact ⟨by simp [PyData.canLay0, a], by simp only [PyData.depth]; omega⟩
theorem Sh.tup {k : Nat} {ds : List D} (h : ∀ d ∈ ds, Sh k d) : Sh (k + 1) (.tuple ds) := by
  obtain ⟨a, b⟩ := Sh.all h
  exact ⟨by simp [PyData.canLay0, a], by simp only [PyData.depth]; omega⟩
theorem Sh.int (i : Int) : Sh 0 (.int i) := ⟨by simp [PyData.canLay0], by simp [PyData.depth]⟩
theorem Sh.bool (i : Bool) : Sh 0 (.bool i) := ⟨by simp [PyData.canLay0], by simp [PyData.depth]⟩
theorem Sh.str {x : Str} (h : PyData.strOk x = true) : Sh 0 (.str x) := ⟨by simp [PyData.canLay0, h], by simp [PyData.depth]⟩
theorem Sh.mono {k l : Nat} {d : D} (h : Sh k d) (hl : k ≤ l) : Sh l d := ⟨h.1, Nat.le_trans h.2 hl⟩
theorem Sh.ok {k : Nat} {d : D} (h : Sh k d) (hl : k ≤ 64) : SeqAt.shaped d = true := by
  unfold SeqAt.shaped
  rw [h.1, decide_eq_true (Nat.le_trans h.2 hl)]
  rfl
theorem eqD_of {k l : Nat} {d e : D} (h : Sh k d) (h' : Sh l e) (hk : k ≤ 64) (hl : l ≤ 64) : eqD d e = some (.bool (PyData.eqv d e)) := by
  unfold eqD
  rw [h.ok hk, h'.ok hl]; rfl
theorem neD_of {k l : Nat} {d e : D} (h : Sh k d) (h' : Sh l e) (hk : k ≤ 64) (hl : l ≤ 64) : neD d e = some (.bool (!PyData.eqv d e)) := by
  unfold neD
  rw [h.ok hk, h'.ok hl]; rfl
theorem fnP_eq {n np : Nat} {s : MS} {ds : List D} {d : D} {ρ' : List Sl} {δ' : Dk} (hl : ds.length = np ∧ np ≤ n) (h : s (slots n (ds.map .val)) ⟨[], 0, [], none⟩ = some (.rt d, ρ', δ')) : fnP n np s ds = some d := by
  unfold fnP
  rw [if_pos hl, h]; rfl
end PD
namespace PD
open PySem PySem.Spec PyProof.Rows L2
section
variable {X : Cx} {a b : Expr} {ma mb : ME} {p pos pos1 pos2 p1 p2 : Pos}
/-- x is None, x is True -/
def isND : D → D → Option D
  | .none, .none => some (.bool true)
  | _, .none => some (.bool false)
  | _, _ => none
def isBD : D → D → Option D
  | .bool x, .bool y => some (.bool (decide (x = y)))
  | _, _ => none
theorem isN_dec {K M H v d} (r : Rep K M H v d) : (decide (v = .non)) = (match d with | .none => true | _ => false) := by
  cases r <;> simp
theorem ops_isN {K} : OpS K (fun x y H Q => y = .non ∧ Q (.bl (decide (x = .non))) H) isND := fun F σ H ρ δ x y d e z G rx ry hz Q q => by
  cases ry <;> first | (cases d <;> simp [isND] at hz; done) | skip
  refine ⟨rfl, ?_⟩
  rw [isN_dec rx]
  cases d <;> (simp only [isND, Option.some.injEq] at hz; subst hz; exact q _ _ nokeep (.bl _))
theorem ops_isB {K} : OpS K rIsB isBD := fun F σ H ρ δ x y d e z G rx ry hz Q q => by
  unfold isBD at hz
  split at hz
  · cases hz; cases rx; cases ry
    exact ⟨_, _, rfl, rfl, q _ _ nokeep (.bl _)⟩
  · cases hz
def isD' : D → D → Option D := fun d e => (isND d e).orElse fun _ => isBD d e
theorem cs_is : CmpS X .Is isD' := ⟨_, OpR.or op_isN op_isBl, OpS.or ops_isN ops_isB⟩
end
inductive RepD (K : PySem.W.Frag) (M : Addr → Prop) (H : Hp) : List (Key × V) → List (Key × D) → Prop
  | nil : RepD K M H [] []
  | cons {k : Key} {v : V} {d : D} {ps : List (Key × V)} {es : List (Key × D)} : Rep K M H v d → RepD K M H ps es → RepD K M H ((k, v) :: ps) ((k, d) :: es)
theorem RepD.mv {K M H M' H'} (h : Mv M H M' H') : ∀ {ps es}, RepD K M H ps es → RepD K M' H' ps es
  | _, _, .nil => .nil
  | _, _, .cons r t => .cons (r.mv h) (RepD.mv h t)
theorem RepD.app {K M H} : ∀ {ps es k v d}, RepD K M H ps es → Rep K M H v d → RepD K M H (ps ++ [(k, v)]) (es ++ [(k, d)])
  | _, _, _, _, _, .nil, r => .cons r .nil
  | _, _, _, _, _, .cons q t, r => .cons q (RepD.app t r)
theorem RepD.repK {K M H} : ∀ {ps es}, RepD K M H ps es → RepK K M H ps (es.map fun e => (keyD e.1, e.2))
  | _, _, .nil => .nil
  | _, _, .cons r t => .cons r (RepD.repK t)
def hasK (es : List (Key × D)) (k : Key) : Bool := es.any fun e => decide (e.1 = k)
theorem RepD.len {K M H} : ∀ {ps es}, RepD K M H ps es → ps.length = es.length
  | _, _, .nil => rfl
  | _, _, .cons _ t => by simp [RepD.len t]
theorem RepD.val {K M H} (k : Key) : ∀ {ps es}, RepD K M H ps es → (hasK es k = true → ∃ v, valV ps k = some v) ∧ (hasK es k = false → valV ps k = none ∧ (ps.any fun kv => decide (kv.1 = k)) = false)
  | _, _, .nil => ⟨fun h => by simp [hasK] at h, fun _ => ⟨rfl, rfl⟩⟩
  | _, _, .cons (k := k') (v := v) r t => by
    obtain ⟨h1, h2⟩ := RepD.val k t
    rw [valV_cons]
    by_cases hk : k' = k
    · rw [if_pos hk]
      exact ⟨fun _ => ⟨v, rfl⟩, fun h => by simp [hasK, hk] at h⟩
    · rw [if_neg hk]
      refine ⟨fun h => h1 ?_, fun h => ?_⟩
      · simpa [hasK, hk] using h
      · obtain ⟨a, b⟩ := h2 (by simpa [hasK, hk] using h)
        exact ⟨a, by rw [List.any_cons, b, decide_eq_false hk]; rfl⟩
end PD
namespace PD
open PySem PySem.Spec PyProof.Rows L2
section
variable {K : PySem.W.Frag} {M : Addr → Prop} {H : Hp} {A : Addr} {od : Obj} {kvs : List (Key × V)}
theorem rd_lock {u : HO} {a : Addr} (hA : H A = some (.dK kvs)) (hu : ∀ o, u ≠ .frz o (.dK kvs)) (r : Rd H a u) : Rd (upd H A (.frz od (.dK kvs))) a u := by
  by_cases ha : a = A
  · subst ha
    rcases r with r | ⟨o, r⟩
    · rw [hA] at r; cases r; exact .inr ⟨od, upd_same⟩
    · rw [hA] at r; cases r
  · rcases r with r | ⟨o, r⟩
    · exact .inl (by rw [upd_ne ha]; exact r)
    · exact .inr ⟨o, by rw [upd_ne ha]; exact r⟩
theorem rd_unlock {u : HO} {a : Addr} (hA : H A = some (.frz od (.dK kvs))) (hu : ∀ o w, u ≠ .frz o w) (r : Rd H a u) : Rd (upd H A (.dK kvs)) a u := by
  by_cases ha : a = A
  · subst ha
    rcases r with r | ⟨o, r⟩
    · rw [hA] at r; cases r; exact absurd rfl (hu _ _)
    · rw [hA] at r; cases r; exact .inl upd_same
  · rcases r with r | ⟨o, r⟩
    · exact .inl (by rw [upd_ne ha]; exact r)
    · exact .inr ⟨o, by rw [upd_ne ha]; exact r⟩
theorem lst_lock {xs : List V} {a : Addr} (hA : H A = some (.dK kvs)) (h : H a = some (.lst xs)) : upd H A (.frz od (.dK kvs)) a = some (.lst xs) := by
  rw [upd_ne (fun z => by rw [z, hA] at h; cases h)]; exact h
theorem lst_unlock {xs : List V} {a : Addr} (hA : H A = some (.frz od (.dK kvs))) (h : H a = some (.lst xs)) : upd H A (.dK kvs) a = some (.lst xs) := by
  rw [upd_ne (fun z => by rw [z, hA] at h; cases h)]; exact h
theorem tup_lock {xs : List V} {a : Addr} (hA : H A = some (.dK kvs)) (h : H a = some (.tup xs)) : upd H A (.frz od (.dK kvs)) a = some (.tup xs) := by
  rw [upd_ne (fun z => by rw [z, hA] at h; cases h)]; exact h
theorem tup_unlock {xs : List V} {a : Addr} (hA : H A = some (.frz od (.dK kvs))) (h : H a = some (.tup xs)) : upd H A (.dK kvs) a = some (.tup xs) := by
  rw [upd_ne (fun z => by rw [z, hA] at h; cases h)]; exact h
end
structure Al (K : PySem.W.Frag) (M : Addr → Prop) (H H' : Hp) : Prop where
  al : ∀ {a xs}, AL K M H a xs → AL K M H' a xs
  at' : ∀ {a xs}, AT K M H a xs → AT K M H' a xs
  ad : ∀ {a kvs}, Rd H a (.dK kvs) → Rd H' a (.dK kvs)
mutual
theorem Rep.al {K M H H'} (h : Al K M H H') : ∀ {v d}, Rep K M H v d → Rep K M H' v d
  | _, _, .non => .non
  | _, _, .bl b => .bl b
  | _, _, .int i => .int i
  | _, _, .str x => .str x
  | _, _, .lst a r => .lst (h.al a) (Reps.al h r)
  | _, _, .tup a r => .tup (h.at' a) (Reps.al h r)
  | _, _, .dic n e r => .dic n (h.ad e) (RepK.al h r)
theorem Reps.al {K M H H'} (h : Al K M H H') : ∀ {vs ds}, Reps K M H vs ds → Reps K M H' vs ds
  | _, _, .nil => .nil
  | _, _, .cons r t => .cons (Rep.al h r) (Reps.al h t)
theorem RepK.al {K M H H'} (h : Al K M H H') : ∀ {vs ds}, RepK K M H vs ds → RepK K M H' vs ds
  | _, _, .nil => .nil
  | _, _, .cons r t => .cons (Rep.al h r) (RepK.al h t)
end
theorem RepT.al {K M H H'} (h : Al K M H H') : ∀ {vs ds}, RepT K M H vs ds → RepT K M H' vs ds
  | _, _, .nil => .nil
  | _, _, .cons r t => .cons (Rep.al h r) (RepT.al h t)
section
variable {K : PySem.W.Frag} {M : Addr → Prop} {H : Hp} {A : Addr} {od : Obj} {kvs : List (Key × V)}
theorem al_lock (hA : H A = some (.dK kvs)) : Al K M H (upd H A (.frz od (.dK kvs))) :=
  ⟨fun a => ⟨a.1, lst_lock hA a.2⟩, fun a => match a with
    | .inl a z => .inl ⟨a.1, tup_lock hA a.2⟩ z
    | .inr a z => .inr a z
    | .pl n o a d z => .pl n o (by rw [upd_ne (fun z => by rw [z, hA] at a; cases a)]; exact a) d z
    | .man n o a s => .man n o (by rw [upd_ne (fun z => by rw [z, hA] at a; cases a)]; exact a) s, fun e => rd_lock hA (fun o z => nomatch z) e⟩
theorem al_unlock (hA : H A = some (.frz od (.dK kvs))) : Al K M H (upd H A (.dK kvs)) :=
  ⟨fun a => ⟨a.1, lst_unlock hA a.2⟩, fun a => match a with
    | .inl a z => .inl ⟨a.1, tup_unlock hA a.2⟩ z
    | .inr a z => .inr a z
    | .pl n o a d z => .pl n o (by rw [upd_ne (fun z => by rw [z, hA] at a; cases a)]; exact a) d z
    | .man n o a s => .man n o (by rw [upd_ne (fun z => by rw [z, hA] at a; cases a)]; exact a) s, fun e => rd_unlock hA (fun o w z => nomatch z) e⟩
theorem Rep.lock {v d} (r : Rep K M H v d) (hA : H A = some (.dK kvs)) : Rep K M (upd H A (.frz od (.dK kvs))) v d := r.al (al_lock hA)
theorem Reps.lock {v d} (r : Reps K M H v d) (hA : H A = some (.dK kvs)) : Reps K M (upd H A (.frz od (.dK kvs))) v d := r.al (al_lock hA)
theorem RepK.lock {v d} (r : RepK K M H v d) (hA : H A = some (.dK kvs)) : RepK K M (upd H A (.frz od (.dK kvs))) v d := r.al (al_lock hA)
theorem OwR.lock {v d} (r : OwR K M H v d) (hA : H A = some (.dK kvs)) : OwR K M (upd H A (.frz od (.dK kvs))) v d := by
  cases r with
  | lst r => exact .lst (r.lock hA)
  | dic r => exact .dic (r.lock hA)
  | dct r => exact .dct (r.al (al_lock hA))
  | dcf r => exact .dcf (r.al (al_lock hA))
theorem Rep.unlock {v d} (r : Rep K M H v d) (hA : H A = some (.frz od (.dK kvs))) : Rep K M (upd H A (.dK kvs)) v d := r.al (al_unlock hA)
theorem Reps.unlock {v d} (r : Reps K M H v d) (hA : H A = some (.frz od (.dK kvs))) : Reps K M (upd H A (.dK kvs)) v d := r.al (al_unlock hA)
theorem RepK.unlock {v d} (r : RepK K M H v d) (hA : H A = some (.frz od (.dK kvs))) : RepK K M (upd H A (.dK kvs)) v d := r.al (al_unlock hA)
theorem OwR.unlock {v d} (r : OwR K M H v d) (hA : H A = some (.frz od (.dK kvs))) : OwR K M (upd H A (.dK kvs)) v d := by
  cases r with
  | lst r => exact .lst (r.unlock hA)
  | dic r => exact .dic (r.unlock hA)
  | dct r => exact .dct (r.al (al_unlock hA))
  | dcf r => exact .dcf (r.al (al_unlock hA))
end
def Fr.lock (F : Fr) (A : Addr) : Fr := { F with H0 := fun a => if a = A then none else F.H0 a }
theorem Mm_lock {F A σ ρ} : Mm (F.lock A) σ ρ = Mm F σ ρ := rfl
theorem Good.lock {K F σ H ρ δ A kvs od} (G : Good K F σ H ρ δ) (nA : ¬ Mm F σ ρ A) (hA : H A = some (.dK kvs)) : Good K (F.lock A) σ (upd H A (.frz od (.dK kvs))) ρ δ := by
  refine ⟨G.len, fun i d e => ?_, fun i ds e => ?_, G.inj, fun a ha => ?_, fun {k} i e => (G.dsl i e).mo rfl (fun a u t e1 n1 => ⟨(if_neg (fun z => by rw [z] at e1 n1; have q := G.frT e1 n1; rw [hA] at q; rcases t with ⟨xs, t⟩ | ⟨o, xs, t⟩ | ⟨o, t⟩ <;> (subst t; cases q))).trans e1, n1⟩) (Nat.le_refl _), fun p e => ?_, fun a o e n => ?_⟩
  · obtain ⟨v, e1, r⟩ := G.val i d e
    exact ⟨v, e1, r.lock hA⟩
  · obtain ⟨a, xs, e1, e2, r, n⟩ := G.own i ds e
    refine ⟨a, xs, e1, by rw [upd_ne (fun z => nA (by rw [← z]; exact .inr ⟨i, ds, e, e1⟩))]; exact e2, r.lock hA, n.1, n.2.mo fun n2 => ?_⟩
    show (if a = A then none else F.H0 a) = none
    split
    · rfl
    · exact n2
  · by_cases hz : a = A
    · rw [hz, upd_same]; trivial
    · rw [upd_ne hz]; exact G.m0 a ha
  · obtain ⟨d1, d2, d4, d3⟩ := G.dck p e
    exact ⟨d1, d2, d4, d3.ne, d3.ne2, d3.ne3, by rw [upd_ne (fun z => by have := d3.one; rw [z, hA] at this; cases this)]; exact d3.one, (fun ez => by rw [upd_ne (fun z => by have := d3.two ez; rw [z, hA] at this; cases this)]; exact d3.two ez), by rw [upd_ne (fun z => by have := d3.tri; rw [z, hA] at this; cases this)]; exact d3.tri, d3.tab.at hA (fun _ z => by cases z) (fun _ z => by cases z) (fun _ _ z => by cases z) fun b n => upd_ne n⟩
  · have e : (if a = A then none else F.H0 a) = some o := e
    split at e
    · cases e
    · rename_i hz
      rw [upd_ne hz]
      exact G.fr a o e n
theorem Good.unlock {K F σ H H0 ρ ρ0 δ δ0 A kvs od} (G0 : Good K F σ H0 ρ0 δ0) (hA0 : H0 A = some (.dK kvs)) (G : Good K (F.lock A) σ H ρ δ) (hA : H A = some (.frz od (.dK kvs))) (hu : ∀ (i : Nat) ds, ρ[i]? = some (.own ds) → ρ0[i]? = some (.own ds)) : Good K F σ (upd H A (.dK kvs)) ρ δ := by
  refine ⟨G.len, fun i d e => ?_, fun i ds e => ?_, G.inj, fun a ha => ?_, fun {k} i e => (G.dsl i e).mo rfl (fun a u t e1 n1 => ⟨by
    have e1 : (if a = A then none else F.H0 a) = some u := e1
    split at e1
    · cases e1
    · exact e1, n1⟩) (Nat.le_refl _), fun p e => ?_, fun a o e n => ?_⟩
  · obtain ⟨v, e1, r⟩ := G.val i d e
    exact ⟨v, e1, r.unlock hA⟩
  · obtain ⟨a, xs, e1, e2, r, n⟩ := G.own i ds e
    obtain ⟨a', xs', f1, f2, f3, f4⟩ := G0.own i ds (hu i ds e)
    rw [e1] at f1; cases f1
    exact ⟨a, xs, e1, by rw [upd_ne (fun z => by rw [z, hA] at e2; cases e2; cases r)]; exact e2, r.unlock hA, f4⟩
  · by_cases hz : a = A
    · rw [hz, upd_same]; trivial
    · rw [upd_ne hz]; exact G.m0 a ha
  · obtain ⟨d1, d2, d4, d3⟩ := G.dck p e
    exact ⟨d1, d2, d4, d3.ne, d3.ne2, d3.ne3, by rw [upd_ne (fun z => by have := d3.one; rw [z, hA] at this; cases this)]; exact d3.one, (fun ez => by rw [upd_ne (fun z => by have := d3.two ez; rw [z, hA] at this; cases this)]; exact d3.two ez), by rw [upd_ne (fun z => by have := d3.tri; rw [z, hA] at this; cases this)]; exact d3.tri, d3.tab.at hA (fun _ z => by cases z) (fun _ z => by cases z) (fun _ _ z => by cases z) fun b n => upd_ne n⟩
  · by_cases hz : a = A
    · subst hz
      have := G0.fr a o e n
      rw [hA0] at this
      cases this
      exact upd_same
    · rw [upd_ne hz]
      exact G.fr a o (by show (if a = A then none else F.H0 a) = some o; rw [if_neg hz]; exact e) n
end PD
namespace PD
open PySem PySem.Spec PyProof.Rows L2
section
variable {P : Program} {ω : World} {A : Around} {R : Result → Shared → Prop} {s : Shared} {el : Expr} {gs : List Comprehension} {sc : Scope} {ps : Pos} {k : Nat} {t0 i0 t1 i1 : Expr} {ff0 ff1 : List Expr} {it acc : Value} {ε : Env}
abbrev tests (fs : List Expr) (ε : Env) : Sem Bool := forIn fs true fun c r => if r = true then do let ok ← isTrue c ε (eval c ε); pure (ForInStep.yield ok) else pure (ForInStep.yield r)
end
structure Cl where
  wi : TI
  g : TG
  tt : TT
  vs : List Nat
def tLoop (rest : L2.St → Hp → (Hp → Prop) → Prop) (J : It) (g : TG) (tt : TT) (vs : List Nat) (σ : L2.St) (H : Hp) (Nx : Hp → Prop) : Prop :=
  ∃ W : Nat → Nat → Hp → Prop, (∃ m, W 0 m H) ∧ ∀ i m H, W i m H → (J.stop i H ∧ Nx H) ∨ (J.go i H ∧ ∃ Ny : Hp → Prop, (∀ H', Ny H' → ∃ m', m' < m ∧ W (i + 1) m' H') ∧
    ∀ x H', J.yld i H x H' → g x (L2.wipe σ vs) H' fun τ Hh2 => L2.wipe τ vs = L2.wipe σ vs ∧ tt τ Hh2 fun b Hh3 => if b = true then rest τ Hh3 Ny else Ny Hh3)
inductive ClsOk (X : Cx) : List Nat → List Comprehension → List Cl → Prop
  | nil {vs} : ClsOk X vs [] []
  | cons {vs tg iter ifs gl c cs} : (∀ i ∈ c.vs, i ∈ vs) → PI X tg iter c.wi → PG X tg c.g → PTs X ifs c.tt → (∀ x, foldedSetIterable iter X.env x = pure x) → ClsOk X c.vs gl cs → ClsOk X vs (⟨tg, iter, ifs, 0⟩ :: gl) (c :: cs)
theorem drop_at {α : Type} {gs gl : List α} {k : Nat} {a : α} (h : gs.drop k = a :: gl) : gs[k]? = some a ∧ gs.drop (k + 1) = gl := by
  constructor
  · have := congrArg List.head? h
    rwa [List.head?_drop] at this
  · have := congrArg List.tail h
    rwa [List.tail_drop] at this
theorem drop_nil {α : Type} {gs : List α} {k : Nat} (h : gs.drop k = []) : gs[k]? = none := by
  have := congrArg List.head? h
  rwa [List.head?_drop] at this
section
variable {X : Cx} {el tg iter : Expr} {ifs : List Expr} {gl : List Comprehension} {sc : Scope} {own : List (Str × Nat)} {ps : Pos} {wi : TI} {g : TG} {tt : TT} {te : TE} {cs : List Cl}
abbrev AllBlk (X : Cx) (sc : Scope) (p : Cx → Prop) : Prop := ∀ (s : Shared) (H : Hp) (C : Addr) (cl : List (Str × Addr)) (fp : List Addr), p (X.blk s H sc (compEnvC sc cl C X.env) fp)
end
end PD
namespace PD
open PySem PySem.Spec PyProof.Rows L2
theorem Walks.mv {K M H M' H' J ds} (w : Walks K M H J ds) (h : Mv M H M' H') : Walks K M' H' J ds := fun M2 H2 g => w M2 H2 (h.trans g)
theorem Good.unwipe {K F σ H H1 ρ δ δ1 vs} (G1 : Good K F σ H1 ρ δ1) (hu : noU ρ vs = true) (G : Good K F (L2.wipe σ vs) H (wipeR ρ vs) δ) (mv : Mv (Mm F σ ρ) H1 (Mm F σ ρ) H) : Good K F σ H ρ δ := by
  refine ⟨G1.len, fun i d e => ?_, fun i ds e => ?_, G1.inj, G.m0, G1.dsl, fun p e => ?_, G.fr⟩
  · obtain ⟨v, e1, r⟩ := G1.val i d e
    exact ⟨v, e1, r.mv mv⟩
  · have hi : i ∉ vs := fun q => noU_of hu q e
    obtain ⟨a, xs, e1, e2, r, n⟩ := G.own i ds (by rw [wipeR_get, if_neg hi]; exact e)
    rw [wipe_get, if_neg hi] at e1
    rw [Mm_wipe hu] at r
    exact ⟨a, xs, e1, e2, r, n⟩
  · obtain ⟨_, _, _, d3⟩ := G.dck p e
    obtain ⟨d1, d2, d4, _⟩ := G1.dck p e
    exact ⟨d1, d2, d4, d3⟩
/-- D: the list that grows; it is of the frame's own that change -/
structure Grows (F : Fr) (D : Addr) : Prop where
  m : F.M0 D
  z : F.H0 D = none
  k : ∀ p, F.dk = some p → D ≠ p.1 ∧ D ≠ p.2 ∧ D ≠ p.3
abbrev SndG (K : PySem.W.Frag) (sl : List Nat) (g : TG) (mg : MG) : Prop := ∀ F σ H ρ δ v d ρ', Good K F σ H ρ δ → Rep K (Mm F σ ρ) H v d → mg d ρ = some ρ' → ∀ Q : L2.St → Hp → Prop, (∀ σ', Good K F σ' H ρ' δ → Mv (Mm F σ ρ) H (Mm F σ' ρ') H → Set1 sl σ σ' ρ ρ' → Q σ' H) → g v σ H Q
abbrev SndI (K : PySem.W.Frag) (wi : TI) (mi : MA) : Prop := ∀ F σ H ρ δ ds δ', Good K F σ H ρ δ → mi ρ δ = some (ds, δ') → ∀ R : It → Hp → Prop, (∀ J H', Good K F σ H' ρ δ' → Mv (Mm F σ ρ) H (Mm F σ ρ) H' → Walks K (Mm F σ ρ) H' J ds → R J H') → wi σ H R
end PD
namespace PD
open PySem PySem.Spec PyProof.Rows L2
end PD
namespace PD
open PySem PySem.Spec PyProof.Rows L2
theorem u1 {k : Nat} {A : Around} (hr : Room k A) : A.units + 1 < cLine := by have := u65 hr; omega
def gSwap (K : PySem.W.Frag) (i j : Nat) : TG := fun v σ H Q => ∃ a x y, v = .ref a ∧ SqT K H a [x, y] ∧ gName j y σ H fun σ1 H1 => gName i x σ1 H1 Q
def gSwapM (i j : Nat) : MG := fun d ρ => match d with
  | .tuple [a, b] => some ((ρ.set j (.val b)).set i (.val a))
  | _ => none
theorem ps_swap {X : Cx} {i j : Nat} {x y : Str} {e : Expr} {te : TE} {k : Nat} {p1 p2 tp pos : Pos} (hc : X.calm = true) (hN : X.N.Nodup) (he : PE X e te) (hx : X.N[i]? = some x) (hy : X.N[j]? = some y) (lx : Loc X.env.scope x) (ly : Loc X.env.scope y)
    (fx : X.fn x = true ∨ X.env.scope.names.lookup x = some .local) (fy : X.fn y = true ∨ X.env.scope.names.lookup y = some .local)
    (hs : swapsWithSole [.Tuple [.Name x p1, .Name y p2] k tp] e pos.line X.env = pure false) (hw : swappedStores [.Tuple [.Name x p1, .Name y p2] k tp] e X.env = pure (some [x, y])) : PS X (.Assign [.Tuple [.Name x p1, .Name y p2] k tp] e pos) (tAsg te (gSwap X.K i j)) := by
  refine ⟨fun pins s σ H D I h => ?_⟩
  rw [exec_Assign_arm]
  refine wpAny_bind (wpAny_standAt (wpAny_bind ?_))
  rw [hs]
  refine wpAny_pure ?_
  rw [if_neg (by decide)]
  refine wpAny_bind (thn (he.run pins s σ H _ I h) fun v s1 ⟨z, H1, I1, r1, q1⟩ => ?_)
  rw [hw]
  refine wpAny_bind (wpAny_pure ?_)
  obtain ⟨a, x1, y1, rfl, hq, h2⟩ := q1
  cases r1
  obtain ⟨its, rv, ht, hz⟩ := I1.tuple hq
  cases rv with | @cons _ u1 _ us ra rv => cases rv with | @cons _ u2 _ us rb rv =>
    cases rv
    unfold assignStores
    dsimp only [List.reverse_cons, List.reverse_nil, List.nil_append, List.cons_append, List.map_cons, List.map_nil]
    refine wpAny_bind (wpAny_rule ?_)
    refine wpAny_bind (?_ : wpAny _ X.A (unpackItems (.ref a) [u1, u2].toArray.size none) _ _ s1)
    refine unpackItems_tuple (I1.ok.hd hc) ht fun h' hk => ?_
    have I2 : Inv X pins σ H1 { s1 with heap := h' } := I1.kept (t' := s1.toks) fun b o e => hk b o (Nat.ne_of_lt (Heap.lt_size e)) e
    refine wpAny_bind ?_
    show wpAny _ _ (assignInOrder [bindName X.env y, bindName X.env x] [u2, u1]) _ _ _
    refine assignInOrder_cons (wpAny_bindName (store_ok I2 hN hy ly rb (fun s3 I3 => ?_) fy))
    refine assignInOrder_cons (wpAny_bindName (store_ok I3 hN hx lx ra (fun s4 I4 => ?_) fx))
    exact assignInOrder_nil (wpAny_pure ⟨_, _, I4, h2⟩)
theorem snd_swap {K} (i j : Nat) : SndG K ([j] ++ [i]) (gSwap K i j) (gSwapM i j) := fun F σ H ρ δ v d ρ' G r e Q q => by
  unfold gSwapM at e
  split at e
  · cases e
    cases r with
    | tup ha r => cases r with | cons r1 r => cases r with | cons r2 r =>
      cases r
      refine ⟨_, _, _, rfl, ha.sq, ?_⟩
      exact q _ ((G.set j r2).1.set i (r1.mv (G.set j r2).2)).1 ((G.set j r2).2.trans ((G.set j r2).1.set i (r1.mv (G.set j r2).2)).2) ((Set1.set j).trans (Set1.set i))
  · cases e
theorem pds_swap {X : Cx} (i j : Nat) {x y : Str} {e : Expr} {me : ME} {k : Nat} {p1 p2 tp pos : Pos} (hc : X.calm = true) (hN : X.N.Nodup) (he : PD X e me) (hx : X.N[i]? = some x := by rfl) (hy : X.N[j]? = some y := by rfl) (lx : Loc X.env.scope x := by first | exact Or.inl rfl | exact Or.inr rfl) (ly : Loc X.env.scope y := by first | exact Or.inl rfl | exact Or.inr rfl)
    (fx : X.fn x = true ∨ X.env.scope.names.lookup x = some .local := by first | exact .inl rfl | exact .inr rfl) (fy : X.fn y = true ∨ X.env.scope.names.lookup y = some .local := by first | exact .inl rfl | exact .inr rfl)
    (hs : swapsWithSole [.Tuple [.Name x p1, .Name y p2] k tp] e pos.line X.env = pure false := by rfl) (hw : swappedStores [.Tuple [.Name x p1, .Name y p2] k tp] e X.env = pure (some [x, y]) := by rfl) : PDS X (.Assign [.Tuple [.Name x p1, .Name y p2] k tp] e pos) (sAsg me (gSwapM i j)) := by
  obtain ⟨t, q1, s1⟩ := he.ex
  exact ⟨_, ps_swap hc hN q1 hx hy lx ly fx fy hs hw, snd_asg s1 (snd_swap i j)⟩
end PD
namespace PD
open PySem PySem.Spec PyProof.Rows L2
theorem RepK.lookN {K M H} : ∀ {kvs es} {k : Key}, RepK K M H kvs es → lookD es (keyD k) = none → valV kvs k = none
  | _, _, _, .nil, _ => rfl
  | _, _, k, .cons (k := k') r t, h => by
    rw [valV_cons]
    cases k' with
    | inl i =>
      cases k with
      | inl j =>
        simp only [keyD, lookD] at h
        by_cases hj : i = j
        · subst hj; rw [if_pos rfl] at h; cases h
        · rw [if_neg hj] at h
          rw [if_neg (fun q => hj (Sum.inl.inj q))]; exact RepK.lookN (k := .inl j) t h
      | inr j =>
        simp only [keyD, lookD] at h
        rw [if_neg (fun q => nomatch q)]; exact RepK.lookN (k := .inr j) t h
    | inr i =>
      cases k with
      | inr j =>
        simp only [keyD, lookD] at h
        by_cases hj : i = j
        · subst hj; rw [if_pos rfl] at h; cases h
        · rw [if_neg hj] at h
          rw [if_neg (fun q => hj (Sum.inr.inj q))]; exact RepK.lookN (k := .inr j) t h
      | inl j =>
        simp only [keyD, lookD] at h
        rw [if_neg (fun q => nomatch q)]; exact RepK.lookN (k := .inl j) t h
theorem keyOf_keyD {d : D} {k : Key} (h : keyOf d = some k) : d = keyD k := by
  cases d <;> simp only [keyOf, Option.some.injEq, reduceCtorEq] at h <;> (subst h; rfl)
def getD2 : D → D → D → Option D
  | .dict es, k, z => (keyOf k).map fun _ => (lookD es k).getD z
  | _, _, _ => none
def mGet2 (a b c : ME) : ME := fun ρ δ => (a ρ δ).bind fun p => (b ρ p.2).bind fun q => (c ρ q.2).bind fun r => (getD2 p.1 q.1 r.1).map fun z => (z, r.2)
section
variable {X : Cx} {a b c : Expr} {ma mb mc : ME} {pos : Pos}
def inDict (neg : Bool) : D → D → Option D
  | k, .dict es => (keyOf k).map fun _ => .bool (neg ^^ (lookD es k).isSome)
  | _, _ => none
def rInDict (neg : Bool) : R2 := fun x y H Q => ∃ a o, y = .ref a ∧ DGet H a x o ∧ Q (.bl (neg ^^ o.isSome)) H
theorem op_notInDict (hu : X.A.units + 1 < cLine) : OpR X (compareOp .NotIn) (rInDict true) := fun pins s σ H x y v u Q I rx ry q => by
  obtain ⟨a, o, rfl, g, q⟩ := q
  obtain rfl : u = Value.ref a := ry
  rw [Bool.true_xor] at q
  exact d_notIn hu I g rx fun s3 I3 => ⟨.bl (!o.isSome), H, I3, rfl, q⟩
theorem ops_inDict {K neg} : OpS K (rInDict neg) (inDict neg) := fun F σ H ρ δ x y d e z G rx ry hz Q q => by
  unfold inDict at hz
  split at hz
  · rename_i k es
    obtain ⟨kk, e5, e6⟩ := Option.map_eq_some_iff.mp hz
    subst e6
    cases ry with
    | dic n rd rk =>
      have ek := keyOf_rep rx e5
      have ed := keyOf_keyD e5
      refine ⟨_, _, rfl, .inl ⟨_, kk, rd, ek, rfl⟩, ?_⟩
      subst ed
      cases hl : lookD es (keyD kk) with
      | none => rw [rk.lookN hl]; rw [hl] at q; exact q _ H (fun _ _ h => h) (.bl _)
      | some d1 =>
        obtain ⟨v1, ev, rv⟩ := rk.look hl
        rw [ev]; rw [hl] at q; exact q _ H (fun _ _ h => h) (.bl _)
  · cases hz
theorem cs_notInDict (hu : X.A.units + 1 < cLine) : CmpS X .NotIn (inDict true) := ⟨_, op_notInDict hu, ops_inDict⟩
end
section
variable {X : Cx} {a b c e : Expr} {es : List Expr} {ma mb mc : ME} {r : MA} {p pos : Pos}
theorem Reps.strsOf {K M H} : ∀ ns : List Str, Reps K M H (ns.map V.str) (ns.map PyData.str)
  | [] => .nil
  | n :: r => .cons (.str n) (Reps.strsOf r)
end
end PD
namespace PD
open PySem PySem.Spec PyProof.Rows L2
def W1 (o : Option D) (P : D → Prop) : Prop := ∃ z, o = some z ∧ P z
def WE (m : ME) (ρ : List Sl) (δ : Dk) (P : D → Dk → Prop) : Prop := ∃ d δ', m ρ δ = some (d, δ') ∧ P d δ'
def WT (m : MT) (ρ : List Sl) (δ : Dk) (P : Bool → Dk → Prop) : Prop := ∃ d δ', m ρ δ = some (d, δ') ∧ P d δ'
def WA (m : MA) (ρ : List Sl) (δ : Dk) (P : List D → Dk → Prop) : Prop := ∃ d δ', m ρ δ = some (d, δ') ∧ P d δ'
def WO (m : MO) (ρ : List Sl) (δ : Dk) (P : Option Int → Dk → Prop) : Prop := ∃ d δ', m ρ δ = some (d, δ') ∧ P d δ'
def WP (m : MP) (ρ : List Sl) (δ : Dk) (P : List (Key × D) → Dk → Prop) : Prop := ∃ d δ', m ρ δ = some (d, δ') ∧ P d δ'
def WG (g : MG) (d : D) (ρ : List Sl) (P : List Sl → Prop) : Prop := ∃ ρ', g d ρ = some ρ' ∧ P ρ'
def WGs (g : MGs) (d : List D) (ρ : List Sl) (P : List Sl → Prop) : Prop := ∃ ρ', g d ρ = some ρ' ∧ P ρ'
def WS (s : MS) (ρ : List Sl) (δ : Dk) (P : Fl → List Sl → Dk → Prop) : Prop := ∃ f ρ' δ', s ρ δ = some (f, ρ', δ') ∧ P f ρ' δ'
def WK (f : List D → Dk → Option (D × Dk)) (ds : List D) (δ : Dk) (P : D → Dk → Prop) : Prop := ∃ d δ', f ds δ = some (d, δ') ∧ P d δ'
def WC (g : MG) (tt : MT) (te : ME) (ρ : List Sl) (ds : List D) (δ : Dk) (P : List D → Dk → Prop) : Prop := ∃ d δ', compL g tt te ρ ds δ = some (d, δ') ∧ P d δ'
theorem W1.of {o : Option D} {z : D} {P : D → Prop} (h : o = some z) (p : P z) : W1 o P := ⟨z, h, p⟩
theorem W1.mono {o : Option D} {P Q : D → Prop} (h : W1 o P) (k : ∀ z, P z → Q z) : W1 o Q := let ⟨z, e, p⟩ := h; ⟨z, e, k z p⟩
theorem WK.mono {f ds δ} {P Q : D → Dk → Prop} (h : WK f ds δ P) (k : ∀ z δ', P z δ' → Q z δ') : WK f ds δ Q := let ⟨z, δ', e, p⟩ := h; ⟨z, δ', e, k z δ' p⟩
theorem WS.mono {s ρ δ} {P Q : Fl → List Sl → Dk → Prop} (h : WS s ρ δ P) (k : ∀ f ρ' δ', P f ρ' δ' → Q f ρ' δ') : WS s ρ δ Q := let ⟨f, ρ', δ', e, p⟩ := h; ⟨f, ρ', δ', e, k f ρ' δ' p⟩
theorem WE.mono {m ρ δ} {P Q : D → Dk → Prop} (h : WE m ρ δ P) (k : ∀ z δ', P z δ' → Q z δ') : WE m ρ δ Q := let ⟨z, δ', e, p⟩ := h; ⟨z, δ', e, k z δ' p⟩
theorem WT.mono {m ρ δ} {P Q : Bool → Dk → Prop} (h : WT m ρ δ P) (k : ∀ z δ', P z δ' → Q z δ') : WT m ρ δ Q := let ⟨z, δ', e, p⟩ := h; ⟨z, δ', e, k z δ' p⟩
section
variable {ρ : List Sl} {δ : Dk}
theorem we_var {i : Nat} {P} : WE (mVar i) ρ δ P ↔ ∃ d, ρ[i]? = some (.val d) ∧ P d δ := by
  unfold WE mVar
  constructor
  · rintro ⟨d, δ', h, p⟩
    split at h
    · rename_i e
      cases h; exact ⟨_, e, p⟩
    · cases h
  · rintro ⟨d, e, p⟩
    exact ⟨d, δ, by rw [e], p⟩
theorem we_c {d : D} {P} : WE (mC d) ρ δ P ↔ P d δ := ⟨fun ⟨_, _, h, p⟩ => by cases h; exact p, fun p => ⟨_, _, rfl, p⟩⟩
theorem we_bin {f a b P} : WE (mBin f a b) ρ δ P ↔ WE a ρ δ fun x δ1 => WE b ρ δ1 fun y δ2 => W1 (f x y) fun z => P z δ2 := by
  constructor
  · rintro ⟨d, δ', e, p⟩
    obtain ⟨⟨x, δ1⟩, e1, e⟩ := Option.bind_eq_some_iff.mp e
    obtain ⟨⟨y, δ2⟩, e2, e⟩ := Option.bind_eq_some_iff.mp e
    obtain ⟨z, e3, e⟩ := Option.map_eq_some_iff.mp e
    cases e
    exact ⟨x, δ1, e1, y, _, e2, _, e3, p⟩
  · rintro ⟨x, δ1, e1, y, δ2, e2, z, e3, p⟩
    exact ⟨z, δ2, bin_eq e1 e2 e3, p⟩
theorem we_un {f a P} : WE (mUn f a) ρ δ P ↔ WE a ρ δ fun x δ1 => W1 (f x) fun z => P z δ1 := by
  constructor
  · rintro ⟨d, δ', e, p⟩
    obtain ⟨⟨x, δ1⟩, e1, e⟩ := Option.bind_eq_some_iff.mp e
    obtain ⟨z, e3, e⟩ := Option.map_eq_some_iff.mp e
    cases e
    exact ⟨x, _, e1, _, e3, p⟩
  · rintro ⟨x, δ1, e1, z, e3, p⟩
    exact ⟨z, δ1, un_eq e1 e3, p⟩
theorem we_call {f r P} : WE (mCall f r) ρ δ P ↔ WA r ρ δ fun x δ1 => W1 (f x) fun z => P z δ1 := by
  constructor
  · rintro ⟨d, δ', e, p⟩
    obtain ⟨⟨x, δ1⟩, e1, e⟩ := Option.bind_eq_some_iff.mp e
    obtain ⟨z, e3, e⟩ := Option.map_eq_some_iff.mp e
    cases e
    exact ⟨x, _, e1, _, e3, p⟩
  · rintro ⟨x, δ1, e1, z, e3, p⟩
    exact ⟨z, δ1, call_eq e1 e3, p⟩
theorem we_callK {i f r P} : WE (mCallK i f r) ρ δ P ↔ ρ[i]? = some .deck ∧ WA r ρ δ fun x δ1 => WK f x δ1 P := by
  constructor
  · rintro ⟨d, δ', e, p⟩
    unfold mCallK at e
    split at e
    · rename_i hi
      obtain ⟨⟨x, δ1⟩, e1, e⟩ := Option.bind_eq_some_iff.mp e
      exact ⟨hi, x, δ1, e1, d, δ', e, p⟩
    · cases e
  · rintro ⟨hi, x, δ1, e1, d, δ', e, p⟩
    exact ⟨d, δ', callK_eq hi e1 e, p⟩
theorem wa_nil {P} : WA mNil ρ δ P ↔ P [] δ := ⟨fun ⟨_, _, h, p⟩ => by cases h; exact p, fun p => ⟨_, _, rfl, p⟩⟩
theorem wa_cons {a r P} : WA (mCons a r) ρ δ P ↔ WE a ρ δ fun x δ1 => WA r ρ δ1 fun xs δ2 => P (x :: xs) δ2 := by
  constructor
  · rintro ⟨d, δ', e, p⟩
    obtain ⟨⟨x, δ1⟩, e1, e⟩ := Option.bind_eq_some_iff.mp e
    obtain ⟨⟨z, δ2⟩, e3, e⟩ := Option.map_eq_some_iff.mp e
    cases e
    exact ⟨x, δ1, e1, z, _, e3, p⟩
  · rintro ⟨x, δ1, e1, z, δ2, e3, p⟩
    exact ⟨_, _, cons_eq e1 e3, p⟩
theorem we_tup {r P} : WE (mTup r) ρ δ P ↔ WA r ρ δ fun ds δ1 => ds.length ≤ sizeLine ∧ P (.tuple ds) δ1 := by
  constructor
  · rintro ⟨d, δ', e, p⟩
    obtain ⟨⟨x, δ1⟩, e1, e⟩ := Option.bind_eq_some_iff.mp e
    dsimp only at e
    split at e
    · rename_i hl; cases e; exact ⟨x, _, e1, hl, p⟩
    · cases e
  · rintro ⟨x, δ1, e1, hl, p⟩
    exact ⟨_, _, tup_eq e1 hl, p⟩
theorem we_lst {r P} : WE (mLst r) ρ δ P ↔ WA r ρ δ fun ds δ1 => ds.length ≤ sizeLine ∧ P (.list ds) δ1 := by
  constructor
  · rintro ⟨d, δ', e, p⟩
    obtain ⟨⟨x, δ1⟩, e1, e⟩ := Option.bind_eq_some_iff.mp e
    dsimp only at e
    split at e
    · rename_i hl; cases e; exact ⟨x, _, e1, hl, p⟩
    · cases e
  · rintro ⟨x, δ1, e1, hl, p⟩
    exact ⟨_, _, lst_eq e1 hl, p⟩
theorem wo_no {P} : WO oNo ρ δ P ↔ P none δ := ⟨fun ⟨_, _, h, p⟩ => by cases h; exact p, fun p => ⟨_, _, rfl, p⟩⟩
theorem wo_some {m P} : WO (oSome m) ρ δ P ↔ WE m ρ δ fun x δ1 => ∃ i, x = .int i ∧ P (some i) δ1 := by
  constructor
  · rintro ⟨d, δ', e, p⟩
    obtain ⟨⟨x, δ1⟩, e1, e⟩ := Option.bind_eq_some_iff.mp e
    dsimp only at e
    split at e
    · cases e; exact ⟨_, _, e1, _, rfl, p⟩
    · cases e
  · rintro ⟨x, δ1, e1, i, rfl, p⟩
    exact ⟨_, _, os_eq e1, p⟩
theorem we_sl {a lo hi P} : WE (mSl a lo hi) ρ δ P ↔ WE a ρ δ fun x δ1 => WO lo ρ δ1 fun l δ2 => WO hi ρ δ2 fun h δ3 => W1 (slD l h x) fun z => P z δ3 := by
  constructor
  · rintro ⟨d, δ', e, p⟩
    obtain ⟨⟨x, δ1⟩, e1, e⟩ := Option.bind_eq_some_iff.mp e
    obtain ⟨⟨y, δ2⟩, e2, e⟩ := Option.bind_eq_some_iff.mp e
    obtain ⟨⟨h, δ3⟩, e4, e⟩ := Option.bind_eq_some_iff.mp e
    obtain ⟨z, e3, e⟩ := Option.map_eq_some_iff.mp e
    cases e
    exact ⟨x, δ1, e1, y, δ2, e2, h, _, e4, _, e3, p⟩
  · rintro ⟨x, δ1, e1, y, δ2, e2, h, δ3, e4, z, e3, p⟩
    exact ⟨z, _, sl_eq e1 e2 e4 e3, p⟩
theorem wt_b {m P} : WT (mB m) ρ δ P ↔ WE m ρ δ fun x δ1 => ∃ b, x = .bool b ∧ P b δ1 := by
  constructor
  · rintro ⟨d, δ', e, p⟩
    obtain ⟨⟨x, δ1⟩, e1, e⟩ := Option.bind_eq_some_iff.mp e
    dsimp only at e
    split at e
    · cases e; exact ⟨_, _, e1, _, rfl, p⟩
    · cases e
  · rintro ⟨x, δ1, e1, i, rfl, p⟩
    exact ⟨_, _, mB_eq e1, p⟩
theorem wt_tru {m P} : WT (mTru m) ρ δ P ↔ WE m ρ δ fun x δ1 => ∃ b, truD x = some b ∧ P b δ1 := by
  constructor
  · rintro ⟨d, δ', e, p⟩
    obtain ⟨⟨x, δ1⟩, e1, e⟩ := Option.bind_eq_some_iff.mp e
    obtain ⟨z, e3, e⟩ := Option.map_eq_some_iff.mp e
    cases e
    exact ⟨_, _, e1, _, e3, p⟩
  · rintro ⟨x, δ1, e1, i, e2, p⟩
    exact ⟨_, _, tru_eq e1 e2, p⟩
theorem wt_and {a b P} : WT (tAndM a b) ρ δ P ↔ WT a ρ δ fun x δ1 => if x = true then WT b ρ δ1 P else P false δ1 := by
  constructor
  · rintro ⟨d, δ', e, p⟩
    obtain ⟨⟨x, δ1⟩, e1, e⟩ := Option.bind_eq_some_iff.mp e
    dsimp only at e
    refine ⟨x, δ1, e1, ?_⟩
    split at e
    · rw [if_pos (by assumption)]; exact ⟨_, _, e, p⟩
    · rw [if_neg (by assumption)]; cases e; exact p
  · rintro ⟨x, δ1, e1, p⟩
    unfold WT tAndM
    rw [e1]
    simp only [Option.bind_some]
    split at p
    · rw [if_pos (by assumption)]; exact p
    · rw [if_neg (by assumption)]; exact ⟨_, _, rfl, p⟩
theorem wt_or {a b P} : WT (tOrM a b) ρ δ P ↔ WT a ρ δ fun x δ1 => if x = true then P true δ1 else WT b ρ δ1 P := by
  constructor
  · rintro ⟨d, δ', e, p⟩
    obtain ⟨⟨x, δ1⟩, e1, e⟩ := Option.bind_eq_some_iff.mp e
    dsimp only at e
    refine ⟨x, δ1, e1, ?_⟩
    split at e
    · rw [if_pos (by assumption)]; cases e; exact p
    · rw [if_neg (by assumption)]; exact ⟨_, _, e, p⟩
  · rintro ⟨x, δ1, e1, p⟩
    unfold WT tOrM
    rw [e1]
    simp only [Option.bind_some]
    split at p
    · rw [if_pos (by assumption)]; exact ⟨_, _, rfl, p⟩
    · rw [if_neg (by assumption)]; exact p
theorem wt_not {a P} : WT (tNotM a) ρ δ P ↔ WT a ρ δ fun x δ1 => P (!x) δ1 := by
  constructor
  · rintro ⟨d, δ', e, p⟩
    obtain ⟨⟨x, δ1⟩, e1, e⟩ := Option.map_eq_some_iff.mp e
    cases e
    exact ⟨x, _, e1, p⟩
  · rintro ⟨x, δ1, e1, p⟩
    exact ⟨_, _, by unfold tNotM; rw [e1]; rfl, p⟩
theorem we_if {c a b P} : WE (mIf c a b) ρ δ P ↔ WT c ρ δ fun x δ1 => if x = true then WE a ρ δ1 P else WE b ρ δ1 P := by
  constructor
  · rintro ⟨d, δ', e, p⟩
    obtain ⟨⟨x, δ1⟩, e1, e⟩ := Option.bind_eq_some_iff.mp e
    dsimp only at e
    refine ⟨x, δ1, e1, ?_⟩
    split at e
    · rw [if_pos (by assumption)]; exact ⟨_, _, e, p⟩
    · rw [if_neg (by assumption)]; exact ⟨_, _, e, p⟩
  · rintro ⟨x, δ1, e1, p⟩
    unfold WE mIf
    rw [e1]
    simp only [Option.bind_some]
    split at p
    · rw [if_pos (by assumption)]; exact p
    · rw [if_neg (by assumption)]; exact p
theorem we_and {a b P} : WE (mAnd a b) ρ δ P ↔ WE a ρ δ fun x δ1 => ∃ c, x = .bool c ∧ if c = true then WE b ρ δ1 P else P (.bool false) δ1 := by
  constructor
  · rintro ⟨d, δ', e, p⟩
    obtain ⟨⟨x, δ1⟩, e1, e⟩ := Option.bind_eq_some_iff.mp e
    dsimp only at e
    split at e
    · exact ⟨_, _, e1, true, rfl, d, δ', e, p⟩
    · cases e; exact ⟨_, _, e1, false, rfl, p⟩
    · cases e
  · rintro ⟨x, δ1, e1, c, rfl, p⟩
    unfold WE mAnd
    rw [e1]
    simp only [Option.bind_some]
    cases c with
    | true => exact p
    | false => exact ⟨_, _, rfl, p⟩
theorem we_or {a b P} : WE (mOr a b) ρ δ P ↔ WE a ρ δ fun x δ1 => ∃ c, x = .bool c ∧ if c = true then P (.bool true) δ1 else WE b ρ δ1 P := by
  constructor
  · rintro ⟨d, δ', e, p⟩
    obtain ⟨⟨x, δ1⟩, e1, e⟩ := Option.bind_eq_some_iff.mp e
    dsimp only at e
    split at e
    · cases e; exact ⟨_, _, e1, true, rfl, p⟩
    · exact ⟨_, _, e1, false, rfl, d, δ', e, p⟩
    · cases e
  · rintro ⟨x, δ1, e1, c, rfl, p⟩
    unfold WE mOr
    rw [e1]
    simp only [Option.bind_some]
    cases c with
    | false => exact p
    | true => exact ⟨_, _, rfl, p⟩
theorem we_chain {f g a b c P} : WE (mChain f g a b c) ρ δ P ↔ WE a ρ δ fun x δ1 => WE b ρ δ1 fun y δ2 => W1 (f x y) fun z => ∃ t, z = .bool t ∧ if t = true then WE c ρ δ2 fun w δ3 => W1 (g y w) fun v => P v δ3 else P (.bool false) δ2 := by
  constructor
  · rintro ⟨d, δ', e, p⟩
    obtain ⟨⟨x, δ1⟩, e1, e⟩ := Option.bind_eq_some_iff.mp e
    obtain ⟨⟨y, δ2⟩, e2, e⟩ := Option.bind_eq_some_iff.mp e
    obtain ⟨z, e3, e⟩ := Option.bind_eq_some_iff.mp e
    refine ⟨x, δ1, e1, y, δ2, e2, z, e3, ?_⟩
    dsimp only at e
    split at e
    · obtain ⟨⟨w, δ3⟩, e4, e⟩ := Option.bind_eq_some_iff.mp e
      obtain ⟨v, e5, e⟩ := Option.map_eq_some_iff.mp e
      cases e
      exact ⟨true, rfl, w, _, e4, _, e5, p⟩
    · cases e; exact ⟨false, rfl, p⟩
    · cases e
  · rintro ⟨x, δ1, e1, y, δ2, e2, z, e3, t, rfl, p⟩
    unfold WE mChain
    rw [e1]; simp only [Option.bind_some]; rw [e2]; simp only [Option.bind_some]; rw [e3]; simp only [Option.bind_some]
    cases t with
    | true =>
      obtain ⟨w, δ3, e4, v, e5, p⟩ := p
      rw [e4]; simp only [Option.bind_some]; rw [e5]
      exact ⟨_, _, rfl, p⟩
    | false => exact ⟨_, _, rfl, p⟩
theorem we_get2 {a b c P} : WE (mGet2 a b c) ρ δ P ↔ WE a ρ δ fun x δ1 => WE b ρ δ1 fun y δ2 => WE c ρ δ2 fun w δ3 => W1 (getD2 x y w) fun z => P z δ3 := by
  constructor
  · rintro ⟨d, δ', e, p⟩
    obtain ⟨⟨x, δ1⟩, e1, e⟩ := Option.bind_eq_some_iff.mp e
    obtain ⟨⟨y, δ2⟩, e2, e⟩ := Option.bind_eq_some_iff.mp e
    obtain ⟨⟨h, δ3⟩, e4, e⟩ := Option.bind_eq_some_iff.mp e
    obtain ⟨z, e3, e⟩ := Option.map_eq_some_iff.mp e
    cases e
    exact ⟨x, δ1, e1, y, δ2, e2, h, _, e4, _, e3, p⟩
  · rintro ⟨x, δ1, e1, y, δ2, e2, h, δ3, e4, z, e3, p⟩
    refine ⟨z, δ3, ?_, p⟩
    unfold mGet2
    rw [e1]; simp only [Option.bind_some]; rw [e2]; simp only [Option.bind_some]; rw [e4]; simp only [Option.bind_some]; rw [e3]; rfl
theorem wp_nil {P} : WP pNil ρ δ P ↔ P [] δ := ⟨fun ⟨_, _, h, p⟩ => by cases h; exact p, fun p => ⟨_, _, rfl, p⟩⟩
theorem wp_cons {k v r P} : WP (pCons k v r) ρ δ P ↔ WE k ρ δ fun x δ1 => ∃ kk, keyOf x = some kk ∧ WE v ρ δ1 fun y δ2 => WP r ρ δ2 fun z δ3 => P ((kk, y) :: z) δ3 := by
  constructor
  · rintro ⟨d, δ', e, p⟩
    obtain ⟨⟨x, δ1⟩, e1, e⟩ := Option.bind_eq_some_iff.mp e
    obtain ⟨kk, e2, e⟩ := Option.bind_eq_some_iff.mp e
    obtain ⟨⟨y, δ2⟩, e3, e⟩ := Option.bind_eq_some_iff.mp e
    obtain ⟨⟨z, δ3⟩, e4, e⟩ := Option.map_eq_some_iff.mp e
    cases e
    exact ⟨x, δ1, e1, kk, e2, y, δ2, e3, z, _, e4, p⟩
  · rintro ⟨x, δ1, e1, kk, e2, y, δ2, e3, z, δ3, e4, p⟩
    refine ⟨_, δ3, ?_, p⟩
    unfold pCons
    rw [e1]; simp only [Option.bind_some]; rw [e2]; simp only [Option.bind_some]; rw [e3]; simp only [Option.bind_some]; rw [e4]; rfl
theorem we_disp {m P} : WE (mDisp m) ρ δ P ↔ WP m ρ δ fun es δ1 => (nodupK es ∧ es.length ≤ 15) ∧ P (.dict (es.map fun e => (keyD e.1, e.2))) δ1 := by
  constructor
  · rintro ⟨d, δ', e, p⟩
    obtain ⟨⟨x, δ1⟩, e1, e⟩ := Option.bind_eq_some_iff.mp e
    dsimp only at e
    split at e
    · rename_i hl; cases e; exact ⟨x, _, e1, hl, p⟩
    · cases e
  · rintro ⟨x, δ1, e1, hl, p⟩
    refine ⟨_, δ1, ?_, p⟩
    unfold mDisp
    rw [e1]; simp only [Option.bind_some]; rw [if_pos hl]
theorem wa_items {m P} : WA (mItems m) ρ δ P ↔ WE m ρ δ fun x δ1 => ∃ ds, itemsD x = some ds ∧ P ds δ1 := by
  constructor
  · rintro ⟨d, δ', e, p⟩
    obtain ⟨⟨x, δ1⟩, e1, e⟩ := Option.bind_eq_some_iff.mp e
    obtain ⟨z, e3, e⟩ := Option.map_eq_some_iff.mp e
    cases e
    exact ⟨_, _, e1, _, e3, p⟩
  · rintro ⟨x, δ1, e1, i, e2, p⟩
    exact ⟨_, _, it_eq e1 e2, p⟩
/-- range(j), j at most a million -/
theorem wa_rng {m P} (h : WE m ρ δ fun x δ1 => ∃ j : Nat, x = .int j ∧ j ≤ 1000000 ∧ P (rngL j) δ1) : WA (mRng1 m) ρ δ P := by
  obtain ⟨x, δ1, e, j, rfl, hj, p⟩ := h
  exact ⟨_, _, rng_eq e hj, p⟩
theorem we_lc {mi vs g tt te P} : WE (mLc mi vs g tt te) ρ δ P ↔ WA mi ρ δ fun ds δ1 => noU ρ vs = true ∧ WC g tt te (wipeR ρ vs) ds δ1 fun out δ2 => out.length ≤ sizeLine ∧ P (.list out) δ2 := by
  constructor
  · rintro ⟨d, δ', e, p⟩
    obtain ⟨⟨x, δ1⟩, e1, e⟩ := Option.bind_eq_some_iff.mp e
    dsimp only at e
    split at e
    · rename_i hu
      obtain ⟨⟨out, δ2⟩, e2, e⟩ := Option.bind_eq_some_iff.mp e
      dsimp only at e
      split at e
      · rename_i hz; cases e; exact ⟨x, δ1, e1, hu, out, _, e2, hz, p⟩
      · cases e
    · cases e
  · rintro ⟨x, δ1, e1, hu, out, δ2, e2, hz, p⟩
    exact ⟨_, _, lc_eq e1 hu e2 hz, p⟩
theorem wc_cons {g tt te d ds P} : WC g tt te ρ (d :: ds) δ P ↔ WG g d ρ fun ρ2 => WT tt ρ2 δ fun b δ1 => if b = true then WE te ρ2 δ1 fun y δ2 => WC g tt te ρ ds δ2 fun r δ3 => P (y :: r) δ3 else WC g tt te ρ ds δ1 P := by
  constructor
  · rintro ⟨out, δ', e, p⟩
    unfold compL at e
    obtain ⟨ρ2, e1, e⟩ := Option.bind_eq_some_iff.mp e
    obtain ⟨⟨b, δ1⟩, e2, e⟩ := Option.bind_eq_some_iff.mp e
    refine ⟨ρ2, e1, b, δ1, e2, ?_⟩
    dsimp only at e
    split at e
    · obtain ⟨⟨y, δ2⟩, e3, e⟩ := Option.bind_eq_some_iff.mp e
      obtain ⟨⟨r, δ3⟩, e4, e⟩ := Option.map_eq_some_iff.mp e
      cases e
      rw [if_pos (by assumption)]
      exact ⟨y, δ2, e3, r, _, e4, p⟩
    · rw [if_neg (by assumption)]
      exact ⟨_, _, e, p⟩
  · rintro ⟨ρ2, e1, b, δ1, e2, p⟩
    unfold WC compL
    rw [e1]; simp only [Option.bind_some]; rw [e2]; simp only [Option.bind_some]
    split at p
    · rename_i hb
      obtain ⟨y, δ2, e3, r, δ3, e4, p⟩ := p
      rw [if_pos hb, e3]; simp only [Option.bind_some]; rw [e4]
      exact ⟨_, _, rfl, p⟩
    · rename_i hb
      rw [if_neg hb]; exact p
/-- targets -/
theorem wg_set {i : Nat} {d : D} {P} : WG (gSet i) d ρ P ↔ P (ρ.set i (.val d)) := ⟨fun ⟨_, h, p⟩ => by cases h; exact p, fun p => ⟨_, rfl, p⟩⟩
theorem wg_tup {n : Nat} {m d P} : WG (gTupM n m) d ρ P ↔ ∃ ds, d = .tuple ds ∧ ds.length = n ∧ WGs m ds ρ P := by
  constructor
  · rintro ⟨ρ', e, p⟩
    unfold gTupM at e
    split at e
    · split at e
      · rename_i hl; exact ⟨_, rfl, hl, _, e, p⟩
      · cases e
    · cases e
  · rintro ⟨ds, rfl, hl, ρ', e, p⟩
    exact ⟨ρ', by unfold gTupM; simp only; rw [if_pos hl]; exact e, p⟩
theorem wgs_nil {P} : WGs gsNil [] ρ P ↔ P ρ := ⟨fun ⟨_, h, p⟩ => by cases h; exact p, fun p => ⟨_, rfl, p⟩⟩
theorem wgs_cons {m r d ds P} : WGs (gsCons m r) (d :: ds) ρ P ↔ WG m d ρ fun ρ1 => WGs r ds ρ1 P := by
  constructor
  · rintro ⟨ρ', e, p⟩
    obtain ⟨ρ1, e1, e⟩ := Option.bind_eq_some_iff.mp e
    exact ⟨ρ1, e1, ρ', e, p⟩
  · rintro ⟨ρ1, e1, ρ', e, p⟩
    exact ⟨ρ', by unfold gsCons; simp only; rw [e1]; exact e, p⟩
/-- statements -/
theorem ws_next {P} : WS sNext ρ δ P ↔ P .nx ρ δ := ⟨fun ⟨_, _, _, h, p⟩ => by cases h; exact p, fun p => ⟨_, _, _, rfl, p⟩⟩
theorem ws_asg {m g P} : WS (sAsg m g) ρ δ P ↔ WE m ρ δ fun d δ1 => WG g d ρ fun ρ1 => P .nx ρ1 δ1 := by
  constructor
  · rintro ⟨f, ρ', δ', e, p⟩
    obtain ⟨⟨x, δ1⟩, e1, e⟩ := Option.bind_eq_some_iff.mp e
    obtain ⟨ρ1, e2, e⟩ := Option.map_eq_some_iff.mp e
    cases e
    exact ⟨x, _, e1, _, e2, p⟩
  · rintro ⟨x, δ1, e1, ρ1, e2, p⟩
    exact ⟨_, _, _, asg_eq e1 e2, p⟩
theorem ws_ret {m P} : WS (sRet m) ρ δ P ↔ WE m ρ δ fun d δ1 => P (.rt d) ρ δ1 := by
  constructor
  · rintro ⟨f, ρ', δ', e, p⟩
    obtain ⟨⟨x, δ1⟩, e1, e⟩ := Option.map_eq_some_iff.mp e
    cases e
    exact ⟨x, _, e1, p⟩
  · rintro ⟨x, δ1, e1, p⟩
    exact ⟨_, _, _, ret_eq e1, p⟩
theorem ws_if {c a b P} : WS (sIf c a b) ρ δ P ↔ WT c ρ δ fun x δ1 => if x = true then WS a ρ δ1 P else WS b ρ δ1 P := by
  constructor
  · rintro ⟨f, ρ', δ', e, p⟩
    obtain ⟨⟨x, δ1⟩, e1, e⟩ := Option.bind_eq_some_iff.mp e
    dsimp only at e
    refine ⟨x, δ1, e1, ?_⟩
    split at e
    · rw [if_pos (by assumption)]; exact ⟨_, _, _, e, p⟩
    · rw [if_neg (by assumption)]; exact ⟨_, _, _, e, p⟩
  · rintro ⟨x, δ1, e1, p⟩
    unfold WS sIf
    rw [e1]
    simp only [Option.bind_some]
    split at p
    · rw [if_pos (by assumption)]; exact p
    · rw [if_neg (by assumption)]; exact p
def onNx (P : Fl → List Sl → Dk → Prop) (Q : List Sl → Dk → Prop) : Fl → List Sl → Dk → Prop
  | .nx, ρ, δ => Q ρ δ
  | f, ρ, δ => P f ρ δ
theorem onNx_nx {P Q} : onNx P Q .nx ρ δ = Q ρ δ := rfl
theorem onNx_rt {P Q d} : onNx P Q (.rt d) ρ δ = P (.rt d) ρ δ := rfl
theorem onNx_bk {P Q} : onNx P Q .bk ρ δ = P .bk ρ δ := rfl
theorem onNx_ct {P Q} : onNx P Q .ct ρ δ = P .ct ρ δ := rfl
theorem ws_seq {a b P} : WS (sSeq a b) ρ δ P ↔ WS a ρ δ (onNx P fun ρ1 δ1 => WS b ρ1 δ1 P) := by
  constructor
  · rintro ⟨f, ρ', δ', e, p⟩
    obtain ⟨⟨f1, ρ1, δ1⟩, e1, e⟩ := Option.bind_eq_some_iff.mp e
    refine ⟨f1, ρ1, δ1, e1, ?_⟩
    cases f1 with
    | nx => exact ⟨_, _, _, e, p⟩
    | rt d => cases e; exact p
    | bk => cases e; exact p
    | ct => cases e; exact p
  · rintro ⟨f, ρ1, δ1, e1, p⟩
    unfold WS sSeq
    rw [e1]
    simp only [Option.bind_some]
    cases f with
    | nx => exact p
    | rt d => exact ⟨_, _, _, rfl, p⟩
    | bk => exact ⟨_, _, _, rfl, p⟩
    | ct => exact ⟨_, _, _, rfl, p⟩
theorem ws_uni {i r P} : WS (sUni i r) ρ δ P ↔ WA r ρ δ fun ds δ1 => (ds.length ≤ sizeLine ∧ i < ρ.length) ∧ P .nx (ρ.set i (.uni ds)) δ1 := by
  constructor
  · rintro ⟨f, ρ', δ', e, p⟩
    obtain ⟨⟨x, δ1⟩, e1, e⟩ := Option.bind_eq_some_iff.mp e
    dsimp only at e
    split at e
    · rename_i hl; cases e; exact ⟨x, _, e1, hl, p⟩
    · cases e
  · rintro ⟨x, δ1, e1, hl, p⟩
    refine ⟨_, _, _, ?_, p⟩
    unfold sUni
    rw [e1]; simp only [Option.bind_some]; rw [if_pos hl]
theorem ws_app {i m P} : WS (sApp i m) ρ δ P ↔ ∃ ds, ρ[i]? = some (.uni ds) ∧ WE m ρ δ fun d δ1 => ds.length < sizeLine ∧ P .nx (ρ.set i (.uni (ds ++ [d]))) δ1 := by
  constructor
  · rintro ⟨f, ρ', δ', e, p⟩
    unfold sApp at e
    split at e
    · rename_i hi
      obtain ⟨⟨x, δ1⟩, e1, e⟩ := Option.bind_eq_some_iff.mp e
      dsimp only at e
      split at e
      · rename_i hl; cases e; exact ⟨_, hi, x, _, e1, hl, p⟩
      · cases e
    · cases e
  · rintro ⟨ds, hi, x, δ1, e1, hl, p⟩
    refine ⟨_, _, _, ?_, p⟩
    unfold sApp
    rw [hi]; simp only; rw [e1]; simp only [Option.bind_some]; rw [if_pos hl]
theorem ws_frz {i s P} : WS (sFrz i s) ρ δ P ↔ ∃ ds, ρ[i]? = some (.uni ds) ∧ WS s (ρ.set i (.val (.list ds))) δ P := by
  constructor
  · rintro ⟨f, ρ', δ', e, p⟩
    unfold sFrz at e
    split at e
    · rename_i hi; exact ⟨_, hi, _, _, _, e, p⟩
    · cases e
  · rintro ⟨ds, hi, p⟩
    unfold WS sFrz
    rw [hi]; exact p
theorem ws_aug {i f m P} : WS (sAug i f m) ρ δ P ↔ ∃ x, ρ[i]? = some (.val x) ∧ WE m ρ δ fun d δ1 => W1 (f x d) fun z => P .nx (ρ.set i (.val z)) δ1 := by
  constructor
  · rintro ⟨fl, ρ', δ', e, p⟩
    unfold sAug at e
    split at e
    · rename_i hi
      obtain ⟨⟨x, δ1⟩, e1, e⟩ := Option.bind_eq_some_iff.mp e
      obtain ⟨z, e3, e⟩ := Option.map_eq_some_iff.mp e
      cases e
      exact ⟨_, hi, x, _, e1, _, e3, p⟩
    · cases e
  · rintro ⟨x, hi, d, δ1, e1, z, e3, p⟩
    refine ⟨_, _, _, ?_, p⟩
    unfold sAug
    rw [hi]; simp only; rw [e1]; simp only [Option.bind_some]; rw [e3]; rfl
theorem ws_for {mi g s P} : WS (sFor mi g s) ρ δ P ↔ WA mi ρ δ fun ds δ1 => WS (forL g s ds) ρ δ1 P := by
  constructor
  · rintro ⟨f, ρ', δ', e, p⟩
    obtain ⟨⟨x, δ1⟩, e1, e⟩ := Option.bind_eq_some_iff.mp e
    exact ⟨x, δ1, e1, _, _, _, e, p⟩
  · rintro ⟨x, δ1, e1, f, ρ', δ', e, p⟩
    exact ⟨f, ρ', δ', by unfold sFor; rw [e1]; exact e, p⟩
/-- a for by an invariant of the items that are left -/
theorem ws_forI {g s P} (I : List D → List Sl → Dk → Prop) (hs : ∀ d ds ρ δ, I (d :: ds) ρ δ → WG g d ρ fun ρ1 => WS s ρ1 δ fun f ρ2 δ2 => match f with
    | .nx => I ds ρ2 δ2
    | .ct => I ds ρ2 δ2
    | .bk => P .nx ρ2 δ2
    | .rt d => P (.rt d) ρ2 δ2) (h0 : ∀ ρ δ, I [] ρ δ → P .nx ρ δ) : ∀ (ds : List D) (ρ : List Sl) (δ : Dk), I ds ρ δ → WS (forL g s ds) ρ δ P
  | [], ρ, δ, h => ⟨_, _, _, rfl, h0 _ _ h⟩
  | d :: ds, ρ, δ, h => by
    obtain ⟨ρ1, e1, f, ρ2, δ2, e2, p⟩ := hs d ds ρ δ h
    unfold WS forL
    rw [e1]; simp only [Option.bind_some]; rw [e2]; simp only [Option.bind_some]
    cases f with
    | nx => exact ws_forI I hs h0 ds ρ2 δ2 p
    | ct => exact ws_forI I hs h0 ds ρ2 δ2 p
    | bk => exact ⟨_, _, _, rfl, p⟩
    | rt d => exact ⟨_, _, _, rfl, p⟩
/-- a comprehension by an invariant: what is left, what is out, the deck -/
theorem wc_inv {g tt te} {ρ : List Sl} {P : List D → Dk → Prop} (I : List D → List D → Dk → Prop) (hs : ∀ d ds out δ, I (d :: ds) out δ → WG g d ρ fun ρ2 => WT tt ρ2 δ fun b δ1 => if b = true then WE te ρ2 δ1 fun y δ2 => I ds (out ++ [y]) δ2 else I ds out δ1)
    (h0 : ∀ out δ, I [] out δ → P out δ) : ∀ (ds out : List D) (δ : Dk), I ds out δ → WC g tt te ρ ds δ fun r δ' => P (out ++ r) δ'
  | [], out, δ, h => ⟨_, _, rfl, by dsimp only; rw [List.append_nil]; exact h0 _ _ h⟩
  | d :: ds, out, δ, h => by
    refine wc_cons.mpr ?_
    obtain ⟨ρ2, e1, b, δ1, e2, p⟩ := hs d ds out δ h
    refine ⟨ρ2, e1, b, δ1, e2, ?_⟩
    split at p
    · rw [if_pos (by assumption)]
      obtain ⟨y, δ2, e3, p⟩ := p
      obtain ⟨r, δ3, e4, p4⟩ := wc_inv I hs h0 ds (out ++ [y]) δ2 p
      exact ⟨y, δ2, e3, r, δ3, e4, by rw [List.append_assoc] at p4; exact p4⟩
    · rw [if_neg (by assumption)]
      exact wc_inv I hs h0 ds out δ1 p
/-- a comprehension without ifs that draws -/
theorem wc_draw {g te} {ρ : List Sl} {P : List D → Dk → Prop} (I : Nat → Dk → Prop) (R : D → Prop) (ds : List D) {δ : Dk} (h0 : I 0 δ) (hs : ∀ d ∈ ds, ∀ k δ, k < ds.length → I k δ → WG g d ρ fun ρ2 => WE te ρ2 δ fun y δ2 => R y ∧ I (k + 1) δ2)
    (hp : ∀ out δ, out.length = ds.length → (∀ y ∈ out, R y) → I ds.length δ → P out δ) : WC g mYes te ρ ds δ P := by
  have := wc_inv (g := g) (tt := mYes) (te := te) (ρ := ρ) (P := P) (fun left out δ => (∃ done, done ++ left = ds ∧ done.length = out.length) ∧ (∀ y ∈ out, R y) ∧ I out.length δ) (fun d left out δ h => ?_) (fun out δ h => ?_) ds [] δ ⟨⟨[], rfl, rfl⟩, fun y hy => by simp at hy, h0⟩
  · simpa using this
  · obtain ⟨⟨done, e, hl⟩, hr, hi⟩ := h
    obtain ⟨ρ2, e1, y, δ2, e2, r, i2⟩ := hs d (by rw [← e]; simp) out.length δ (by rw [← e]; simp; omega) hi
    refine ⟨ρ2, e1, true, δ, rfl, ?_⟩
    dsimp only
    rw [if_pos rfl]
    refine ⟨y, δ2, e2, ⟨done ++ [d], by simp [← e], by simp [hl]⟩, fun z hz => ?_, by simpa using i2⟩
    rcases List.mem_append.mp hz with hz | hz
    · exact hr z hz
    · simp at hz; rw [hz]; exact r
  · obtain ⟨⟨done, e, hl⟩, hr, hi⟩ := h
    have : out.length = ds.length := by rw [← hl, ← e]; simp
    exact hp out δ this hr (by rw [← this]; exact hi)
/-- a comprehension that neither draws nor stops -/
theorem wc_map {α : Type} {g te} {ρ : List Sl} {P : List D → Dk → Prop} (enc f : α → D) (xs : List α) (hs : ∀ x ∈ xs, WG g (enc x) ρ fun ρ2 => WE te ρ2 δ fun y δ2 => y = f x ∧ δ2 = δ) (hp : P (xs.map f) δ) : WC g mYes te ρ (xs.map enc) δ P :=
  ⟨_, _, compL_map enc f xs fun x hx => by obtain ⟨ρ2, e1, y, δ2, e2, rfl, rfl⟩ := hs x hx; exact ⟨ρ2, e1, e2⟩, hp⟩
theorem wc_filter {α : Type} {g tt te} {ρ : List Sl} {P : List D → Dk → Prop} (enc : α → D) (p : α → Bool) (f : α → D) (xs : List α) (hs : ∀ x ∈ xs, WG g (enc x) ρ fun ρ2 => WT tt ρ2 δ fun b δ1 => (b = p x ∧ δ1 = δ) ∧ (p x = true → WE te ρ2 δ fun y δ2 => y = f x ∧ δ2 = δ)) (hp : P ((xs.filter p).map f) δ) : WC g tt te ρ (xs.map enc) δ P :=
  ⟨_, _, compL_filter enc p f xs fun x hx => by
    obtain ⟨ρ2, e1, b, δ1, e2, ⟨rfl, rfl⟩, h⟩ := hs x hx
    refine ⟨ρ2, e1, e2, fun hq => ?_⟩
    obtain ⟨y, δ2, e3, rfl, rfl⟩ := h hq
    exact e3, hp⟩
end
/-- defs -/
def onRt (P : D → Dk → Prop) : Fl → List Sl → Dk → Prop
  | .rt d, _, δ => P d δ
  | .nx, _, δ => P .none δ
  | _, _, _ => False
theorem onRt_rt {P d ρ δ} : onRt P (.rt d) ρ δ = P d δ := rfl
theorem onRt_nx {P ρ δ} : onRt P .nx ρ δ = P .none δ := rfl
theorem w1_fnP {n np : Nat} {s : MS} {ds : List D} {P : D → Prop} (h : WS s (slots n (ds.map .val)) ⟨[], 0, [], none⟩ (onRt fun d _ => P d)) (hl : ds.length = np ∧ np ≤ n := by exact ⟨rfl, by decide⟩) : W1 (fnP n np s ds) P := by
  obtain ⟨f, ρ', δ', e, p⟩ := h
  unfold W1 fnP
  rw [if_pos hl, e]
  cases f with
  | rt d => exact ⟨_, rfl, p⟩
  | nx => exact ⟨_, rfl, p⟩
  | bk => exact p.elim
  | ct => exact p.elim
theorem wk_fnK {n np : Nat} {s : MS} {ds : List D} {δ : Dk} {P : D → Dk → Prop} (h : WS s (slots n (.deck :: ds.map .val)) δ (onRt P)) (hl : ds.length + 1 = np ∧ np ≤ n := by exact ⟨rfl, by decide⟩) : WK (fnK n np s) ds δ P := by
  obtain ⟨f, ρ', δ', e, p⟩ := h
  unfold WK fnK
  rw [if_pos hl, e]
  cases f with
  | rt d => exact ⟨_, _, rfl, p⟩
  | nx => exact ⟨_, _, rfl, p⟩
  | bk => exact p.elim
  | ct => exact p.elim
theorem WS.rt {s ρ δ} {z : D} (h : WS s ρ δ fun f _ _ => f = .rt z) : ∃ ρ' δ', s ρ δ = some (.rt z, ρ', δ') := by
  obtain ⟨f, ρ', δ', e, rfl⟩ := h
  exact ⟨_, _, e⟩
section
variable {P : D → Prop} {i j : Int}
theorem w_add : W1 (addD (.int i) (.int j)) P ↔ P (.int (i + j)) := ⟨fun ⟨_, h, p⟩ => by cases h; exact p, fun p => ⟨_, rfl, p⟩⟩
theorem w_sub : W1 (subD (.int i) (.int j)) P ↔ P (.int (i - j)) := ⟨fun ⟨_, h, p⟩ => by cases h; exact p, fun p => ⟨_, rfl, p⟩⟩
theorem w_lt : W1 (ltD (.int i) (.int j)) P ↔ P (.bool (decide (i < j))) := ⟨fun ⟨_, h, p⟩ => by cases h; exact p, fun p => ⟨_, rfl, p⟩⟩
theorem w_le : W1 (leD (.int i) (.int j)) P ↔ P (.bool (decide (i ≤ j))) := ⟨fun ⟨_, h, p⟩ => by cases h; exact p, fun p => ⟨_, rfl, p⟩⟩
theorem w_gt : W1 (gtD (.int i) (.int j)) P ↔ P (.bool (decide (j < i))) := ⟨fun ⟨_, h, p⟩ => by cases h; exact p, fun p => ⟨_, rfl, p⟩⟩
theorem w_ge : W1 (geD (.int i) (.int j)) P ↔ P (.bool (decide (j ≤ i))) := ⟨fun ⟨_, h, p⟩ => by cases h; exact p, fun p => ⟨_, rfl, p⟩⟩
theorem w_eqI : W1 (eqD (.int i) (.int j)) P ↔ P (.bool (decide (i = j))) := by unfold W1; rw [eqD_int]; simp
theorem neD_int (i j : Int) : neD (.int i) (.int j) = some (.bool (!decide (i = j))) := by
  show some (PyData.bool (!(i == j))) = _
  rw [Bool.eq_iff_iff.mpr (by simp : (i == j) = true ↔ decide (i = j) = true)]
theorem w_neI : W1 (neD (.int i) (.int j)) P ↔ P (.bool (!decide (i = j))) := by unfold W1; rw [neD_int]; simp
theorem w_intB {b : Bool} : W1 (intD [.bool b]) P ↔ P (.int (if b then 1 else 0)) := by
  unfold W1 intD; simp
end
end PD
namespace PD
open PySem PySem.Spec PyProof.Rows L2 TL
local macro_rules | `(tactic| walk_at "wp") => `(tactic| simp only [ws_seq, ws_asg, ws_ret, ws_if, ws_next, ws_uni, ws_app, ws_frz, ws_aug, ws_for, onNx_nx, onNx_rt, onNx_bk, onNx_ct, onRt_rt, onRt_nx, we_var, we_c, we_bin, we_un, we_call, we_callK, wa_nil, wa_cons, we_tup, we_lst, wo_no, wo_some, we_sl, wt_b, wt_tru, wt_and, wt_or, wt_not, we_if, we_and, we_or, we_chain, we_get2, wp_nil, wp_cons, we_disp, wa_items, we_lc, wg_set, wg_tup, wgs_nil, wgs_cons, List.getElem?_cons_zero, List.getElem?_cons_succ, Option.some.injEq, Sl.val.injEq, Sl.uni.injEq, exists_eq_left', exists_eq_left, List.set_cons_zero, List.set_cons_succ, true_and, and_true, List.length_cons, List.length_nil, List.map_cons, List.map_nil, PyData.int.injEq, PyData.bool.injEq, PyData.tuple.injEq, PyData.list.injEq, PyData.str.injEq, w_add, w_sub, w_lt, w_le, w_gt, w_ge, w_eqI, w_neI, w_intB, itemsD, truD, slots, List.cons_append, List.nil_append, Nat.reduceAdd, Nat.reduceSub, List.replicate_succ, List.replicate_zero, ↓reduceIte, Bool.false_eq_true, Bool.not_true, Bool.not_false, decide_true, decide_false, if_true, if_false])
theorem ixN_in {n : Nat} {i : Int} (h0 : 0 ≤ i) (h1 : i < n) : ixN n i = some i.toNat := by
  unfold ixN
  rw [if_pos h0, if_pos h1]
theorem atI_in {α : Type} {xs : List α} {i : Int} (h0 : 0 ≤ i) (h1 : i < xs.length) : ∃ x, atI xs i = some x ∧ xs[i.toNat]? = some x ∧ x ∈ xs := by
  have hl : i.toNat < xs.length := by omega
  refine ⟨xs[i.toNat], ?_, List.getElem?_eq_getElem hl, List.getElem_mem hl⟩
  unfold atI
  rw [ixN_in h0 h1]
  exact List.getElem?_eq_getElem hl
theorem log_ok {many : Int} (h0 : 0 < many) (h1 : many ≤ 10000000000000) : many.natAbs.log2 < 9000 := by
  have h2 : many.natAbs < 2 ^ 64 := Nat.lt_of_le_of_lt (show many.natAbs ≤ 10000000000000 by omega) (by decide)
  exact Nat.lt_of_lt_of_le (PySem.Flt.log2_lt_of (by decide) h2) (by decide)
theorem w_ixL {ds : List D} {i : Int} {P : D → Prop} (h0 : 0 ≤ i) (h1 : i < ds.length) (p : ∀ d ∈ ds, P d) : W1 (subD' (.list ds) (.int i)) P := by
  obtain ⟨x, e, _, hx⟩ := atI_in h0 h1
  exact ⟨x, ix_lst ds i e, p x hx⟩
def ch (c : Nat) : Str := ⟨#[c]⟩
theorem tl_nil : tl (Str.ofString "") = [] := by decide +kernel
theorem tl_ch (c : Nat) : tl (ch c) = [c] := rfl
theorem sizeBig : (1000000 : Nat) ≤ sizeLine := by decide
end PD
namespace PD
open PySem PySem.Spec PyProof.Rows L2 TL
local macro_rules | `(tactic| walk_at "wp") => `(tactic| simp only [ws_seq, ws_asg, ws_ret, ws_if, ws_next, ws_uni, ws_app, ws_frz, ws_aug, ws_for, onNx_nx, onNx_rt, onNx_bk, onNx_ct, onRt_rt, onRt_nx, we_var, we_c, we_bin, we_un, we_call, we_callK, wa_nil, wa_cons, we_tup, we_lst, wo_no, wo_some, we_sl, wt_b, wt_tru, wt_and, wt_or, wt_not, we_if, we_and, we_or, we_chain, we_get2, wp_nil, wp_cons, we_disp, wa_items, we_lc, wg_set, wg_tup, wgs_nil, wgs_cons, List.getElem?_cons_zero, List.getElem?_cons_succ, Option.some.injEq, Sl.val.injEq, Sl.uni.injEq, exists_eq_left', exists_eq_left, List.set_cons_zero, List.set_cons_succ, true_and, and_true, List.length_cons, List.length_nil, List.map_cons, List.map_nil, PyData.int.injEq, PyData.bool.injEq, PyData.tuple.injEq, PyData.list.injEq, PyData.str.injEq, w_add, w_sub, w_lt, w_le, w_gt, w_ge, w_eqI, w_neI, w_intB, itemsD, truD, slots, List.cons_append, List.nil_append, Nat.reduceAdd, Nat.reduceSub, List.replicate_succ, List.replicate_zero, ↓reduceIte, Bool.false_eq_true, Bool.not_true, Bool.not_false, decide_true, decide_false, if_true, if_false])
def F (n least : Nat) : Str := ⟨(List.replicate (least - (numL n).length) 48 ++ numL n).toArray⟩
theorem w_lenS {x : Str} {P : D → Prop} (h : x.length ≤ sizeLine) : W1 (lenD [.str x]) P ↔ P (.int x.length) := by
  unfold W1 lenD
  simp only [if_pos h, Option.some.injEq, exists_eq_left']
end PD
namespace PD
open PySem PySem.Spec PyProof.Rows L2
section
variable {P : Program} {w : World} {K : PySem.W.Frag} {mg : Str → Option Value} {base : Heap}
theorem okPD {x qual : Str} {st : Stmt} {f : Addr} {fd : FuncData} {N ps : List Str} {k : Nat} {s : MS} {dvs : List V} (F : FunD K x qual (defArgs st) (defBody st) (defScope st) dvs [] f fd) (S : FnScope N ps (defScope st)) (hn : ps.length ≤ N.length)
    (hb : ∀ (cdv : Value) (A : Around) (outer : List Env) (s0 : Shared) (H : Hp) (E : XK), Room k (A.deeper (envOfC qual (defScope st) s0.heap.objs.size f cdv)) → PDSs (cxOf CX0 P w K mg base N qual (defScope st) f cdv A outer s0 H E).nox (defBody st) s) :
    FnOk P w K mg base CX0 (k + 1) f fd ps (spP K (fnP N.length ps.length s)) := by
  refine F.ok S (fun vs H Q E h => ?_) (fun cdv A outer s0 H vs Q E hr h => ?_)
  · obtain ⟨M, ds, r, hM, R, hm, q⟩ := h
    unfold fnP at hm
    split at hm
    · rename_i hz; rw [R.length]; exact hz.1
    · cases hm
  · obtain ⟨M, ds, r, hM, R, hm, q⟩ := h
    unfold fnP at hm
    split at hm
    · rename_i hz
      obtain ⟨t, p1, s1⟩ := (hb cdv A outer s0 H E hr).ex
      refine ⟨t, p1.nox, ?_⟩
      obtain ⟨⟨r', δ'⟩, e1, e2⟩ := Option.map_eq_some_iff.mp hm
      cases e2
      generalize hres : s (slots N.length (ds.map Sl.val)) ⟨[], 0, [], none⟩ = res at e1
      have nun : ∀ (i : Nat) es, (slots N.length (ds.map Sl.val))[i]? ≠ some (.own es) := fun i es h => by
        rcases slots_get h with h | h
        · rw [List.getElem?_map] at h
          obtain ⟨d, _, h⟩ := Option.map_eq_some_iff.mp h
          cases h
        · cases h
      let Fr0 : Fr := ⟨M, none, H, 0, fun _ _ _ => False⟩
      have eM : Mm Fr0 (start N vs) (slots N.length (ds.map Sl.val)) = M := by
        funext a
        refine propext ⟨fun z => ?_, .inl⟩
        rcases z with z | ⟨i, es, f1, _⟩
        · exact z
        · exact (nun i es f1).elim
      have G : Good K Fr0 (start N vs) H (slots N.length (ds.map Sl.val)) ⟨[], 0, [], none⟩ := by
        refine ⟨?_, fun i d h => ?_, fun i es h => (nun i es h).elim, fun i j es _ _ h => (nun i es h).elim, hM, fun i h => ?_, fun p h => (nomatch h), fun _ _ e _ => e⟩
        · unfold L2.start slots
          simp only [List.length_append, List.length_map, List.length_replicate, R.length]
        · rw [eM]
          rcases slots_get h with h | h
          · rw [List.getElem?_map] at h
            obtain ⟨d', h1, h2⟩ := Option.map_eq_some_iff.mp h
            cases h2
            obtain ⟨v, g1, g2⟩ := R.get' h1
            exact ⟨v, start_get g1, g2⟩
          · cases h
        · rcases slots_get h with h | h
          · rw [List.getElem?_map] at h
            obtain ⟨d', h1, h2⟩ := Option.map_eq_some_iff.mp h
            cases h2
          · cases h
      cases res with
      | none => cases e1
      | some p =>
        obtain ⟨fl, ρ1, δ1⟩ := p
        refine s1 Fr0 (start N vs) H _ ⟨[], 0, [], none⟩ fl ρ1 δ1 G hres _ fun σ' H' G' M' => ?_
        have an : Mv (Mm Fr0 σ' ρ1) H' M H' := fun a o e n => ⟨e, fun z => n (.inl z)⟩
        have kp : ∀ a o, H a = some o → H' a = some o := fun a o e => G'.fr a o e fun p h => nomatch h
        cases fl with
        | nx => cases e1; exact q _ _ kp .non
        | rt d => cases e1; exact fun v R1 => q _ _ kp (R1.mv an)
        | bk => cases e1
        | ct => cases e1
    · cases hm
end
end PD
namespace PD
open PySem PySem.Spec PyProof.Rows L2
abbrev Es := List (Key × D)
structure SideD (K : PySem.W.Frag) (F : Fr) (A : Addr) (r : Nat) (σ : L2.St) (H : Hp) (ρ : List Sl) (es : Es) : Prop where
  sl : σ[r]? = some (some (.ref A))
  ro : ρ[r]? = some .no
  ob : ∃ kvs, H A = some (.dK kvs) ∧ RepD K (Mm (F.plus A) σ ρ) H kvs es
structure EnvD (F : Fr) (A : Addr) : Prop where
  n0 : F.H0 A = none
  nd : ∀ p, F.dk = some p → A ≠ p.1 ∧ A ≠ p.2 ∧ A ≠ p.3
  nm : ¬ F.M0 A
theorem SideD.heap {K F A r σ H H' ρ es} (s : SideD K F A r σ H ρ es) (hA : ∀ o, H A = some o → H' A = some o) (mv : Mv (Mm (F.plus A) σ ρ) H (Mm (F.plus A) σ ρ) H') : SideD K F A r σ H' ρ es := by
  obtain ⟨kvs, h1, h2⟩ := s.ob
  exact ⟨s.sl, s.ro, kvs, hA _ h1, h2.mv mv⟩
section
variable {X : Cx} {e : Expr} {ma : ME} {pos : Pos}
theorem Good.drop {K F σ H ρ δ A} (E : EnvD F A) (G : Good K (F.plus A) σ H ρ δ) : Good K F σ H ρ δ ∧ Mv (Mm (F.plus A) σ ρ) H (Mm F σ ρ) H := by
  have an : Mv (Mm (F.plus A) σ ρ) H (Mm F σ ρ) H := fun a o e n => ⟨e, fun z => n (by rw [Mm_plus]; exact .inl z)⟩
  refine ⟨⟨G.len, fun i d e => ?_, fun i ds e => ?_, G.inj, fun a ha => G.m0 a (.inl ha), fun {k} i e => (G.dsl i e).mo rfl (fun a u t e1 n1 => ⟨e1, fun z => n1 (.inl z)⟩) (Nat.le_refl _), fun p e => ?_, G.fr⟩, an⟩
  · obtain ⟨v, e1, r⟩ := G.val i d e
    exact ⟨v, e1, r.mv an⟩
  · obtain ⟨a, xs, e1, e2, r, n⟩ := G.own i ds e
    exact ⟨a, xs, e1, e2, r.mv an, fun z => n.1 (.inl z), n.2⟩
  · obtain ⟨d1, d2, d4, d3⟩ := G.dck p e
    obtain ⟨n1, n2, n3⟩ := E.nd p e
    exact ⟨d1.resolve_right fun z => n1 z.symm, d2.resolve_right fun z => n2 z.symm, d4.resolve_right fun z => n3 z.symm, d3⟩
end
end PD
namespace PD
open PySem PySem.Spec PyProof.Rows L2
end PD
namespace PD
open PySem PySem.Spec PyProof.Rows L2
section
variable {P : Program} {ω : World} {A : Around} {R : Result → Shared → Prop} {s : Shared} {kx vx : Expr} {gs : List Comprehension} {sc : Scope} {ps : Pos} {k : Nat} {t0 i0 t1 i1 : Expr} {ff0 ff1 : List Expr} {it : Value} {D : Addr} {ε : Env}
theorem loopND_out (h0 : gs[k]? = some ⟨t0, i0, ff0, 0⟩) (h1 : gs[k + 1]? = some ⟨t1, i1, ff1, 0⟩) (hs : ∀ x, foldedSetIterable i1 ε x = pure x) (I : Nat → Shared → Prop)
    (turn : ∀ n s, I n s → wpAny (model P ω) A (pyNext it) (fun r s₁ => match r with
      | none => R (.ok .next) s₁
      | some v => wpAny (model P ω) A (letOwnedTupleGo t0 it v) (fun _ s₁' => wpAny (model P ω) A (assign t0 ε v) (fun _ s₂ =>
          wpAny (model P ω) A (tests ff0 ε) (fun ok s₃ =>
            if ok = true then wpAny (model P ω) A (eval i1 ε) (fun x s₄ => wpAny (model P ω) A (pyIter x) (fun it1 s₅ =>
              codeAny (model P ω) A (.compStart (.DictComp kx vx gs sc ps) (k + 1) it1 (.ref D) ε) (fun r s' => match r with
                | .ok _ => ∃ m, m < n ∧ I m s'
                | .error _ => False) s₅) (fun _ _ => False) s₄) (fun _ _ => False) s₃
            else ∃ m, m < n ∧ I m s₃) (fun _ _ => False) s₂) (fun _ _ => False) s₁') (fun _ _ => False) s₁) (fun _ _ => False) s)
    (n : Nat) (h : I n s) : codeAny (model P ω) A (.compLoop (.DictComp kx vx gs sc ps) k it (.ref D) ε) R s := by
  refine codeAny_loop rfl I (fun nn sh hIn => ?_) n h
  show wpAny _ A ((compTurn (.DictComp kx vx gs sc ps) k it (.ref D) ε).onRaise (fun x => do noteFrame x ε; theTreesLotGoes x)) _ _ sh
  refine wpAny_noted ?_
  unfold compTurn
  simp only [h0, h1]
  refine wpAny_bind (wpAny_standAt (wpAny_bind (thnF (turn nn sh hIn) fun r s₁ z₁ => ?_)))
  cases r with
  | none => exact wpAny_pure z₁
  | some v =>
    refine wpAny_bind (thnF z₁ fun _ s₁' z₁' => ?_)
    refine wpAny_bind (thnF z₁' fun _ s₂ z₂ => wpAny_bind (thnF z₂ fun ok s₃ z₃ => ?_))
    cases ok with
    | false => exact wpAny_pure ⟨rfl, z₃⟩
    | true =>
      refine wpAny_bind (thnF z₃ fun x s₄ z₄ => ?_)
      refine wpAny_bind (wpAny_standAt (wpAny_bind (wpAny_of_eq (hs x) (wpAny_bind (wpAny_holding (thnF z₄ fun it1 s₅ z₅ => ?_))))))
      refine wpAny_bind (wpAny_runOwn ?_)
      rw [Around.mark_none]
      refine codeAny_mono z₅ fun r s' hrr => ?_
      cases r with
      | ok f =>
        first
          | exact wpAny_pure ⟨rfl, hrr⟩
          | exact wpAny_bind (wpAny_pure (wpAny_pure ⟨rfl, hrr⟩))
      | error e => exact hrr.elim
theorem loopND_in (h0 : gs[k]? = some ⟨t0, i0, ff0, 0⟩) (h1 : gs[k + 1]? = none) (I : Nat → Shared → Prop)
    (turn : ∀ n s, I n s → wpAny (model P ω) A (pyNext it) (fun r s₁ => match r with
      | none => R (.ok .next) s₁
      | some v => wpAny (model P ω) A (letOwnedTupleGo t0 it v) (fun _ s₁' => wpAny (model P ω) A (assign t0 ε v) (fun _ s₂ =>
          wpAny (model P ω) A (tests ff0 ε) (fun ok s₃ =>
            if ok = true then wpAny (model P ω) A (eval kx ε) (fun kv s₄ => wpAny (model P ω) A (eval vx ε) (fun vv s₅ =>
              wpAny (model P ω) A (dictSet D kv vv) (fun _ s₆ => ∃ m, m < n ∧ I m s₆) (fun _ _ => False) s₅) (fun _ _ => False) s₄) (fun _ _ => False) s₃
            else ∃ m, m < n ∧ I m s₃) (fun _ _ => False) s₂) (fun _ _ => False) s₁') (fun _ _ => False) s₁) (fun _ _ => False) s)
    (n : Nat) (h : I n s) : codeAny (model P ω) A (.compLoop (.DictComp kx vx gs sc ps) k it (.ref D) ε) R s := by
  refine codeAny_loop rfl I (fun nn sh hIn => ?_) n h
  show wpAny _ A ((compTurn (.DictComp kx vx gs sc ps) k it (.ref D) ε).onRaise (fun x => do noteFrame x ε; theTreesLotGoes x)) _ _ sh
  refine wpAny_noted ?_
  unfold compTurn
  simp only [h0, h1]
  refine wpAny_bind (wpAny_standAt (wpAny_bind (thnF (turn nn sh hIn) fun r s₁ z₁ => ?_)))
  cases r with
  | none => exact wpAny_pure z₁
  | some v =>
    refine wpAny_bind (thnF z₁ fun _ s₁' z₁' => ?_)
    refine wpAny_bind (thnF z₁' fun _ s₂ z₂ => wpAny_bind (thnF z₂ fun ok s₃ z₃ => ?_))
    cases ok with
    | false => exact wpAny_pure ⟨rfl, z₃⟩
    | true =>
      first
        | exact wpAny_bind (wpAny_bind (thnF z₃ fun kv s₄ z₄ => wpAny_bind (wpAny_holding (thnF z₄ fun vv s₅ z₅ => wpAny_bind (wpAny_standAt (wpAny_holding (thnF z₅ fun _ s₆ z₆ => wpAny_pure ⟨rfl, z₆⟩)))))))
        | exact wpAny_bind (wpAny_bind (thnF z₃ fun kv s₄ z₄ => wpAny_bind (wpAny_holding (thnF z₄ fun vv s₅ z₅ => wpAny_bind (wpAny_standAt (wpAny_holding (thnF z₅ fun _ s₆ z₆ => wpAny_pure (wpAny_pure ⟨rfl, z₆⟩))))))))
theorem startND (h0 : gs[k]? = some ⟨t0, i0, ff0, 0⟩) (hl : codeAny (model P ω) A (.compLoop (.DictComp kx vx gs sc ps) k it (.ref D) ε) R s)
    (hi : wpAny (model P ω) A (pyIter it) (fun j s' => codeAny (model P ω) A (.compLoop (.DictComp kx vx gs sc ps) k j (.ref D) ε) R s') (fun _ _ => False) s) :
    codeAny (model P ω) A (.compStart (.DictComp kx vx gs sc ps) k it (.ref D) ε) R s := by
  refine codeAny_of_tree ?_
  show wpAny _ _ ((compStart (.DictComp kx vx gs sc ps) k it (.ref D) ε).onRaise (fun x => do noteFrame x ε; standAt theWindowsPlace)) _ _ s
  refine wpAny_notedAt ?_
  unfold compStart
  have hc : (clausesOf (.DictComp kx vx gs sc ps))[k]? = some ⟨t0, i0, ff0, 0⟩ := h0
  simp only [hc]
  show wpAny _ _ (ask >>= _) _ _ s
  refine wpAny_bind (wpAny_askSetting (wpAny_ite ?_))
  split
  · first
      | exact wpAny_bind (wpAny_pure (wpAny_pure ⟨rfl, hl⟩))
      | exact wpAny_pure ⟨rfl, hl⟩
  · refine wpAny_bind (wpAny_rule ?_)
    exact wpAny_bind (wpAny_standAt (wpAny_bind (thnF hi fun j s' z => wpAny_pure ⟨rfl, z⟩)))
end
def tInD (D : Addr) (tk tv : TE) : List Cl → L2.St → Hp → (Hp → Prop) → Prop
  | [], σ, H, Nx => tk σ H fun y Hh4 => tv σ Hh4 fun z Hh5 => ∃ kvs k, y = kV k ∧ Hh5 D = some (.dK kvs) ∧ kvs.length < sizeLine ∧ Nx (upd Hh5 D (.dK (putK kvs k z)))
  | c :: cs, σ, H, Nx => c.wi σ H fun J Hh4 => tLoop (tInD D tk tv cs) J c.g c.tt c.vs σ Hh4 Nx
def tDcN (wi : TI) (g : TG) (tt : TT) (vs : List Nat) (cs : List Cl) (tk tv : TE) : TE := fun σ H Q => wi σ H fun J Hh1 => ∀ D, Hh1 D = none → tLoop (tInD D tk tv cs) J g tt vs σ (upd Hh1 D (.dK [])) (Q (.ref D))
section
variable {X : Cx} {kx vx : Expr} {gs : List Comprehension} {sc : Scope} {ps : Pos} {D : Addr} {tk tv : TE}
theorem loop_okD (hc : X.calm = true) (hx : X.xe = fun _ _ => False) (pk : PE X kx tk) (pe : PE X vx tv) : ∀ (cs : List Cl) (k : Nat) (gl : List Comprehension) (tg iter : Expr) (ifs : List Expr) (g : TG) (tt : TT) (vs : List Nat), gs.drop k = ⟨tg, iter, ifs, 0⟩ :: gl → ClsOk X vs gl cs → PG X tg g → PTs X ifs tt →
    ∀ (pins : List (Addr × Obj)) (J : It) (fp : List Addr) (it : Addr) (tn : Nat → Heap → Prop), Turn X.prog X.w X.K tg J fp it tn → ∀ (s : Shared) (σ : L2.St) (H : Hp) (Nx : Hp → Prop) (R : Result → Shared → Prop), Inv X pins σ H s → tn 0 s.heap → (∀ b ∈ fp, FpOk X pins H b) →
    tLoop (tInD D tk tv cs) J g tt vs σ H Nx → (∀ s' H', Inv X pins (L2.wipe σ vs) H' s' → Nx H' → R (.ok .next) s') → codeAny (model X.prog X.w) X.A (.compLoop (.DictComp kx vx gs sc ps) k (.ref it) (.ref D) X.env) R s := by
  intro cs
  induction cs with
  | nil => ?_
  | cons c cs ih => ?_
  all_goals
    intro k gl tg iter ifs g tt vs hd hcl pg pt pins J fp it tn T s σ H Nx R Iv0 stt0 hf h hR
    obtain ⟨hk, hd1⟩ := drop_at hd
    obtain ⟨W, ⟨m0, ww0⟩, turn⟩ := h
    have stat : ∀ {H' : Hp}, (∀ b ∈ fp, H' b = none) → ∀ b ∈ fp, FpOk X pins H' b := fun hNs b hb => ⟨hNs b hb, (hf b hb).2⟩
    have fin : ∀ (n i : Nat) (sh7 : Shared) (Ny : Hp → Prop), (∀ H', Ny H' → ∃ m', m' < n ∧ W (i + 1) m' H') → tn (i + 1) sh7.heap → ∀ {τ : L2.St} {s' : Shared} {H' : Hp}, Inv X (pins ++ pinsAt fp sh7.heap) τ H' s' → (L2.wipe σ vs).length = τ.length → (∀ (j : Nat) v, (L2.wipe σ vs)[j]? = some (some v) → τ[j]? = some (some v)) → Ny H' →
        ∃ m, m < n ∧ ∃ i H', Inv X pins (L2.wipe σ vs) H' s' ∧ tn i s'.heap ∧ (∀ b ∈ fp, H' b = none) ∧ W i m H' := fun n i sh7 Ny hNy stt7 {τ s' H'} I' hl hkn ny => by
      obtain ⟨m', hm, w'⟩ := hNy H' ny
      have pinAt : ∀ b ∈ fp, ∀ o, sh7.heap.get? b = some o → s'.heap.get? b = some o ∧ H' b = none := fun b hb o e =>
        have z := I'.pin (b, o) (List.mem_append_right _ (List.mem_append_right _ (mem_pinsAt hb e)))
        ⟨z.1, z.2.1⟩
      refine ⟨m', hm, i + 1, H', (I'.unpinned).weak hl hkn, T.keep _ _ _ stt7 fun b hb o e => (pinAt b hb o e).1, fun b hb => ?_, w'⟩
      obtain ⟨o, e, _⟩ := T.obj _ _ stt7 b hb
      exact (pinAt b hb o e).2
    have Iv1 : Inv X pins (L2.wipe σ vs) H s := Iv0.weak (L2.wipe_length _ _) fun j v e => (L2.wipe_some e).1
  · cases hcl
    refine loopND_in hk (drop_nil hd1) (fun n s' => ∃ i H', Inv X pins (L2.wipe σ vs) H' s' ∧ tn i s'.heap ∧ (∀ b ∈ fp, H' b = none) ∧ W i n H') ?_ m0 ⟨0, H, Iv1, stt0, fun b hb => (hf b hb).1, ww0⟩
    rintro n sh5 ⟨i, Hh5, Iv5, stt5, nn5, ww5⟩
    rcases turn i n Hh5 ww5 with ⟨stop, nx⟩ | ⟨go, Ny, hNy, step⟩
    · refine thnF (T.done X rfl rfl rfl hc i pins sh5 _ Hh5 (fun _ _ => False) Iv5 (stat nn5) stt5 stop) fun r sh6 ⟨hrr, Iv6⟩ => ?_
      subst hrr
      exact hR sh6 Hh5 Iv6 nx
    · refine thnF (T.item X rfl rfl rfl hc i pins sh5 _ Hh5 (fun _ _ => False) Iv5 (stat nn5) stt5 go) fun r sh6 ⟨u, hrr, hh6⟩ => ?_
      subst hrr
      refine thnF hh6 fun _ sh7 ⟨x, Hh7, Iv7, r7, y7, stt7, nn7⟩ => ?_
      have p1 := pg.run _ sh7 _ Hh7 x u _ (Iv7.pinned (stat nn7) (T.obj _ _ stt7)) r7 (step x Hh7 y7)
      rw [hx] at p1
      refine thnF p1 fun _ sh8 ⟨τ, Hh8, Iv8, hw8, qq8⟩ => ?_
      have p2 := pt.run _ sh8 τ Hh8 _ Iv8 qq8
      rw [hx] at p2
      refine thnF p2 fun b sh9 ⟨Hh9, Iv9, qq9⟩ => ?_
      have hl8 : (L2.wipe σ vs).length = τ.length := by rw [← hw8, L2.wipe_length]
      have hk8 : ∀ (j : Nat) v, (L2.wipe σ vs)[j]? = some (some v) → τ[j]? = some (some v) := fun j v e => by
        rw [← hw8] at e
        exact (L2.wipe_some e).1
      cases b with
      | false =>
        simp only [Bool.false_eq_true, if_false] at qq9 ⊢
        exact fin n i sh7 Ny hNy stt7 Iv9 hl8 hk8 qq9
      | true =>
        simp only [if_true] at qq9 ⊢
        have p3 := pk.run _ sh9 τ Hh9 _ Iv9 qq9
        rw [hx] at p3
        refine thnF p3 fun z sh17 ⟨yk, Hh17, Iv17, r17, q17⟩ => ?_
        have p4 := pe.run _ sh17 τ Hh17 _ Iv17 q17
        rw [hx] at p4
        refine thnF p4 fun z2 sh18 ⟨yv, Hh18, Iv18, r18, kvs, kk, ek, hD18, hz18, ny⟩ => ?_
        subst ek
        exact d_dictSet Iv18 hD18 hz18 r17 r18 fun sh19 Iv19 => fin n i sh7 Ny hNy stt7 Iv19 hl8 hk8 ny
  · cases hcl with
    | @cons _ tg1 iter1 ifs1 gl1 _ _ hv pi1 pg1 pt1 hs1 hcl1 =>
      refine loopND_out hk (drop_at hd1).1 hs1 (fun n s' => ∃ i H', Inv X pins (L2.wipe σ vs) H' s' ∧ tn i s'.heap ∧ (∀ b ∈ fp, H' b = none) ∧ W i n H') ?_ m0 ⟨0, H, Iv1, stt0, fun b hb => (hf b hb).1, ww0⟩
      rintro n sh5 ⟨i, Hh5, Iv5, stt5, nn5, ww5⟩
      rcases turn i n Hh5 ww5 with ⟨stop, nx⟩ | ⟨go, Ny, hNy, step⟩
      · refine thnF (T.done X rfl rfl rfl hc i pins sh5 _ Hh5 (fun _ _ => False) Iv5 (stat nn5) stt5 stop) fun r sh6 ⟨hrr, Iv6⟩ => ?_
        subst hrr
        exact hR sh6 Hh5 Iv6 nx
      · refine thnF (T.item X rfl rfl rfl hc i pins sh5 _ Hh5 (fun _ _ => False) Iv5 (stat nn5) stt5 go) fun r sh6 ⟨u, hrr, hh6⟩ => ?_
        subst hrr
        refine thnF hh6 fun _ sh7 ⟨x, Hh7, Iv7, r7, y7, stt7, nn7⟩ => ?_
        have p1 := pg.run _ sh7 _ Hh7 x u _ (Iv7.pinned (stat nn7) (T.obj _ _ stt7)) r7 (step x Hh7 y7)
        rw [hx] at p1
        refine thnF p1 fun _ sh8 ⟨τ, Hh8, Iv8, hw8, qq8⟩ => ?_
        have p2 := pt.run _ sh8 τ Hh8 _ Iv8 qq8
        rw [hx] at p2
        refine thnF p2 fun b sh9 ⟨Hh9, Iv9, qq9⟩ => ?_
        have hl8 : (L2.wipe σ vs).length = τ.length := by rw [← hw8, L2.wipe_length]
        have hk8 : ∀ (j : Nat) v, (L2.wipe σ vs)[j]? = some (some v) → τ[j]? = some (some v) := fun j v e => by
          rw [← hw8] at e
          exact (L2.wipe_some e).1
        cases b with
        | false =>
          simp only [Bool.false_eq_true, if_false] at qq9 ⊢
          exact fin n i sh7 Ny hNy stt7 Iv9 hl8 hk8 qq9
        | true =>
          simp only [if_true] at qq9 ⊢
          have p3 := pi1.run _ sh9 τ Hh9 _ Iv9 qq9
          rw [hx] at p3
          refine thnF p3 fun xv sh10 hxv => thnF hxv fun itv sh11 h11 => ?_
          obtain ⟨it1, fp1, tn1, J1, Hh11, e1, Iv11, T1, stt11, f11, lp⟩ := h11
          subst e1
          have loop1 := ih (k + 1) gl1 tg1 iter1 ifs1 c.g c.tt c.vs hd1 hcl1 pg1 pt1 (pins ++ pinsAt fp sh7.heap) J1 fp1 it1 tn1 T1 sh11 τ Hh11 Ny
            (fun r s' => match r with
              | .ok _ => ∃ m, m < n ∧ ∃ i H', Inv X pins (L2.wipe σ vs) H' s' ∧ tn i s'.heap ∧ (∀ b ∈ fp, H' b = none) ∧ W i m H'
              | .error _ => False) Iv11 stt11 f11 lp fun s' H' I' ny => fin n i sh7 Ny hNy stt7 I' (hl8.trans (L2.wipe_length τ c.vs).symm) (fun j v e => by
                rw [← hw8] at e
                obtain ⟨e1, e2⟩ := L2.wipe_some e
                rw [L2.wipe_out fun z => e2 (hv j z)]
                exact e1) ny
          exact startND (drop_at hd1).1 loop1 (T1.self X.A 0 _ _ _ stt11 loop1)
end
section
variable {X : Cx} {kx vx tg iter : Expr} {ifs : List Expr} {gl : List Comprehension} {sc : Scope} {own : List (Str × Nat)} {ps : Pos} {wi : TI} {g : TG} {tt : TT} {tk tv : TE} {cs : List Cl}
theorem dcN_core {pins : List (Addr × Obj)} {s : Shared} {σ : L2.St} {H : Hp} {Q : VK} {ps' : Pos} {use : Option (Value → Sem Unit)} {Qf : Value → Shared → Prop} (hc : X.calm = true) (hN : X.N.Nodup) (I : Inv X pins σ H s) (hi : PI X tg iter wi) (ok : BlkOk X.N X.env.scope sc own)
    (hg : AllBlk X sc fun Y => PG Y tg g) (ht : AllBlk X sc fun Y => PTs Y ifs tt) (hk : AllBlk X sc fun Y => PE Y kx tk) (he : AllBlk X sc fun Y => PE Y vx tv) (hcl : AllBlk X sc fun Y => ClsOk Y (own.map (·.2)) gl cs) (hs : ∀ x, foldedSetIterable iter X.env x = pure x)
    (h : tDcN wi g tt (own.map (·.2)) cs tk tv σ H Q)
    (hEnd : ∀ D C s' m H', Inv X pins σ H' s' → Q (.ref D) H' → s'.heap.Ns C m → FpOk X pins H' C → compPost (model X.prog X.w) X.A X.xe use Qf (.ref D) C (.ok .next) s') :
    wpAny (model X.prog X.w) X.A (comprehension (.DictComp kx vx (⟨tg, iter, ifs, 0⟩ :: gl) sc ps) sc X.env ps' newDict false (eval iter X.env) use) Qf X.xe s := by
  have hfree : ∀ y ∈ sc.names, y.2 = .free → ∃ c, X.env.cells.lookup y.1 = some c := fun y hy e =>
    (ok.free y hy e).elim (fun k => I.ok.has _ (.inl k)) (fun k => I.ok.has _ (.inr k))
  refine wpAny_comprehension_free (use := use) rfl hs (closure_ok hfree) ok.kind (fun y hy e => by rw [ok.uniq y hy, e]) (thn (hi.run pins s σ H _ I h) fun xv sh1 hxx => thn hxx fun itv sh2 h2 => ?_)
  obtain ⟨it, fp, tn, J, Hh2, e, Iv2, T, stt2, ff2, q⟩ := h2
  subst e
  refine wpAny_newObj_type (newEnv_comp ?_)
  generalize eqD : sh2.heap.objs.size = D
  have eqDn : Hh2 D = none := Iv2.hok.fresh (Nat.le_of_eq eqD)
  have lp := q D eqDn
  generalize hs3 : ({ sh2 with heap := sh2.heap.push { cls := .type "dict", data := .dict #[] } } : Shared) = sh3
  have h3 : sh3.heap = sh2.heap.push { cls := .type "dict", data := .dict #[] } := by subst hs3; rfl
  have Iv3 : Inv X pins σ (upd Hh2 D (.dK [])) sh3 := by
    subst hs3
    refine Iv2.laid (t' := sh2.toks) (fun b o e => Heap.get?_push_of_some _ e) (Nat.le_of_eq eqD) ?_
    subst eqD
    exact dk_empty sh2.heap Iv2.big
  have sz : ∀ b ∈ fp, b < sh2.heap.objs.size := fun b hb => (T.obj _ _ stt2 b hb).elim fun o e => Heap.lt_size e.1
  have ff3 : ∀ b ∈ fp, FpOk X pins (upd Hh2 D (.dK [])) b ∧ b < sh3.heap.objs.size := fun b hb =>
    ⟨⟨by rw [upd_ne (by rw [← eqD]; exact Nat.ne_of_lt (sz b hb))]; exact (ff2 b hb).1, (ff2 b hb).2⟩, by rw [h3, Heap.size_push]; exact Nat.lt_succ_of_lt (sz b hb)⟩
  have stt3 : tn 0 sh3.heap := T.keep _ _ _ stt2 fun b _ o e => by rw [h3]; exact Heap.get?_push_of_some _ e
  have Iv4 := block_start Iv3 ok hN ff3
  have pg := hg sh3 (upd Hh2 D (.dK [])) sh3.heap.objs.size (cellsFrom (sh3.heap.objs.size + 1) sc.names (cloFrom X.env.cells sc.names [])) fp
  have pt := ht sh3 (upd Hh2 D (.dK [])) sh3.heap.objs.size (cellsFrom (sh3.heap.objs.size + 1) sc.names (cloFrom X.env.cells sc.names [])) fp
  have pe := he sh3 (upd Hh2 D (.dK [])) sh3.heap.objs.size (cellsFrom (sh3.heap.objs.size + 1) sc.names (cloFrom X.env.cells sc.names [])) fp
  have pk := hk sh3 (upd Hh2 D (.dK [])) sh3.heap.objs.size (cellsFrom (sh3.heap.objs.size + 1) sc.names (cloFrom X.env.cells sc.names [])) fp
  have pc := hcl sh3 (upd Hh2 D (.dK [])) sh3.heap.objs.size (cellsFrom (sh3.heap.objs.size + 1) sc.names (cloFrom X.env.cells sc.names [])) fp
  show codeAny _ _ (.compStart (.DictComp kx vx (⟨tg, iter, ifs, 0⟩ :: gl) sc ps) 0 (.ref it) (.ref D) (compEnvC sc (cellsFrom (sh3.heap.objs.size + 1) sc.names (cloFrom X.env.cells sc.names [])) sh3.heap.objs.size X.env)) (compPost (model X.prog X.w) X.A X.xe use Qf (.ref D) sh3.heap.objs.size) { sh3 with heap := pushCells (sh3.heap.push { cls := .type "dict", data := .dict #[] }) sc.names }
  have noFp : ∀ b ∈ fp, (upd Hh2 D (.dK [])) b = none := fun b hb => (ff3 b hb).1.1
  generalize hce : compEnvC sc (cellsFrom (sh3.heap.objs.size + 1) sc.names (cloFrom X.env.cells sc.names [])) sh3.heap.objs.size X.env = ce at Iv4 pg pt pk pe pc ⊢
  have locC : ce.locals = sh3.heap.objs.size := by subst hce; rfl
  generalize hH3 : upd Hh2 D (.dK []) = Hh3 at Iv3 Iv4 pg pt pk pe pc lp noFp ff3
  generalize hs4 : ({ sh3 with heap := pushCells (sh3.heap.push { cls := .type "dict", data := .dict #[] }) sc.names } : Shared) = sh4 at Iv4 ⊢
  have stt4 : tn 0 sh4.heap := T.keep _ _ _ stt3 fun b _ o e => by subst hs4; exact pushCells_keeps _ _ _ _ (Heap.get?_push_of_some _ e)
  have stat : ∀ b ∈ fp, FpOk (X.blk sh3 Hh3 sc ce fp) [] Hh3 b := fun b hb =>
    ⟨noFp b hb, (Iv4.ok.exf b hb).1, Iv4.ok.exfs b hb, .inl hb, fun x c e => (Iv4.ok.exf b hb).2 x c e, fun p hp => absurd (show p ∈ ([] : List (Addr × Obj)) ++ [] from hp) (by simp)⟩
  have lp' : tLoop (tInD D tk tv cs) J g tt (own.map (·.2)) (L2.wipe σ (own.map (·.2))) Hh3 (Q (.ref D)) := by
    unfold tLoop
    rw [wipe_wipe]
    exact lp
  have loop : codeAny (model X.prog X.w) X.A (.compLoop (.DictComp kx vx (⟨tg, iter, ifs, 0⟩ :: gl) sc ps) 0 (.ref it) (.ref D) ce) (compPost (model X.prog X.w) X.A X.xe use Qf (.ref D) sh3.heap.objs.size) sh4 := by
    refine loop_okD (X := X.blk sh3 Hh3 sc ce fp) hc rfl pk pe cs 0 gl tg iter ifs g tt _ rfl pc pg pt [] J fp it tn T sh4 _ Hh3 _ _ Iv4 stt4 stat lp' fun sh6 Hh5 Iv6 qq => ?_
    have Iv7 : Inv X pins σ Hh5 sh6 := Iv3.call' (ch := fp) Iv6.os Iv6.base Iv6.hok Iv6.bare fun b hb => ⟨(ff3 b hb).1.2.2.2.1, (ff3 b hb).1.2.1, (ff3 b hb).1.2.2.2.2.1, (ff3 b hb).1.2.2.2.2.2⟩
    have nC : Hh5 sh3.heap.objs.size = none := by rw [← locC]; exact Iv6.free
    obtain ⟨m, hNs, _⟩ := Iv6.loc
    have hNs : sh6.heap.Ns ce.locals m := hNs
    rw [locC] at hNs
    exact hEnd D sh3.heap.objs.size sh6 m Hh5 Iv7 qq hNs (Iv3.fpOk (Nat.le_refl _) nC)
  exact codeAny_compStart_dict loop (T.self X.A 0 _ _ _ stt4 loop)
theorem pe_dcN (hc : X.calm = true) (hN : X.N.Nodup) (hi : PI X tg iter wi) (ok : BlkOk X.N X.env.scope sc own) (hg : AllBlk X sc fun Y => PG Y tg g) (ht : AllBlk X sc fun Y => PTs Y ifs tt) (hk : AllBlk X sc fun Y => PE Y kx tk) (he : AllBlk X sc fun Y => PE Y vx tv) (hcl : AllBlk X sc fun Y => ClsOk Y (own.map (·.2)) gl cs) (hs : ∀ x, foldedSetIterable iter X.env x = pure x := by intro _; rfl) :
    PE X (.DictComp kx vx (⟨tg, iter, ifs, 0⟩ :: gl) sc ps) (tDcN wi g tt (own.map (·.2)) cs tk tv) := by
  refine ⟨fun pins s σ H Q I h => ?_⟩
  rw [arm_eval_DictComp]
  refine dcN_core hc hN I hi ok hg ht hk he hcl hs h fun D C s' m H' I' q hNs f => ⟨m, hNs, fun h'' sb => ?_⟩
  obtain ⟨ff0, ff1, ff2, ff3, ff4, ff5⟩ := f
  exact ⟨.ref D, H', I'.turned (t' := s'.toks) (fun b o hb e => (sb.2 b hb).trans e) ff0 ff1 ff3 ff4 ff5, rfl, q⟩
end
end PD
namespace PD
open PySem PySem.Spec PyProof.Rows L2
def putP (es : List (Key × D)) (k : Key) (d : D) : List (Key × D) := if hasK es k = true then es.map (fun e => if e.1 = k then (e.1, d) else e) else es ++ [(k, d)]
theorem putP_len (es : List (Key × D)) (k : Key) (d : D) : (putP es k d).length ≤ es.length + 1 := by
  unfold putP
  split <;> simp
theorem RepD.any {K M H} (k : Key) : ∀ {ps es}, RepD K M H ps es → (ps.any fun kv => decide (kv.1 = k)) = hasK es k
  | _, _, .nil => rfl
  | _, _, .cons (k := k') r t => by
    have := RepD.any k t
    unfold hasK at this ⊢
    rw [List.any_cons, List.any_cons, this]
theorem RepD.rep {K M H v d} (k : Key) (r : Rep K M H v d) : ∀ {ps es}, RepD K M H ps es → RepD K M H (ps.map fun kv => if kv.1 = k then (kv.1, v) else kv) (es.map fun e => if e.1 = k then (e.1, d) else e)
  | _, _, .nil => .nil
  | _, _, .cons (k := k') r' t => by
    rw [List.map_cons, List.map_cons]
    dsimp only
    by_cases h : k' = k
    · rw [if_pos h, if_pos h]
      exact .cons r (RepD.rep k r t)
    · rw [if_neg h, if_neg h]
      exact .cons r' (RepD.rep k r t)
theorem RepD.put {K M H ps es v d} (R : RepD K M H ps es) (k : Key) (r : Rep K M H v d) : RepD K M H (putK ps k v) (putP es k d) := by
  unfold putK putP
  rw [R.any k]
  split
  · exact RepD.rep k r R
  · exact R.app r
def putAll (es out : List (Key × D)) : List (Key × D) := out.foldl (fun es e => putP es e.1 e.2) es
theorem putAll_len (out : List (Key × D)) : ∀ es : List (Key × D), (putAll es out).length ≤ es.length + out.length := by
  induction out with
  | nil => intro es; exact Nat.le_refl _
  | cons e out ih =>
    intro es
    have h1 := ih (putP es e.1 e.2)
    have h2 := putP_len es e.1 e.2
    show (putAll (putP es e.1 e.2) out).length ≤ _
    rw [List.length_cons]
    omega
theorem putAll_app (es a b : List (Key × D)) : putAll es (a ++ b) = putAll (putAll es a) b := List.foldl_append ..
def SndRD (K : PySem.W.Frag) (A : Addr) (rest : L2.St → Hp → (Hp → Prop) → Prop) (mr : MP) : Prop :=
  ∀ F σ H ρ δ out δ' kvs es (Nx : Hp → Prop), Good K F σ H ρ δ → Grows F A → H A = some (.dK kvs) → RepD K (Mm F σ ρ) H kvs es → mr ρ δ = some (out, δ') → es.length + out.length ≤ sizeLine →
    (∀ H' kvs', Good K F σ H' ρ δ' → Mv (Mm F σ ρ) H (Mm F σ ρ) H' → H' A = some (.dK kvs') → RepD K (Mm F σ ρ) H' kvs' (putAll es out) → Nx H') → rest σ H Nx
def kOne (mk mv : ME) : MP := fun ρ δ => (mk ρ δ).bind fun p => (keyOf p.1).bind fun k => (mv ρ p.2).map fun q => ([(k, q.1)], q.2)
def compK (g : MG) (tt : MT) (mr : MP) (ρ : List Sl) : List D → Dk → Option (List (Key × D) × Dk)
  | [], δ => some ([], δ)
  | d :: ds, δ => (g d ρ).bind fun ρ2 => (tt ρ2 δ).bind fun p => if p.1 = true then (mr ρ2 p.2).bind fun q => (compK g tt mr ρ ds q.2).map fun r => (q.1 ++ r.1, r.2) else compK g tt mr ρ ds p.2
def kFor (mi : MA) (vs : List Nat) (g : MG) (tt : MT) (mr : MP) : MP := fun ρ δ => (mi ρ δ).bind fun p => if noU ρ vs = true then compK g tt mr (wipeR ρ vs) p.1 p.2 else none
def mDcN (mr : MP) : ME := fun ρ δ => (mr ρ δ).bind fun q => if q.1.length ≤ sizeLine then some (.dict ((putAll [] q.1).map fun e => (keyD e.1, e.2)), q.2) else none
theorem snd_kOne {K A tk tv mk mv} (hk : Snd K tk mk) (hv : Snd K tv mv) : SndRD K A (tInD A tk tv []) (kOne mk mv) := fun F σ H ρ δ out δ' kvs es Nx G gr hA RD e hz q => by
  obtain ⟨⟨y, δ1⟩, e1, e⟩ := Option.bind_eq_some_iff.mp e
  obtain ⟨k, e2, e⟩ := Option.bind_eq_some_iff.mp e
  obtain ⟨⟨z, δ2⟩, e3, e⟩ := Option.map_eq_some_iff.mp e
  cases e
  refine hk (F.pin A (.dK kvs)) σ H ρ δ y δ1 (G.pin gr.m hA) e1 _ fun v H5 G5 M5 R5 => ?_
  refine hv (F.pin A (.dK kvs)) σ H5 ρ δ1 z δ2 G5 e3 _ fun v2 H6 G6 M6 R6 => ?_
  rw [Mm_pin] at M5 R5 M6 R6
  have ky := keyOf_rep R5 e2
  have hA6 := G6.fr A _ upd_same gr.k
  have RD6 := RD.mv (M5.trans M6)
  obtain ⟨GC, MC⟩ := (Good.unpin gr.z gr.m G6).writeM (o := .dK (putK kvs k v2)) gr.m gr.k gr.z ⟨_, hA6, fun ps z => by cases z⟩
  refine ⟨kvs, k, ky, hA6, ?_, q _ _ GC ((M5.trans M6).trans MC) upd_same ((RD6.put k R6).mv MC)⟩
  rw [RD6.len]
  exact Nat.lt_of_succ_le (by simpa using hz)
theorem snd_loopK {K A rest mr g tt mg mt vs} {sl : List Nat} (hr : SndRD K A rest mr) (hg : SndG K sl g mg) (ht : SndT K tt mt) (hs : ∀ i ∈ sl, i ∈ vs) {F σ H1 ρ δ1 δ2 J kvs es} {ds : List D} {out : List (Key × D)} {Nx : Hp → Prop} (hu : noU ρ vs = true)
    (e2 : compK mg mt mr (wipeR ρ vs) ds δ1 = some (out, δ2)) (G1 : Good K F σ H1 ρ δ1) (gr : Grows F A) (hA : H1 A = some (.dK kvs)) (RD : RepD K (Mm F σ ρ) H1 kvs es) (hz : es.length + out.length ≤ sizeLine) (Wk : Walks K (Mm F σ ρ) H1 J ds)
    (q : ∀ H' kvs', Good K F σ H' ρ δ2 → Mv (Mm F σ ρ) H1 (Mm F σ ρ) H' → H' A = some (.dK kvs') → RepD K (Mm F σ ρ) H' kvs' (putAll es out) → Nx H') : tLoop rest J g tt vs σ H1 Nx := by
  have GW := G1.wipe (vs := vs) hu
  have eM : Mm F (L2.wipe σ vs) (wipeR ρ vs) = Mm F σ ρ := Mm_wipe hu
  refine ⟨fun i m H => m = ds.length - i ∧ i ≤ ds.length ∧ ∃ δ3 done more kv, Good K F (L2.wipe σ vs) H (wipeR ρ vs) δ3 ∧ Mv (Mm F σ ρ) H1 (Mm F σ ρ) H ∧ H A = some (.dK kv) ∧ RepD K (Mm F σ ρ) H kv (putAll es done) ∧
    compK mg mt mr (wipeR ρ vs) (ds.drop i) δ3 = some (more, δ2) ∧ done ++ more = out, ⟨_, rfl, Nat.zero_le _, δ1, [], out, kvs, GW, Mv.refl _ _, hA, RD, e2, rfl⟩, ?_⟩
  rintro i m H2 ⟨rfl, hile, δ3, done, more, kv, G2, M2, hA2, rx, ec, eo⟩
  have wf2 : ∀ a, Mm F σ ρ a → mtO (H2 a) := by rw [← eM]; exact G2.mm
  by_cases hlt : i < ds.length
  · obtain ⟨go, yl⟩ := (Wk _ H2 M2 wf2 i).1 hlt
    rw [List.drop_eq_getElem_cons hlt] at ec
    refine .inr ⟨go, fun H' => ∃ δ3 done more kv, Good K F (L2.wipe σ vs) H' (wipeR ρ vs) δ3 ∧ Mv (Mm F σ ρ) H1 (Mm F σ ρ) H' ∧ H' A = some (.dK kv) ∧ RepD K (Mm F σ ρ) H' kv (putAll es done) ∧
      compK mg mt mr (wipeR ρ vs) (ds.drop (i + 1)) δ3 = some (more, δ2) ∧ done ++ more = out, fun H' h => ⟨ds.length - (i + 1), by omega, rfl, hlt, h⟩, fun x H3 hy => ?_⟩
    obtain ⟨kp, dx, edx, rdx⟩ := yl x H3 hy
    rw [List.getElem?_eq_getElem hlt] at edx
    cases edx
    replace G2 := G2.keep kp
    replace M2 := M2.trans (Mv.same kp)
    replace hA2 := kp _ _ hA2
    replace rx := rx.mv (Mv.same kp)
    unfold compK at ec
    obtain ⟨ρ2, b1, ec⟩ := Option.bind_eq_some_iff.mp ec
    obtain ⟨⟨b, δ4⟩, b2, ec⟩ := Option.bind_eq_some_iff.mp ec
    dsimp only at ec
    refine hg (F.pin A (.dK kv)) (L2.wipe σ vs) H3 (wipeR ρ vs) δ3 x _ ρ2 (G2.pin gr.m hA2) (by rw [Mm_pin, eM]; exact rdx) b1 _ fun τ G3 M3 T3 => ?_
    obtain ⟨w1, w2⟩ := T3.wipes hs
    rw [wipe_wipe] at w1
    rw [wipeR_wipeR] at w2
    have hu2 : noU ρ2 vs = true := T3.noU (noU_wipe ρ vs)
    have eM2 : Mm F τ ρ2 = Mm F σ ρ := by rw [← Mm_wipe hu2, w1, w2, eM]
    refine ⟨w1, ht (F.pin A (.dK kv)) τ H3 ρ2 δ3 b δ4 G3 b2 _ fun H4 G4 M4 => ?_⟩
    rw [Mm_pin, eM2] at M4
    have G5 := Good.unpin gr.z gr.m G4
    have hA4 := G4.fr A _ upd_same gr.k
    cases b with
    | false =>
      refine iteF ?_
      rw [if_neg Bool.false_ne_true] at ec
      have GB := G5.wipe hu2
      rw [w1, w2] at GB
      exact ⟨δ4, done, more, kv, GB, M2.trans M4, hA4, rx.mv M4, ec, eo⟩
    | true =>
      refine iteT ?_
      rw [if_pos rfl] at ec
      obtain ⟨⟨ys, δ5⟩, b3, ec⟩ := Option.bind_eq_some_iff.mp ec
      obtain ⟨⟨more2, δ6⟩, b4, ec⟩ := Option.map_eq_some_iff.mp ec
      cases ec
      have hlen : out.length = done.length + (ys.length + more2.length) := by rw [← eo]; simp
      have hpl := putAll_len done es
      refine hr F τ H4 ρ2 δ4 ys δ5 kv (putAll es done) _ G5 gr hA4 (by rw [eM2]; exact rx.mv M4) b3 (by omega) fun H6 kv6 G6 M6 hA6 R6 => ?_
      rw [eM2] at M6 R6
      have GB := G6.wipe hu2
      rw [w1, w2] at GB
      exact ⟨δ5, done ++ ys, more2, kv6, GB, (M2.trans M4).trans M6, hA6, by rw [putAll_app]; exact R6, b4, by rw [← eo]; simp⟩
  · have hi' : i = ds.length := by omega
    subst hi'
    refine .inl ⟨(Wk _ H2 M2 wf2 ds.length).2 (Nat.le_refl _), ?_⟩
    rw [List.drop_of_length_le (Nat.le_refl _)] at ec
    cases ec
    rw [List.append_nil] at eo
    subst eo
    exact q _ kv (G1.unwipe hu G2 M2) M2 hA2 rx
theorem snd_dcN {K tk tv mr wi g tt vs mi mg mt} {cs : List Cl} {sl : List Nat} (hr : ∀ A, SndRD K A (tInD A tk tv cs) mr) (hi : SndI K wi mi) (hg : SndG K sl g mg) (ht : SndT K tt mt) (hs : ∀ i ∈ sl, i ∈ vs) : Snd K (tDcN wi g tt vs cs tk tv) (mDcN (kFor mi vs mg mt mr)) := fun F σ H ρ δ d δ' G e Q q => by
  obtain ⟨⟨out, δ2⟩, e0, e⟩ := Option.bind_eq_some_iff.mp e
  obtain ⟨⟨ds, δ1⟩, e1, e0⟩ := Option.bind_eq_some_iff.mp e0
  dsimp only at e e0
  split at e
  · rename_i hz
    split at e0
    · rename_i hu
      cases e
      refine hi F σ H ρ δ ds δ1 G e1 _ fun J H1 G1 M1 Wk A hA => ?_
      obtain ⟨GP, MP⟩ := G1.plus (o := .dK []) hA
      have gr : Grows (F.plus A) A := ⟨.inr rfl, G1.fresh0 hA, fun p hp => ⟨(ne_of_none (G1.dck p hp).2.2.2.one hA).symm, ((G1.dck p hp).2.2.2.ne2N hA).symm, (ne_of_none (G1.dck p hp).2.2.2.tri hA).symm⟩⟩
      refine snd_loopK (hr A) hg ht hs hu e0 GP gr upd_same .nil (by simpa using hz) (Wk.mv MP) fun H' xs G' M' hA' R' => ?_
      have an : Mv (Mm (F.plus A) σ ρ) H' (Mm F σ ρ) H' := fun a o e n => ⟨e, fun z => n (by rw [Mm_plus]; exact .inl z)⟩
      have M3 := (MP.trans M').trans an
      exact q _ _ (Good.back (vs := []) G1 rfl hA G' M3) (M1.trans M3) (.dic (G1.mfree hA) (.inl hA') (R'.mv an).repK)
    · cases e0
  · cases e
section
variable {X : Cx} {kx vx tg iter : Expr} {ifs : List Expr} {gl : List Comprehension} {sc : Scope} {own : List (Str × Nat)} {ps : Pos} {mi : MA} {mg : MG} {mt : MT} {mk mv : ME} {mr : MP} {sl vs vs1 : List Nat}
structure BlkK (X : Cx) (sc : Scope) (vs : List Nat) (gl : List Comprehension) (kx vx : Expr) (mr : MP) : Prop where
  ex : ∃ cs tk tv, (AllBlk X sc fun Y => ClsOk Y vs gl cs) ∧ (AllBlk X sc fun Y => PE Y kx tk) ∧ (AllBlk X sc fun Y => PE Y vx tv) ∧ ∀ A, SndRD X.K A (tInD A tk tv cs) mr
theorem bk_nil (e : AllBlk X sc fun Y => PD Y kx mk) (f : AllBlk X sc fun Y => PD Y vx mv) : BlkK X sc vs [] kx vx (kOne mk mv) :=
  ⟨[], fun σ H Q => ∀ s h C cl fp, (e s h C cl fp).ex.choose σ H Q, fun σ H Q => ∀ s h C cl fp, (f s h C cl fp).ex.choose σ H Q, fun _ _ _ _ _ => .nil, fun s h C cl fp => ⟨fun pins s' σ H Q I q => (e s h C cl fp).ex.choose_spec.1.run pins s' σ H Q I (q s h C cl fp)⟩, fun s h C cl fp => ⟨fun pins s' σ H Q I q => (f s h C cl fp).ex.choose_spec.1.run pins s' σ H Q I (q s h C cl fp)⟩,
    fun A => snd_kOne (fun F σ H ρ δ d δ' G e' Q q s h C cl fp => (e s h C cl fp).ex.choose_spec.2 F σ H ρ δ d δ' G e' Q q) (fun F σ H ρ δ d δ' G e' Q q s h C cl fp => (f s h C cl fp).ex.choose_spec.2 F σ H ρ δ d δ' G e' Q q)⟩
theorem pd_dcN (hc : X.calm = true) (hN : X.N.Nodup) (hi : PDI X tg iter mi) (ok : BlkOk X.N X.env.scope sc own) (g : AllBlk X sc fun Y => PDG Y tg sl mg) (t : AllBlk X sc fun Y => PDTs Y ifs mt) (o : ∀ i ∈ sl, i ∈ own.map (·.2)) (B : BlkK X sc (own.map (·.2)) gl kx vx mr) (hs : ∀ x, foldedSetIterable iter X.env x = pure x := by intro _; rfl) :
    PD X (.DictComp kx vx (⟨tg, iter, ifs, 0⟩ :: gl) sc ps) (mDcN (kFor mi (own.map (·.2)) mg mt mr)) := by
  obtain ⟨wi, h1, s1⟩ := hi.ex
  obtain ⟨cs, tk, tv, c1, c2, c4, c3⟩ := B.ex
  refine ⟨tDcN wi (fun v σ H Q => ∀ s h C cl fp, (g s h C cl fp).ex.choose v σ H Q) (fun σ H Q => ∀ s h C cl fp, (t s h C cl fp).ex.choose σ H Q) _ cs tk tv, pe_dcN hc hN h1 ok ?_ ?_ c2 c4 c1 hs, snd_dcN (sl := sl) c3 s1 ?_ ?_ o⟩
  · exact fun s h C cl fp => ⟨fun pins s' σ H v u Q I r q => (g s h C cl fp).ex.choose_spec.1.run pins s' σ H v u Q I r (q s h C cl fp)⟩
  · exact fun s h C cl fp => ⟨fun pins s' σ H Q I q => (t s h C cl fp).ex.choose_spec.1.run pins s' σ H Q I (q s h C cl fp)⟩
  · exact fun F σ H ρ δ v d ρ' G r e Q q s h C cl fp => (g s h C cl fp).ex.choose_spec.2 F σ H ρ δ v d ρ' G r e Q q
  · exact fun F σ H ρ δ d δ' G e Q q s h C cl fp => (t s h C cl fp).ex.choose_spec.2 F σ H ρ δ d δ' G e Q q
end
end PD
namespace PD
open PySem PySem.Spec PyProof.Rows L2
theorem Reps.set {K M H v d} (r : Rep K M H v d) : ∀ {vs ds} (i : Nat), Reps K M H vs ds → Reps K M H (vs.set i v) (ds.set i d)
  | _, _, _, .nil => .nil
  | _, _, 0, .cons _ t => .cons r t
  | _, _, i + 1, .cons q t => .cons q (Reps.set r i t)
theorem Reps.erase {K M H} : ∀ {vs ds} (i : Nat), Reps K M H vs ds → Reps K M H (vs.eraseIdx i) (ds.eraseIdx i)
  | _, _, _, .nil => .nil
  | _, _, 0, .cons _ t => t
  | _, _, i + 1, .cons q t => .cons q (Reps.erase i t)
def mLenU (i : Nat) : ME := fun ρ δ => match ρ[i]? with
  | some (.own (.lst ds)) => some (.int ds.length, δ)
  | _ => none
def mIxU (i : Nat) (m : ME) : ME := fun ρ δ => match ρ[i]? with
  | some (.own (.lst ds)) => (m ρ δ).bind fun p => match p.1 with
    | .int j => (atI ds j).map fun d => (d, p.2)
    | _ => none
  | _ => none
def sSetU (i : Nat) (m mi : ME) : MS := fun ρ δ => match ρ[i]? with
  | some (.own (.lst ds)) => (m ρ δ).bind fun p => (mi ρ p.2).bind fun q => match q.1 with
    | .int j => (ixN ds.length j).map fun n => (.nx, ρ.set i (.uni (ds.set n p.1)), q.2)
    | _ => none
  | _ => none
/-- an expression that changes the slots -/
abbrev MX := List Sl → Dk → Option (D × List Sl × Dk)
def SndX (K : PySem.W.Frag) (te : TE) (mx : MX) : Prop := ∀ F σ H ρ δ d ρ' δ', Good K F σ H ρ δ → mx ρ δ = some (d, ρ', δ') → ∀ Q : V → Hp → Prop, (∀ v H', Good K F σ H' ρ' δ' → Mv (Mm F σ ρ) H (Mm F σ ρ') H' → Rep K (Mm F σ ρ') H' v d → Q v H') → te σ H Q
def xPop (i : Nat) (m : ME) : MX := fun ρ δ => match ρ[i]? with
  | some (.own (.lst ds)) => (m ρ δ).bind fun p => match p.1 with
    | .int j => if ds.length ≤ sizeLine then (ixN ds.length j).bind fun n => (ds[n]?).map fun d => (d, ρ.set i (.uni (ds.eraseIdx n)), p.2) else none
    | _ => none
  | _ => none
def xBin (f : D → D → Option D) (m : ME) (mx : MX) : MX := fun ρ δ => (m ρ δ).bind fun p => (mx ρ p.2).bind fun q => (f p.1 q.1).map fun z => (z, q.2)
def sAsgX (mx : MX) (g : MG) : MS := fun ρ δ => (mx ρ δ).bind fun p => (g p.1 p.2.1).map fun ρ1 => (.nx, ρ1, p.2.2)
section
variable {X : Cx} {a b e tg : Expr} {ma mb : ME} {mx : MX} {p p0 pos : Pos} {x : Str} {sl : List Nat} {mg : MG}
theorem pd_lenU (i : Nat) (hm : X.mg "len" = none) (hN : X.N[i]? = some x := by rfl) (hv : Vis X.env.scope x := by first | exact Or.inl rfl | exact Or.inr (Or.inl rfl) | exact Or.inr (Or.inr rfl)) (hyd : (x == ("__debug__" : Str)) = false := by decide) (hcd : (x == ("__classdict__" : Str)) = false := by decide) (hg : Gl X "len" := by rfl)
    (he : starEach [.Name x p0] X.env = (false, eval (.Name x p0) X.env) :: starEach [] X.env := by rfl) (hpl : (backTo pos (starEach [] X.env)).any (·.1) = false := by rfl) :
    PD X (.Call (.Name "len" p) [.Name x p0] [] pos) (mLenU i) := by
  refine ⟨_, pe_callB call_len hg hm PySem.boot_len (pa_cons (pe_var hN hv hyd hcd) pa_nil he) (by decide) (by decide) he hpl, fun F σ H ρ δ d δ' G e Q q => ?_⟩
  unfold mLenU at e
  split at e
  · rename_i ds hi
    cases e
    obtain ⟨c, xs, f1, f2, f3, f4⟩ := G.uni i ds hi
    refine ⟨_, f1, _, _, rfl, .inl ⟨_, SqL.of f2, rfl⟩, ?_⟩
    rw [f3.length]
    exact q _ _ G (Mv.refl _ _) (.int _)
  · cases e
theorem pd_ixU (i : Nat) (hb : PD X b mb) (hN : X.N[i]? = some x := by rfl) (hv : Vis X.env.scope x := by first | exact Or.inl rfl | exact Or.inr (Or.inl rfl) | exact Or.inr (Or.inr rfl)) (hyd : (x == ("__debug__" : Str)) = false := by decide) (hcd : (x == ("__classdict__" : Str)) = false := by decide) (hs : PlainIx b := by exact fun _ _ => rfl) :
    PD X (.Subscript (.Name x p0) b pos) (mIxU i mb) := by
  obtain ⟨tb, h2, s2⟩ := hb.ex
  refine ⟨_, pe_ix ix_list (pe_var hN hv hyd hcd) h2 hs, fun F σ H ρ δ d δ' G e Q q => ?_⟩
  unfold mIxU at e
  split at e
  · rename_i ds hi
    obtain ⟨⟨y, δ1⟩, e1, e⟩ := Option.bind_eq_some_iff.mp e
    dsimp only at e
    split at e
    · obtain ⟨c, e2, e⟩ := Option.map_eq_some_iff.mp e
      cases e
      obtain ⟨a1, xs, f1, f2, f3, f4⟩ := G.uni i ds hi
      refine ⟨_, f1, s2 F σ H ρ δ _ _ G e1 _ fun u H1 G1 M1 R1 => ?_⟩
      cases R1
      obtain ⟨a', xs', g1, g2, g3, g4⟩ := G1.uni i ds hi
      rw [f1] at g1
      cases g1
      obtain ⟨v, hv1, hr1⟩ := g3.atI e2
      exact ⟨_, _, _, _, rfl, rfl, SqL.of g2, hv1, q _ _ G1 M1 hr1⟩
    · cases e
  · cases e
structure PDX (X : Cx) (e : Expr) (mx : MX) : Prop where
  ex : ∃ t, PE X e t ∧ SndX X.K t mx
theorem pdx_pop (i : Nat) {apos cpos : Pos} (he : PD X e ma) (hN : X.N[i]? = some x := by rfl) (hv : Vis X.env.scope x := by first | exact Or.inl rfl | exact Or.inr (Or.inl rfl) | exact Or.inr (Or.inr rfl)) (hd : (x == ("__debug__" : Str)) = false := by decide)
    (hcd : (x == ("__classdict__" : Str)) = false := by decide) (hbase : attributeBase (.Name x p0) "pop" X.env (eval (.Name x p0) X.env) = eval (.Name x p0) X.env := by rfl)
    (hfew : ((backTo cpos (starEach [e] X.env)).all (fun x => !x.1) && (backToKw cpos (keywordEach [] X.env)).all (fun x => x.1.isSome)
      && decide ([e].length + ([] : List Keyword).length + (if ([] : List Keyword).isEmpty then 0 else 1) < 30)) = true := by rfl)
    (hline : (apos.endLine == cpos.line) = true := by rfl) (hs : starEach [e] X.env = (false, eval e X.env) :: starEach [] X.env := by rfl) (hplain : (backTo cpos (starEach [] X.env)).any (·.1) = false := by rfl) :
    PDX X (.Call (.Attribute (.Name x p0) "pop" apos) [e] [] cpos) (xPop i ma) := by
  obtain ⟨t, p1, s1⟩ := he.ex
  refine ⟨_, pe_bm PySem.F.plainAttrs_list PySem.F.slot_list_pop PySem.F.type_list_pop mt_popAt (pe_var hN hv hd hcd) (pa_cons p1 pa_nil hs) hbase hfew hline hs hplain, fun F σ H ρ δ d ρ' δ' G e Q q => ?_⟩
  unfold xPop at e
  split at e
  · rename_i ds hi
    obtain ⟨⟨y, δ1⟩, e1, e⟩ := Option.bind_eq_some_iff.mp e
    dsimp only at e
    split at e
    · rename_i j
      split at e
      case isFalse => cases e
      rename_i hzz
      obtain ⟨n, e2, e⟩ := Option.bind_eq_some_iff.mp e
      obtain ⟨d1, e3, e⟩ := Option.map_eq_some_iff.mp e
      cases e
      obtain ⟨a, xs, f1, f2, f3, f4⟩ := G.uni i ds hi
      refine ⟨_, f1, .inl ⟨rfl, xs, SqL.of f2⟩, s1 F σ H ρ δ _ _ G e1 _ fun v H1 G1 M1 R1 => ?_⟩
      cases R1
      obtain ⟨a', xs', g1, g2, g3, g4⟩ := G1.uni i ds hi
      rw [f1] at g1
      cases g1
      obtain ⟨v, hv1, hr1⟩ := g3.get' e3
      obtain ⟨G2, M2⟩ := G1.uniWrite (ys := xs'.eraseIdx n) (es := ds.eraseIdx n) i hi f1 (g3.erase n)
      have hlen := g3.length
      rw [← hlen] at e2
      obtain ⟨k1, k2, k3, k4⟩ := ixN_seq e2
      have hsz := line63
      exact ⟨_, xs', j, n, v, rfl, rfl, g2, by omega, by omega, k1, hv1, q _ _ G2 (M1.trans M2) (hr1.mv M2)⟩
    · cases e
  · cases e
theorem pdx_bin {op : Operator} {r : R2} {f : D → D → Option D} (ho : OpR X (binaryOp op) r) (s : OpS X.K r f) (ha : PD X a ma) (hb : PDX X b mx) : PDX X (.BinOp a op b pos) (xBin f ma mx) := by
  obtain ⟨ta, h1, s1⟩ := ha.ex
  obtain ⟨tb, h2, s2⟩ := hb.ex
  refine ⟨_, pe_op ho h1 h2, fun F σ H ρ δ d ρ' δ' G e Q q => ?_⟩
  obtain ⟨⟨y, δ1⟩, e1, e⟩ := Option.bind_eq_some_iff.mp e
  obtain ⟨⟨z, ρ2, δ2⟩, e2, e⟩ := Option.bind_eq_some_iff.mp e
  obtain ⟨w, e3, e⟩ := Option.map_eq_some_iff.mp e
  cases e
  refine s1 F σ H ρ δ _ _ G e1 _ fun u H1 G1 M1 R1 => s2 F σ H1 ρ δ1 _ _ _ G1 e2 _ fun v H2 G2 M2 R2 => ?_
  exact s F σ H2 _ _ u v y z _ G2 (R1.mv M2) R2 e3 _ fun w' H3 kp R3 => q _ _ (G2.keep kp) ((M1.trans M2).trans (Mv.same kp)) R3
theorem pdx_add (ha : PD X a ma) (hb : PDX X b mx) : PDX X (.BinOp a .Add b pos) (xBin addD ma mx) :=
  pdx_bin (OpR.or op_add (OpR.or op_add_str (OpR.or op_cat op_catP))) (OpS.or (ops_I0 fun _ _ _ _ => .int _) (OpS.or ops_addS (OpS.or ops_catL ops_catT))) ha hb
end
end PD
namespace PD
open PySem PySem.Spec PyProof.Rows L2
structure Hid (K : PySem.W.Frag) (F : Fr) (r : Nat) (σ : L2.St) (H : Hp) (ρ : List Sl) (δ : Dk) (A : Addr) (bs : List Addr) (dss : List (List D)) : Prop where
  g : Good K (F.plusS (A :: bs)) σ H ρ δ
  s : σ[r]? = some (some (.ref A))
  p : ρ[r]? = some .no
  a : H A = some (.lst (bs.map V.ref))
  l : Lists K (Mm (F.plusS (A :: bs)) σ ρ) H bs dss
  nd : (A :: bs).Nodup
  z : ∀ a ∈ A :: bs, F.H0 a = none
  m : ∀ a ∈ A :: bs, ¬ F.M0 a
  k : ∀ a ∈ A :: bs, ∀ p, F.dk = some p → a ≠ p.1 ∧ a ≠ p.2 ∧ a ≠ p.3
theorem Hid.pin {K F r σ H ρ δ A bs dss} (h : Hid K F r σ H ρ δ A bs dss) : Good K ((F.plusS (A :: bs)).pinS (A :: bs) H) σ H ρ δ := h.g.pinS fun a ha => .inr ha
abbrev ML := List Sl → Dk → List (List D) → Option (Fl × List Sl × Dk × List (List D))
def lGen (m : MS) : ML := fun ρ δ dss => (m ρ δ).map fun p => (p.1, p.2.1, p.2.2, dss)
def lSeq (a b : ML) : ML := fun ρ δ dss => (a ρ δ dss).bind fun p => match p.1 with
  | .nx => b p.2.1 p.2.2.1 p.2.2.2
  | f => some (f, p.2)
def lApp (m : ME) : ML := fun ρ δ dss => (m ρ δ).bind fun p => if dss.length < sizeLine then some (.nx, ρ, p.2, dss ++ [[p.1]]) else none
def lAt (mix me : ME) : ML := fun ρ δ dss => (mix ρ δ).bind fun p => match p.1 with
  | .int i => (ixN dss.length i).bind fun j => (me ρ p.2).bind fun q => if (dss.getD j []).length < sizeLine then some (.nx, ρ, q.2, dss.set j (dss.getD j [] ++ [q.1])) else none
  | _ => none
def forLL (g : MG) (s : ML) : List D → ML
  | [] => fun ρ δ dss => some (.nx, ρ, δ, dss)
  | d :: ds => fun ρ δ dss => (g d ρ).bind fun ρ1 => (s ρ1 δ dss).bind fun p => match p.1 with
    | .nx => forLL g s ds p.2.1 p.2.2.1 p.2.2.2
    | .ct => forLL g s ds p.2.1 p.2.2.1 p.2.2.2
    | .bk => some (.nx, p.2)
    | .rt d => some (.rt d, p.2)
def lFor (mi : MA) (g : MG) (s : ML) : ML := fun ρ δ dss => (mi ρ δ).bind fun p => forLL g s p.1 ρ p.2 dss
def sHid (r : Nat) (ml : ML) (rest : MS) : MS := fun ρ δ => if r < ρ.length then (ml (ρ.set r .no) δ []).bind fun p => match p.1 with
  | .nx => rest (p.2.1.set r (.val (.list (p.2.2.2.map .list)))) p.2.2.1
  | .rt d => some (.rt d, p.2.1, p.2.2.1)
  | _ => none
  else none
end PD
namespace PD
open PySem PySem.Spec PyProof.Rows L2
def WX (m : MX) (ρ : List Sl) (δ : Dk) (P : D → List Sl → Dk → Prop) : Prop := ∃ d ρ' δ', m ρ δ = some (d, ρ', δ') ∧ P d ρ' δ'
def WL (m : ML) (ρ : List Sl) (δ : Dk) (dss : List (List D)) (P : Fl → List Sl → Dk → List (List D) → Prop) : Prop := ∃ f ρ' δ' dss', m ρ δ dss = some (f, ρ', δ', dss') ∧ P f ρ' δ' dss'
section
variable {ρ : List Sl} {δ : Dk} {dss : List (List D)}
theorem we_lenU {i P} : WE (mLenU i) ρ δ P ↔ ∃ ds, ρ[i]? = some (.uni ds) ∧ P (.int ds.length) δ := by
  constructor
  · rintro ⟨d, δ', e, p⟩
    unfold mLenU at e
    split at e
    · rename_i ds h; cases e; exact ⟨ds, h, p⟩
    · cases e
  · rintro ⟨ds, h, p⟩
    exact ⟨_, _, by unfold mLenU; rw [h], p⟩
theorem we_ixU {i m P} : WE (mIxU i m) ρ δ P ↔ ∃ ds, ρ[i]? = some (.uni ds) ∧ WE m ρ δ fun j δ1 => ∃ k d, j = .int k ∧ atI ds k = some d ∧ P d δ1 := by
  constructor
  · rintro ⟨d, δ', e, p⟩
    unfold mIxU at e
    split at e
    · rename_i ds h
      obtain ⟨⟨x, δ1⟩, e1, e⟩ := Option.bind_eq_some_iff.mp e
      dsimp only at e
      split at e
      · rename_i k
        obtain ⟨y, e2, e⟩ := Option.map_eq_some_iff.mp e
        cases e
        exact ⟨ds, h, _, _, e1, k, _, rfl, e2, p⟩
      · cases e
    · cases e
  · rintro ⟨ds, h, x, δ1, e1, k, d, rfl, e2, p⟩
    exact ⟨d, δ1, by unfold mIxU; rw [h]; simp only [e1, Option.bind_some, e2, Option.map_some], p⟩
theorem ws_setU {i m mi P} : WS (sSetU i m mi) ρ δ P ↔ ∃ ds, ρ[i]? = some (.uni ds) ∧ WE m ρ δ fun x δ1 => WE mi ρ δ1 fun j δ2 => ∃ k n, j = .int k ∧ ixN ds.length k = some n ∧ P .nx (ρ.set i (.uni (ds.set n x))) δ2 := by
  constructor
  · rintro ⟨f, ρ', δ', e, p⟩
    unfold sSetU at e
    split at e
    · rename_i ds h
      obtain ⟨⟨x, δ1⟩, e1, e⟩ := Option.bind_eq_some_iff.mp e
      obtain ⟨⟨y, δ2⟩, e2, e⟩ := Option.bind_eq_some_iff.mp e
      dsimp only at e
      split at e
      · rename_i k
        obtain ⟨n, e3, e⟩ := Option.map_eq_some_iff.mp e
        cases e
        exact ⟨ds, h, _, _, e1, _, _, e2, k, n, rfl, e3, p⟩
      · cases e
    · cases e
  · rintro ⟨ds, h, x, δ1, e1, y, δ2, e2, k, n, rfl, e3, p⟩
    exact ⟨_, _, _, by unfold sSetU; rw [h]; simp only [e1, e2, Option.bind_some, e3, Option.map_some], p⟩
theorem ws_asgX {m g P} : WS (sAsgX m g) ρ δ P ↔ WX m ρ δ fun d ρ1 δ1 => WG g d ρ1 fun ρ2 => P .nx ρ2 δ1 := by
  constructor
  · rintro ⟨f, ρ', δ', e, p⟩
    obtain ⟨⟨x, ρ1, δ1⟩, e1, e⟩ := Option.bind_eq_some_iff.mp e
    obtain ⟨ρ2, e2, e⟩ := Option.map_eq_some_iff.mp e
    cases e
    exact ⟨x, _, _, e1, _, e2, p⟩
  · rintro ⟨x, ρ1, δ1, e1, ρ2, e2, p⟩
    exact ⟨_, _, _, by unfold sAsgX; simp only [e1, Option.bind_some, e2, Option.map_some], p⟩
theorem wx_pop {i m P} : WX (xPop i m) ρ δ P ↔ ∃ ds, ρ[i]? = some (.uni ds) ∧ WE m ρ δ fun j δ1 => ∃ k n d, j = .int k ∧ ds.length ≤ sizeLine ∧ ixN ds.length k = some n ∧ ds[n]? = some d ∧ P d (ρ.set i (.uni (ds.eraseIdx n))) δ1 := by
  constructor
  · rintro ⟨f, ρ', δ', e, p⟩
    unfold xPop at e
    split at e
    · rename_i ds h
      obtain ⟨⟨x, δ1⟩, e1, e⟩ := Option.bind_eq_some_iff.mp e
      dsimp only at e
      split at e
      · rename_i k
        split at e
        · rename_i hz
          obtain ⟨n, e2, e⟩ := Option.bind_eq_some_iff.mp e
          obtain ⟨d, e3, e⟩ := Option.map_eq_some_iff.mp e
          cases e
          exact ⟨ds, h, _, _, e1, k, n, _, rfl, hz, e2, e3, p⟩
        · cases e
      · cases e
    · cases e
  · rintro ⟨ds, h, x, δ1, e1, k, n, d, rfl, hz, e2, e3, p⟩
    exact ⟨_, _, _, by unfold xPop; rw [h]; simp only [e1, Option.bind_some, if_pos hz, e2, e3, Option.map_some], p⟩
theorem wx_bin {f m mx P} : WX (xBin f m mx) ρ δ P ↔ WE m ρ δ fun x δ1 => WX mx ρ δ1 fun y ρ2 δ2 => W1 (f x y) fun z => P z ρ2 δ2 := by
  constructor
  · rintro ⟨d, ρ', δ', e, p⟩
    obtain ⟨⟨x, δ1⟩, e1, e⟩ := Option.bind_eq_some_iff.mp e
    obtain ⟨⟨y, ρ2, δ2⟩, e2, e⟩ := Option.bind_eq_some_iff.mp e
    obtain ⟨z, e3, e⟩ := Option.map_eq_some_iff.mp e
    cases e
    exact ⟨x, _, e1, y, _, _, e2, _, e3, p⟩
  · rintro ⟨x, δ1, e1, y, ρ2, δ2, e2, z, e3, p⟩
    exact ⟨_, _, _, by unfold xBin; simp only [e1, e2, Option.bind_some, e3, Option.map_some], p⟩
theorem ws_hid {r ml m P} : WS (sHid r ml m) ρ δ P ↔ r < ρ.length ∧ WL ml (ρ.set r .no) δ [] fun f ρ1 δ1 dss1 => match f with
    | .nx => WS m (ρ1.set r (.val (.list (dss1.map .list)))) δ1 P
    | .rt d => P (.rt d) ρ1 δ1
    | _ => False := by
  constructor
  · rintro ⟨f, ρ', δ', e, p⟩
    unfold sHid at e
    split at e
    · rename_i hz
      obtain ⟨⟨g, ρ1, δ1, dss1⟩, e1, e⟩ := Option.bind_eq_some_iff.mp e
      refine ⟨hz, g, ρ1, δ1, dss1, e1, ?_⟩
      cases g with
      | nx => exact ⟨f, ρ', δ', e, p⟩
      | rt d => cases e; exact p
      | bk => cases e
      | ct => cases e
    · cases e
  · rintro ⟨hz, g, ρ1, δ1, dss1, e1, p⟩
    cases g with
    | nx =>
      obtain ⟨f, ρ', δ', e, p⟩ := p
      exact ⟨f, ρ', δ', by unfold sHid; rw [if_pos hz, e1]; exact e, p⟩
    | rt d => exact ⟨_, _, _, by unfold sHid; rw [if_pos hz, e1]; rfl, p⟩
    | bk => exact p.elim
    | ct => exact p.elim
theorem wl_gen {m P} : WL (lGen m) ρ δ dss P ↔ WS m ρ δ fun f ρ1 δ1 => P f ρ1 δ1 dss := by
  constructor
  · rintro ⟨f, ρ', δ', dss', e, p⟩
    obtain ⟨⟨g, ρ1, δ1⟩, e1, e⟩ := Option.map_eq_some_iff.mp e
    cases e
    exact ⟨_, _, _, e1, p⟩
  · rintro ⟨f, ρ1, δ1, e1, p⟩
    exact ⟨_, _, _, _, by unfold lGen; simp only [e1, Option.map_some], p⟩
theorem wl_seq {a b P} : WL (lSeq a b) ρ δ dss P ↔ WL a ρ δ dss fun f ρ1 δ1 dss1 => match f with
    | .nx => WL b ρ1 δ1 dss1 P
    | f => P f ρ1 δ1 dss1 := by
  constructor
  · rintro ⟨f, ρ', δ', dss', e, p⟩
    obtain ⟨⟨g, ρ1, δ1, dss1⟩, e1, e⟩ := Option.bind_eq_some_iff.mp e
    refine ⟨g, ρ1, δ1, dss1, e1, ?_⟩
    cases g with
    | nx => exact ⟨_, _, _, _, e, p⟩
    | _ => cases e; exact p
  · rintro ⟨g, ρ1, δ1, dss1, e1, p⟩
    cases g with
    | nx =>
      obtain ⟨f, ρ', δ', dss', e, p⟩ := p
      exact ⟨_, _, _, _, by unfold lSeq; rw [e1]; exact e, p⟩
    | _ => exact ⟨_, _, _, _, by unfold lSeq; rw [e1]; rfl, p⟩
theorem wl_app {m P} : WL (lApp m) ρ δ dss P ↔ WE m ρ δ fun x δ1 => dss.length < sizeLine ∧ P .nx ρ δ1 (dss ++ [[x]]) := by
  constructor
  · rintro ⟨f, ρ', δ', dss', e, p⟩
    obtain ⟨⟨x, δ1⟩, e1, e⟩ := Option.bind_eq_some_iff.mp e
    dsimp only at e
    split at e
    · rename_i hz; cases e; exact ⟨x, _, e1, hz, p⟩
    · cases e
  · rintro ⟨x, δ1, e1, hz, p⟩
    exact ⟨_, _, _, _, by unfold lApp; rw [e1]; exact if_pos hz, p⟩
theorem wl_at {mi m P} : WL (lAt mi m) ρ δ dss P ↔ WE mi ρ δ fun j δ1 => ∃ k n, j = .int k ∧ ixN dss.length k = some n ∧ WE m ρ δ1 fun x δ2 => (dss.getD n []).length < sizeLine ∧ P .nx ρ δ2 (dss.set n (dss.getD n [] ++ [x])) := by
  constructor
  · rintro ⟨f, ρ', δ', dss', e, p⟩
    obtain ⟨⟨j, δ1⟩, e1, e⟩ := Option.bind_eq_some_iff.mp e
    dsimp only at e
    split at e
    · rename_i k
      obtain ⟨n, e2, e⟩ := Option.bind_eq_some_iff.mp e
      obtain ⟨⟨x, δ2⟩, e3, e⟩ := Option.bind_eq_some_iff.mp e
      dsimp only at e
      split at e
      · rename_i hz; cases e; exact ⟨_, _, e1, k, n, rfl, e2, x, _, e3, hz, p⟩
      · cases e
    · cases e
  · rintro ⟨j, δ1, e1, k, n, rfl, e2, x, δ2, e3, hz, p⟩
    exact ⟨_, _, _, _, by unfold lAt; simp only [e1, Option.bind_some, e2, e3, if_pos hz], p⟩
theorem wl_for {mi g s P} : WL (lFor mi g s) ρ δ dss P ↔ WA mi ρ δ fun ds δ1 => WL (forLL g s ds) ρ δ1 dss P := by
  constructor
  · rintro ⟨f, ρ', δ', dss', e, p⟩
    obtain ⟨⟨ds, δ1⟩, e1, e⟩ := Option.bind_eq_some_iff.mp e
    exact ⟨_, _, e1, _, _, _, _, e, p⟩
  · rintro ⟨ds, δ1, e1, f, ρ', δ', dss', e, p⟩
    exact ⟨_, _, _, _, by unfold lFor; rw [e1]; exact e, p⟩
end
end PD
namespace PD
open PySem PySem.Spec PyProof.Rows L2
structure FnG (P : Program) (ω : World) (K : PySem.W.Frag) (μ : Str → Option Value) (B : Heap) (n : Nat) (g : Addr) (D : FuncData) (par : List Str) (π : Sp) : Prop where
  ln : ∀ xs H Q E, π xs H Q E → xs.length = par.length
  go : ∀ (A : Around) (out : List Env) (z : Shared) (H : Hp) (ar : Args) (ys : List Value) (xs : List V) (Q : VK) (E : XK), Room n A → A.guards = some [] → Env0 P ω K μ B A out z H → BindsTo z D ar (par.zip ys) → Vals xs ys → π xs H Q E →
    codeAny (model P ω) A (.call (.ref g) ar) (CR CX0 out P ω H z Q E) z
section
variable {P : Program} {ω : World} {K : PySem.W.Frag} {μ : Str → Option Value} {B : Heap}
theorem fn_okG {nm ql : Str} {st : Stmt} {g : Addr} {D : FuncData} {N par : List Str} {n : Nat} {π : Sp} (F : Fun K nm ql st g D) (S : FnScope N par (defScope st)) (hl : ∀ xs H Q E, π xs H Q E → xs.length = par.length)
    (hb : ∀ (cv : Value) (A : Around) (out : List Env) (z : Shared) (H : Hp) (xs : List V) (Q : VK) (E : XK), Room n (A.deeper (envOfC ql (defScope st) z.heap.objs.size g cv)) → A.guards = some [] → π xs H Q E →
      ∃ t, PSs (cxOf CX0 P ω K μ B N ql (defScope st) g cv A out z H E).nox (defBody st) t ∧ t { nx := fun _ H' => Q .non H', rt := Q } (start N xs) H) : FnG P ω K μ B (n + 1) g D par π := by
  obtain ⟨oc, od, kv, dc, pm, an, cv, ct, sl, rfl, lk, hc⟩ := F.ex
  constructor
  · exact hl
  · intro A out z H ar ys xs Q E room gd env bind vals hp
    have hn := hl xs H Q E hp
    have inK : K.In z.heap := env.mod.kin.keeps fun i u q => (env.bs i u q).1
    have nol : z.heap.NoLimit := env.mod.nolimit.keeps fun i u q => (env.bs i u q).1
    have kinds : ∀ q ∈ par.zip ys, (defScope st).names.lookup q.1 = some .local ∨ ((defScope st).names.lookup q.1 = some .cell ∧ ((cellsFrom (z.heap.objs.size + 1) (defScope st).names []).lookup q.1).isSome = true) := by
      rintro ⟨i, v⟩ hq
      cases S.par i (List.of_mem_zip hq).1 with
      | inl q => exact Or.inl q
      | inr q => exact Or.inr ⟨q, PySem.W.cellsFrom_some _ _ _ (Or.inl q)⟩
    apply codeAny_call_function room.depth (inK _ _ lk) rfl S.co S.gen rfl (PySem.W.codeRec_of inK hc)
    apply bind
    apply wpAny_newFunctionEnv_cells S.kind kinds
    intro ev hev z1 ic
    subst hev
    obtain ⟨t, ht, ht2⟩ := hb cv A out z H xs Q E (room.deeper _) gd hp
    have J : Inv (cxOf CX0 P ω K μ B N ql (defScope st) g cv A out z H E) [] (start N xs) H z1 := inv_start S room.hd env hn vals ic
    refine ⟨nol.keeps ic.toInCall.keep, codeAny_func (wpAny_mono (ht.nox.run [] z1 (start N xs) H _ J ht2) ?_ fun _ _ q => q)⟩
    intro fl z2 h2
    cases fl with
    | brk => obtain ⟨_, _, _, no⟩ := h2; exact no.elim
    | cont => obtain ⟨_, _, _, no⟩ := h2; exact no.elim
    | next => obtain ⟨_, H2, J2, q2⟩ := h2; exact ⟨.non, H2, J2.os, J2.bare, J2.base, J2.hok, rfl, q2⟩
    | ret u => obtain ⟨v2, _, H2, J2, r2, q2⟩ := h2; exact ⟨v2, H2, J2.os, J2.bare, J2.base, J2.hok, r2, q2⟩
end
end PD
namespace PD
open PySem PySem.Spec PyProof.Rows L2
/-- from an abstract heap that holds the script at most -/
theorem lawCore {P : Program} {ω : World} {K : PySem.W.Frag} {μ β : Str → Option Value} {n : Nat} {g i : Addr} {D : FuncData} {nm : Str} {π : Sp} {z : Shared} {vs : List Value} {H : Hp}
    (inK : K.In z.heap) (gl : z.heap.Ns mainGlobals μ) (bl : z.heap.Ns builtinsNs β) (bb : ∀ q : Str, q ≠ "__name__" → β q = bootBuiltins q) (nol : z.heap.NoLimit) (ng : z.gens = #[])
    (hi : z.heap.get? i = some { cls := .type "list", data := .seq vs.toArray }) (room : Room n callerA)
    (F : ∀ B : Heap, K.In B → B.Ns mainGlobals μ → FnG P ω K μ B n g D [nm] π) (bind : ∀ (t : Shared) (u : Value), BindsTo t D ⟨[u], []⟩ [(nm, u)])
    (hp : π [.ref i] H (fun v _ => v = .bl true) fun _ _ _ => False) (hO : Only H) (hok : HOk P ω H z.heap) (one : ∀ c, H c ≠ none → c = i) (own : H i ≠ none → K.lookup i = none) :
    codeAny (model P ω) callerA (.call (.ref g) ⟨[.ref i], []⟩) (fun r t => r = .ok (.ret (.bool true)) ∧ OldK z.heap t.heap ∧ t.os = z.os ∧ AllBare t.gens) z := by
  have hid : ∀ {c : Addr} {o : Obj}, z.heap.get? c = some o → H c = none → (hidT z.heap H).get? c = some o := fun e q => hidT_get e q
  have dictFree : ∀ {c : Addr} {o : Obj} {es : Array DictEntry} {ep : Nat}, z.heap.get? c = some o → o.data = .dict es ep → H c = none := by
    intro c o es ep e d
    by_cases q : H c = none
    · exact q
    · have ec := one c q
      subst ec
      rw [hi] at e
      cases e
      exact absurd d (by intro y; cases y)
  have nsOf : ∀ {c : Addr} {m : Str → Option Value}, z.heap.Ns c m → (hidT z.heap H).Ns c m := by
    rintro c m ⟨o, es, ep, e, d, r⟩
    exact ⟨o, es, ep, hid e (dictFree e d), d, r⟩
  have inB : K.In (hidT z.heap H) := by
    intro c o e
    refine hid (inK c o e) ?_
    by_cases q : H c = none
    · exact q
    · have ec := one c q
      subst ec
      rw [own q] at e
      cases e
  have M : Mod K μ (hidT z.heap H) := ⟨inB, nsOf gl, ⟨β, nsOf bl, bb⟩, by obtain ⟨m, a1, a2⟩ := nol; exact ⟨m, nsOf a1, a2⟩⟩
  have E : Env0 P ω K μ (hidT z.heap H) callerA [] z H := ⟨rfl, M, fun c o e => of_hidT e, Nat.le_of_eq (hidT_size _ _), trivial, by intro c hc; exact absurd (show c ∈ ([] : List Addr) from hc) (by simp), hok, .of_eq ng⟩
  refine codeAny_mono ((F _ inB (nsOf gl)).go callerA [] z H ⟨[.ref i], []⟩ [.ref i] [.ref i] _ _ room rfl E (bind z (.ref i)) (.cons rfl .nil) hp) ?_
  intro r t ht
  match r, ht with
  | .error e, ht => exact ht.elim
  | .ok .next, ht => exact ht.elim
  | .ok .brk, ht => exact ht.elim
  | .ok .cont, ht => exact ht.elim
  | .ok (.ret u), ht =>
    obtain ⟨v, H2, os, bare, un, hok2, rv, qv⟩ := ht
    have qv : v = .bl true := qv
    subst qv
    obtain rfl : u = Value.bool true := rv
    refine ⟨rfl, OldK.of_keep ?_, os, bare⟩
    intro c o e
    by_cases q : H c = none
    · exact un.keep c o e q (by intro y; exact absurd (show c ∈ ([] : List Addr) from y) (by simp)) (by simp)
    · rcases hO c with y | ⟨ob, xs, y⟩
      · exact absurd y q
      · obtain ⟨f1, _⟩ := hok c _ y
        obtain ⟨f2, _⟩ := hok2 c _ (un.frzs c ob _ y)
        rw [e] at f1
        cases f1
        exact f2
/-- the end: the law's def, called where no repr is under way -/
theorem walkG {l : PySem.W.OpenLaw} {m n : Nat} {q : Program} {loose : List Str} {XP : (Str → Option Value) → Heap → Prop} {YP : World → Heap → Prop} {d : DefRec} {K : Params → PySem.W.Frag} {π : World → Sp} {nm : Str}
    (h1 : l.most = some m) (h2 : m ≤ sizeLine) (h3 : d.params.defaults = []) (room : Room n callerA)
    (hY : ∀ (ω : World) (h : Heap), YP ω h → (K ω.params).In h)
    (F : ∀ (ω : World) (μ : Str → Option Value) (g : Addr) (h : Heap), (K ω.params).In h → h.Ns mainGlobals μ → μ d.name = some (.ref g) →
      ∃ D : FuncData, (∀ (t : Shared) (u : Value), BindsTo t D ⟨[u], []⟩ [(nm, u)]) ∧ ∀ B : Heap, (K ω.params).In B → B.Ns mainGlobals μ → FnG l.prog ω (K ω.params) μ B n g D [nm] (π ω))
    (hp : ∀ (ω : World) (H : Hp) (i : Addr) (ns : List Int), ns.length ≤ m → Only H → SqL (K ω.params) H i (ns.map V.int) → π ω [.ref i] H (fun v _ => v = .bl true) fun _ _ _ => False) :
    PySem.W.WalkO q loose XP YP l.row.toRowW d [] (fun f vs => PySem.call f vs) := by
  refine Att.attach_call h1 h3 ?_
  intro ω z0 z μ β g o pm cd doc i vs ns G Y ho hd hcd hmg hobj hints hlen hg
  have inK := hY ω _ Y
  obtain ⟨D, bind, F2⟩ := F ω μ g _ inK G.T.g hmg
  have hl : ns.length ≤ sizeLine := Nat.le_trans hlen h2
  have rv := vals_ints hints
  have lv := hints.length
  cases hk : (K ω.params).lookup i with
  | some ob =>
    have e := inK i ob hk
    rw [hobj] at e
    cases e
    have hS : SqL (K ω.params) (fun _ => none) i (ns.map V.int) := .inr ⟨_, vs.toArray, _, hk, rfl, rfl, rfl, by rw [List.size_toArray, lv]; exact hl, by simpa using rv⟩
    exact lawCore inK G.T.g G.T.b G.T.builtins G.T.nolimit hg hobj room F2 bind (hp ω _ i ns hlen (fun _ => .inl rfl) hS) (fun _ => .inl rfl) (fun c u y => nomatch (show (none : Option HO) = some u from y)) (fun c y => absurd rfl y) (fun y => absurd rfl y)
  | none =>
    let ob : Obj := { cls := .type "list", data := .seq vs.toArray }
    let H : Hp := fun c => if c = i then some (.frz ob (.lst (ns.map V.int))) else none
    have e1 : H i = some (.frz ob (.lst (ns.map V.int))) := if_pos rfl
    have e2 : ∀ c, c ≠ i → H c = none := fun c hc => if_neg hc
    have hO : Only H := fun c => by
      by_cases hc : c = i
      · rw [hc]; exact .inr ⟨_, _, e1⟩
      · exact .inl (e2 c hc)
    have hS : SqL (K ω.params) H i (ns.map V.int) := .inl (.inr ⟨ob, e1⟩)
    refine lawCore inK G.T.g G.T.b G.T.builtins G.T.nolimit hg hobj room F2 bind (hp ω H i ns hlen hO hS) hO (fun c u y => ?_) (fun c y => ?_) (fun _ => hk)
    · by_cases hc : c = i
      · subst hc
        rw [e1] at y
        cases y
        exact ⟨hobj, by rw [List.length_map]; exact hl, vs, _, rv, hobj⟩
      · rw [e2 c hc] at y; cases y
    · by_cases hc : c = i
      · exact hc
      · exact absurd (e2 c hc) y
end PD
namespace PD
open PySem PySem.Spec PyProof.Rows L2
mutual
theorem Rep.reads {X : Cx} {pins : List (Addr × Obj)} {σ : L2.St} {H : Hp} {s : Shared} {M : Addr → Prop} (I : Inv X pins σ H s) : ∀ {v : V} {d : D} {u : Value}, Rep X.K M H v d → d.hasDict = false → RelV v u → ∃ as, Reads s.heap u d as
  | _, _, _, .non, _, r => ⟨[], by cases r; exact .none⟩
  | _, _, _, .bl b, _, r => ⟨[], by cases r; exact .bool b⟩
  | _, _, _, .int i, _, r => ⟨[], by obtain ⟨t, rfl⟩ := r; exact .int i t⟩
  | _, _, _, .str x, _, r => ⟨[], by obtain ⟨t, rfl⟩ := r; exact .str x t⟩
  | _, _, _, .lst (a := a) (xs := xs) (ds := ds) ha rs, hd, r => by
    cases r
    obtain ⟨its, rv, ⟨o, n, e1, e2, _, e3⟩, _⟩ := I.list ha.sq
    obtain ⟨as, ra⟩ := Reps.reads I rs (by simpa [PyData.hasDict] using hd) rv
    exact ⟨_, .list e1 e2 e3 (by simpa using ra)⟩
  | _, _, _, .tup (a := a) (xs := xs) (ds := ds) ha rs, hd, r => by
    cases r
    obtain ⟨its, rv, ⟨o, e1, e2, n, e3⟩, _⟩ := I.tuple ha.sq
    obtain ⟨as, ra⟩ := Reps.reads I rs (by simpa [PyData.hasDict] using hd) rv
    exact ⟨_, .tuple e1 e2 e3 (by simpa using ra)⟩
  | _, _, _, .dic _ _ _, hd, _ => by simp [PyData.hasDict] at hd
theorem Reps.reads {X : Cx} {pins : List (Addr × Obj)} {σ : L2.St} {H : Hp} {s : Shared} {M : Addr → Prop} (I : Inv X pins σ H s) : ∀ {vs : List V} {ds : List D} {us : List Value}, Reps X.K M H vs ds → PyData.hasDictAll ds = false → Vals vs us → ∃ as, ReadsAll s.heap us ds as
  | _, _, _, .nil, _, .nil => ⟨[], .nil⟩
  | _, _, _, .cons r t, hd, .cons rv tv => by
    simp only [PyData.hasDictAll, Bool.or_eq_false_iff] at hd
    obtain ⟨as, ra⟩ := Rep.reads I r hd.1 rv
    obtain ⟨bs, rb⟩ := Reps.reads I t hd.2 tv
    exact ⟨_, .cons ra rb⟩
end
/-- what can be shown -/
structure ShowOk (d : D) : Prop where
  s : d.showable = true
  n : d.hasDict = false
  p : d.depth ≤ 60
  z : d.shown.length ≤ sizeLine
def rRepr (K : PySem.W.Frag) : List V → Hp → VK → Prop := fun xs H Q => ∃ (M : Addr → Prop) (d : D) (x : V), xs = [x] ∧ Rep K M H x d ∧ ShowOk d ∧ Q (.str d.shown) H
theorem call_reprD {X : Cx} (hg : X.A.guards = some []) (hu : X.A.units + 65 < cLine) : CallR X (.builtin "repr") (rRepr X.K) := by
  intro pins s σ H xs us Q I r h
  obtain ⟨M, d, x, rfl, rp, ok, q⟩ := h
  obtain ⟨u, rfl, rv⟩ := vals1 r
  have hq : ∀ (h' : Heap) (t : Tok) (tk : Nat), (∀ b o, s.heap.get? b = some o → h'.get? b = some o) → EP X pins σ Q (.str d.shown t) { s with heap := h', toks := tk } := fun h' t tk k => ⟨.str d.shown, H, I.kept k, ⟨t, rfl⟩, q⟩
  obtain ⟨as, rd⟩ := rp.reads I ok.n rv
  have byRef : ∀ a, u = .ref a → wpAny (model X.prog X.w) X.A (call (.builtin "repr") [u]) (EP X pins σ Q) X.xe s := fun a e => by
    subst e
    exact PySem.repr_of_reads' rd ok.s (PyData.noDict_hsm ok.n) hg (by have := ok.p; omega) (fun _ _ e => e) hq ok.z
  cases rp with
  | non =>
    cases rv
    exact PySem.P.repr_of_none (hq _ _ _ fun _ _ e => e)
  | bl b =>
    cases rv
    have := hq s.heap s.toks (s.toks + 1) fun _ _ e => e
    cases b <;> exact PySem.P.repr_of_bool this
  | int i =>
    obtain ⟨t, rfl⟩ := rv
    exact PySem.P.repr_of_int (of_decide_eq_true (by simpa [PyData.showable] using ok.s)) (hq _ _ _ fun _ _ e => e)
  | str y =>
    obtain ⟨t, rfl⟩ := rv
    exact PySem.P.repr_of_str (hq _ _ _ fun _ _ e => e) ok.z
  | lst ha rs => exact byRef _ rv
  | tup ha rs => exact byRef _ rv
  | dic a b c => exact byRef _ rv
instance (d : D) : Decidable (ShowOk d) := decidable_of_iff (d.showable = true ∧ d.hasDict = false ∧ d.depth ≤ 60 ∧ d.shown.length ≤ sizeLine) ⟨fun h => ⟨h.1, h.2.1, h.2.2.1, h.2.2.2⟩, fun h => ⟨h.1, h.2, h.3, h.4⟩⟩
def reprD : List D → Option D
  | [d] => if ShowOk d then some (.str d.shown) else none
  | _ => none
theorem cs_repr {K} : CallS K (rRepr K) reprD := fun F σ H ρ δ xs ds z G R hz Q q => by
  unfold reprD at hz
  split at hz
  · rename_i d
    split at hz
    · rename_i ok
      cases hz
      obtain ⟨v, rfl, r⟩ := reps1 R
      exact ⟨_, d, v, rfl, r, ok, q _ _ (fun _ _ e => e) (.str _)⟩
    · cases hz
  · cases hz
section
variable {X : Cx} {e : Expr} {es : List Expr} {r : MA} {p pos : Pos}
theorem pd_repr (hm : X.mg "repr" = none) (hgd : X.A.guards = some []) (hu : X.A.units + 65 < cLine) (ha : PDA X (e :: es) r) (hg : Gl X "repr" := by rfl) (he : starEach (e :: es) X.env = (false, eval e X.env) :: starEach es X.env := by rfl) (hpl : (backTo pos (starEach es X.env)).any (·.1) = false := by rfl) : PD X (.Call (.Name "repr" p) (e :: es) [] pos) (mCall reprD r) :=
  pd_cb (by decide +kernel) (call_reprD hgd hu) cs_repr ha hg hm (by decide) (by decide) he hpl
end
end PD
namespace PD
open PySem PySem.Spec PyProof.Rows L2
end PD
namespace PD
open PySem PySem.Spec PyProof.Rows L2
theorem cells_len (ns : List Int) : 0 < (cellsOf ns).length ∧ (cellsOf ns).length ≤ 64 := by
  unfold cellsOf
  cases ns with
  | nil => decide
  | cons n r =>
    rw [if_neg (by simp), List.append_nil, List.length_take, List.length_cons]
    omega
theorem cells_eq {ns : List Int} {bb : Bool} (h : decide ((ns.length : Int) = 0) = bb) : ns.take 63 ++ (if bb = true then [0] else []) = cellsOf ns := by
  unfold cellsOf
  subst h
  cases ns with
  | nil => rfl
  | cons n t =>
    rw [decide_eq_false (by rw [List.length_cons]; omega), if_neg Bool.false_ne_true, if_neg (by simp)]
theorem rep0 (b : Bool) : (List.replicate ((if b = true then 1 else 0 : Int)).toNat [V.int 0]).flatten = (if b = true then [0] else []).map V.int := by cases b <;> rfl
def nextOk (δ : Dk) (many : Int) : Bool := decide (0 < many ∧ many ≤ 10000000000000 ∧ 0 < δ.cells.length ∧ δ.rests.length = δ.cells.length ∧ 0 ≤ δ.k ∧ δ.k ≤ 1000000000 ∧ δ.lft = none)
def atOf (δ : Dk) : Nat := (δ.k % (δ.cells.length : Int)).toNat
/-- what is told, by what is mixed of a cell and the turn -/
def nextOf (mix : Int → Int → Int) (δ : Dk) (many : Int) : Int × Dk :=
  let r := δ.rests.getD (atOf δ) 0
  if 0 < r then (r % many, ⟨δ.cells, δ.k + 1, δ.rests.set (atOf δ) (r / many), δ.lft⟩) else (mix (δ.cells.getD (atOf δ) 0) δ.k % many, ⟨δ.cells, δ.k + 1, δ.rests, δ.lft⟩)
def fNext (mix : Int → Int → Int) : List D → Dk → Option (D × Dk)
  | [.int many], δ => if nextOk δ many then some (.int (nextOf mix δ many).1, (nextOf mix δ many).2) else none
  | _, _ => none
structure DkOk (b : Nat) (δ : Dk) : Prop where
  k0 : 0 ≤ δ.k
  k1 : δ.k ≤ b
  c0 : 0 < δ.cells.length
  r0 : δ.rests.length = δ.cells.length
  l0 : δ.lft = none
theorem DkOk.mono {b c : Nat} {δ : Dk} (h : DkOk b δ) (hb : b ≤ c) : DkOk c δ := ⟨h.k0, by have := h.k1; omega, h.c0, h.r0, h.l0⟩
theorem DkOk.start (ns : List Int) : DkOk 0 (deckOf ns) := ⟨Int.le_refl 0, Int.le_refl 0, (cells_len ns).1, by unfold deckOf; simp, rfl⟩
theorem next_wp {mix : Int → Int → Int} {b : Nat} {δ : Dk} {many : Int} {P : D → Dk → Prop} (h : DkOk b δ) (hb : b ≤ 1000000000) (h0 : 0 < many) (h1 : many ≤ 10000000000000) (p : ∀ r δ', 0 ≤ r → r < many → DkOk (b + 1) δ' → P (.int r) δ') : WK (fNext mix) [.int many] δ P := by
  have hk := h.k1
  have ok : nextOk δ many = true := decide_eq_true ⟨h0, h1, h.c0, h.r0, h.k0, by omega, h.l0⟩
  have rd : ∀ x : Int, 0 ≤ x % many ∧ x % many < many := fun x => ⟨Int.emod_nonneg _ (by omega), Int.emod_lt_of_pos _ h0⟩
  refine ⟨_, _, if_pos ok, ?_⟩
  have hk0 := h.k0
  unfold nextOf
  dsimp only
  split
  · exact p _ _ (rd _).1 (rd _).2 ⟨show 0 ≤ δ.k + 1 by omega, show δ.k + 1 ≤ ((b + 1 : Nat) : Int) by omega, h.c0, by show (δ.rests.set _ _).length = _; rw [List.length_set]; exact h.r0, h.l0⟩
  · exact p _ _ (rd _).1 (rd _).2 ⟨show 0 ≤ δ.k + 1 by omega, show δ.k + 1 ≤ ((b + 1 : Nat) : Int) by omega, h.c0, h.r0, h.l0⟩
end PD
namespace PD
open PySem PySem.Spec PyProof.Rows L2
theorem atI_getD {xs : List Int} {i : Int} (h0 : 0 ≤ i) (h1 : i < xs.length) : atI (xs.map V.int) i = some (.int (xs.getD i.toNat 0)) := by
  obtain ⟨x, _, e2, _⟩ := atI_in h0 h1
  rw [atI_map]
  unfold atI
  rw [ixN_in h0 h1]
  show (xs[i.toNat]?).map V.int = _
  rw [e2, List.getD_eq_getElem?_getD, e2]
  rfl
theorem mod_small (c k : Int) {p a b : Int} (hp : 0 < p) (hp2 : p ≤ 4000000000) (ha : 0 ≤ a) (ha2 : a ≤ 1000000) (hb : 0 ≤ b) (hb2 : b ≤ 1000000) (h0 : 0 ≤ k) (h1 : k ≤ 1000000000) : (c % p + a * k + b).natAbs < 2 ^ 64 := by
  have a1 := Int.emod_nonneg c (show p ≠ 0 by omega)
  have a2 := Int.emod_lt_of_pos c hp
  have a3 : 0 ≤ a * k := Int.mul_nonneg ha h0
  have a4 : a * k ≤ 1000000 * 1000000000 := Int.mul_le_mul ha2 h1 h0 (by decide)
  rw [show (2 : Nat) ^ 64 = 18446744073709551616 by decide]
  omega
end PD
namespace PD
open PySem PySem.Spec PyProof.Rows L2
section
variable {X : Cx} {pos : Pos}
/-- x, y = e where e is a list -/
def gLstM (n : Nat) (m : MGs) : MG := fun d ρ => match d with
  | .list ds => if ds.length = n then m ds ρ else none
  | _ => none
theorem pdg_lst {es : List Expr} {k n : Nat} {sl : List Nat} {m : MGs} (hc : X.calm = true) (h : PDGs X es sl m) (hn : (assignEach es X.env).length = n := by rfl) (hst : (assignEach es X.env).findIdx? (·.1) = none := by rfl) : PDG X (.Tuple es k pos) sl (gLstM n m) := by
  obtain ⟨g, p1, s1⟩ := h.ex
  refine ⟨_, L2.pg_lst hc p1 hn hst, fun F σ H ρ δ v d ρ' G r e Q q => ?_⟩
  unfold gLstM at e
  split at e
  · split at e
    · rename_i hl
      cases r with
      | lst ha r => exact ⟨_, _, rfl, ha.sq, by rw [r.length]; exact hl, s1 F σ H ρ δ _ _ ρ' G r e _ q⟩
    · cases e
  · cases e
theorem wg_lst {ρ : List Sl} {n : Nat} {m d P} : WG (gLstM n m) d ρ P ↔ ∃ ds, d = .list ds ∧ ds.length = n ∧ WGs m ds ρ P := by
  constructor
  · rintro ⟨ρ', e, p⟩
    unfold gLstM at e
    split at e
    · split at e
      · rename_i hl; exact ⟨_, rfl, hl, _, e, p⟩
      · cases e
    · cases e
  · rintro ⟨ds, rfl, hl, ρ', e, p⟩
    exact ⟨ρ', by unfold gLstM; simp only; rw [if_pos hl]; exact e, p⟩
end
end PD
namespace PD
open PySem PySem.Spec PyProof.Rows L2
def eqS : D → D → Option D := onS (fun _ _ => true) fun i j => .bool (decide (i = j))
def neS : D → D → Option D := onS (fun _ _ => true) fun i j => .bool (!decide (i = j))
section
variable {X : Cx}
theorem cs_neS : CmpS X .NotEq neS := ⟨fun x y H Q => ∃ i j, x = .str i ∧ y = .str j ∧ Q (.bl (!decide (i = j))) H, by
  intro pins s σ H x y v u Q I rx ry h
  obtain ⟨i, j, rfl, rfl, q⟩ := h
  refine op_ne pins s σ H _ _ v u Q I rx ry ⟨rfl, ?_⟩
  have e : decide (V.str i = V.str j) = decide (i = j) := by rw [Bool.eq_iff_iff]; simp
  rw [e]; exact q, ops_cmpS (c := fun i j => !decide (i = j))⟩
end
theorem w_eqS {x y : Str} {P : D → Prop} : W1 (eqS (.str x) (.str y)) P ↔ P (.bool (decide (x = y))) := ⟨fun ⟨_, h, p⟩ => by cases h; exact p, fun p => ⟨_, rfl, p⟩⟩
theorem w_neS {x y : Str} {P : D → Prop} : W1 (neS (.str x) (.str y)) P ↔ P (.bool (!decide (x = y))) := ⟨fun ⟨_, h, p⟩ => by cases h; exact p, fun p => ⟨_, rfl, p⟩⟩
/-- dicts that a law's odd things hold: {} and {'a': 1} -/
def oddE : List (D × D) → Bool
  | [] => true
  | [(.str x, .int i)] => decide (x = Str.ofString "a") && decide (i = 1)
  | _ => false
mutual
def shB : D → Nat
  | .none => 4
  | .bool _ => 5
  | .int i => (Str.ofString (toString i)).length
  | .str x => 10 * x.length + 2
  | .list ds => shBs ds + 3
  | .tuple ds => shBs ds + 3
  | .dict _ => 8
def shBs : List D → Nat
  | [] => 0
  | d :: ds => shB d + 2 + shBs ds
end
theorem textFrom_le : ∀ (ts : List Str) (k : Nat) (acc : Str), (textFrom k acc ts).length ≤ acc.length + (ts.map fun t => t.length + 2).sum
  | [], k, acc => by simp [textFrom]
  | t :: r, k, acc => by
    have ih := textFrom_le r (k + 1) (acc ++ (if k > 0 then ", " else "" : String) ++ t)
    have e : (acc ++ (if k > 0 then ", " else "" : String) ++ t).length ≤ acc.length + 2 + t.length := by
      rw [TL.len_tl, TL.tl_append, TL.tl_append, List.length_append, List.length_append, ← TL.len_tl, ← TL.len_tl, ← TL.len_tl]
      have : ((if k > 0 then ", " else "" : String) : Str).length ≤ 2 := by split <;> decide
      omega
    rw [List.map_cons, List.sum_cons]
    show (textFrom (k + 1) (acc ++ (if k > 0 then ", " else "" : String) ++ t) r).length ≤ _
    omega
theorem join_le (ts : List Str) : (Str.join ", " ts).length ≤ (ts.map fun t => t.length + 2).sum := by
  have := StrLaws.join_length_le (Str.ofString ", ") ts
  have e : (Str.ofString ", ").length = 2 := by decide
  rw [e] at this
  have e2 : ∀ l : List Str, (l.map fun t => t.length + 2).sum = (l.map (·.length)).sum + l.length * 2 := fun l => by
    induction l with
    | nil => rfl
    | cons a l ih => simp only [List.map_cons, List.sum_cons, List.length_cons, ih]; omega
  rw [e2]
  exact this
mutual
/-- texts of signs -/
def ascD : D → Bool
  | .str x => x.cps.toList.all (· < 16 ^ 8)
  | .list ds => ascDs ds
  | .tuple ds => ascDs ds
  | .dict es => oddE es
  | _ => true
def ascDs : List D → Bool
  | [] => true
  | d :: ds => ascD d && ascDs ds
end
mutual
theorem shown_le : ∀ d : D, ascD d = true → d.shown.length ≤ shB d
  | .none, _ => by simp only [PyData.shown, shB]; decide
  | .bool b, _ => by simp only [PyData.shown, shB]; cases b <;> decide
  | .int i, _ => by simp only [PyData.shown, shB]; exact Nat.le_refl _
  | .str x, h => by
    simp only [PyData.shown, shB]
    refine StrLaws.reprText_len x fun c hc => ?_
    have := List.all_eq_true.mp (show x.cps.toList.all (· < 16 ^ 8) = true by simpa [ascD] using h) c hc
    exact of_decide_eq_true this
  | .list ds, h => by
    have ih := showns_le ds (by simpa [ascD] using h)
    have := textFrom_le (PyData.shownAll ds) 0 (Str.ofString "[")
    simp only [PyData.shown, shB, listText]
    rw [TL.len_tl, TL.tl_append, List.length_append, ← TL.len_tl, ← TL.len_tl]
    have e1 : (Str.ofString "[").length = 1 := by decide
    have e2 : (Str.ofString "]").length = 1 := by decide
    rw [e1] at this
    rw [e2]
    omega
  | .tuple ds, h => by
    have ih := showns_le ds (by simpa [ascD] using h)
    have := join_le (PyData.shownAll ds)
    simp only [PyData.shown, shB, tupleText]
    rw [TL.len_tl, TL.tl_append, TL.tl_append, List.length_append, List.length_append, ← TL.len_tl, ← TL.len_tl, ← TL.len_tl]
    have e1 : (Str.ofString "(").length = 1 := by decide
    have e2 : ((if (PyData.shownAll ds).length == 1 then ",)" else ")" : String) : Str).length ≤ 2 := by split <;> decide
    rw [e1]
    omega
  | .dict es, h => by
    have h : oddE es = true := by simpa [ascD] using h
    unfold oddE at h
    split at h
    · decide +kernel
    · simp only [Bool.and_eq_true, decide_eq_true_eq] at h
      obtain ⟨rfl, rfl⟩ := h
      decide +kernel
    · cases h
theorem showns_le : ∀ ds : List D, ascDs ds = true → ((PyData.shownAll ds).map fun t => t.length + 2).sum ≤ shBs ds
  | [], _ => by simp [PyData.shownAll, shBs]
  | d :: ds, h => by
    simp only [ascDs, Bool.and_eq_true] at h
    have h1 := shown_le d h.1
    have h2 := showns_le ds h.2
    simp only [PyData.shownAll, shBs, List.map_cons, List.sum_cons]
    omega
end
end PD
namespace PD
open PySem PySem.Spec PyProof.Rows L2
def noV (ρ : List Sl) (vs : List Nat) : Bool := vs.all fun i => match ρ[i]? with
  | some .no => true
  | _ => false
theorem noV_get {ρ : List Sl} {vs : List Nat} (h : noV ρ vs = true) {i : Nat} (hi : i ∈ vs) : ρ[i]? = some .no := by
  have := List.all_eq_true.mp h i hi
  split at this
  · assumption
  · cases this
theorem noV_noU {ρ : List Sl} {vs : List Nat} (h : noV ρ vs = true) : noU ρ vs = true := List.all_eq_true.mpr fun i hi => by
  rw [noV_get h hi]
theorem noV_wipe {ρ : List Sl} {vs : List Nat} (h : noV ρ vs = true) : wipeR ρ vs = ρ := list_ext fun i => by
  rw [wipeR_get]
  split
  · rename_i hi
    have := noV_get h hi
    have hl : i < ρ.length := (List.getElem?_eq_some_iff.mp this).1
    rw [if_pos hl, this]
  · rfl
def compX (g : MG) (mx : MX) (vs : List Nat) : List D → List Sl → Dk → Option (List D × List Sl × Dk)
  | [], ρ, δ => some ([], ρ, δ)
  | d :: ds, ρ, δ => (g d ρ).bind fun ρ2 => (mx ρ2 δ).bind fun q => if noU q.2.1 vs = true then (compX g mx vs ds (wipeR q.2.1 vs) q.2.2).map fun r => (q.1 :: r.1, r.2) else none
def xLc (mi : MA) (vs : List Nat) (g : MG) (mx : MX) : MX := fun ρ δ => (mi ρ δ).bind fun p => if noV ρ vs = true then (compX g mx vs p.1 ρ p.2).bind fun q => if q.1.length ≤ sizeLine ∧ noV q.2.1 vs = true then some (.list q.1, q.2) else none else none
/-- back from the block, whose lists have changed -/
theorem Good.backX {K F σ H H1 ρ1 ρ δ δ1 D vs} (G1 : Good K F σ H1 ρ1 δ1) (hu : noV ρ vs = true) (hD : H1 D = none) (G : Good K (F.plus D) (L2.wipe σ vs) H ρ δ) : Good K F σ H ρ δ := by
  have an : Mv (Mm (F.plus D) (L2.wipe σ vs) ρ) H (Mm F σ ρ) H := fun a o e n => ⟨e, fun z => n (by
    have : Mm (F.plus D) (L2.wipe σ vs) (wipeR ρ vs) a := by rw [Mm_wipe (noV_noU hu), Mm_plus]; exact .inl z
    rw [noV_wipe hu] at this; exact this)⟩
  have ni : ∀ {i : Nat} {x : Sl}, ρ[i]? = some x → x ≠ .no → i ∉ vs := fun {i x} e n hi => by
    rw [noV_get hu hi] at e
    exact n (Option.some.inj e).symm
  refine ⟨by have := G.len; rw [wipe_length] at this; exact this, fun i d e => ?_, fun i ds e => ?_, fun i j ds es a e1 e2 e3 e4 => ?_, fun a ha => G.m0 a (.inl ha), fun i e => ?_, fun p e => ?_, G.fr⟩
  · obtain ⟨v, e1, r⟩ := G.val i d e
    rw [wipe_get, if_neg (ni e (fun z => nomatch z))] at e1
    exact ⟨v, e1, r.mv an⟩
  · obtain ⟨a, xs, e1, e2, r, n⟩ := G.own i ds e
    rw [wipe_get, if_neg (ni e (fun z => nomatch z))] at e1
    exact ⟨a, xs, e1, e2, r.mv an, fun z => n.1 (.inl z), n.2⟩
  · refine G.inj i j ds es a e1 e2 ?_ ?_
    · rw [wipe_get, if_neg (ni e1 (fun z => nomatch z))]; exact e3
    · rw [wipe_get, if_neg (ni e2 (fun z => nomatch z))]; exact e4
  · have hs := G.dsl i e
    rw [wipe_get, if_neg (ni e (fun z => nomatch z))] at hs
    exact hs.mo rfl (fun a u t e1 n1 => ⟨e1, fun z => n1 (.inl z)⟩) (Nat.le_refl _)
  · obtain ⟨_, _, _, d3⟩ := G.dck p e
    obtain ⟨d1, d2, d4, _⟩ := G1.dck p e
    exact ⟨d1, d2, d4, d3⟩
theorem lc_inX {K : PySem.W.Frag} {g : TG} {te : TE} {vs : List Nat} {mg : MG} {mx : MX} {sl : List Nat} {F : Fr} {σ : L2.St} {H1 : Hp} {ρ ρe : List Sl} {δ1 δ2 : Dk} {J : It} {ds out : List D} {Q : VK}
    (hg : ∀ F σ H ρ δ v d ρ', Good K F σ H ρ δ → Rep K (Mm F σ ρ) H v d → mg d ρ = some ρ' → ∀ Q : L2.St → Hp → Prop, (∀ σ', Good K F σ' H ρ' δ → Mv (Mm F σ ρ) H (Mm F σ' ρ') H → Set1 sl σ σ' ρ ρ' → Q σ' H) → g v σ H Q)
    (he : SndX K te mx) (hs : ∀ i ∈ sl, i ∈ vs) (hv : noV ρ vs = true) (e2 : compX mg mx vs ds ρ δ1 = some (out, ρe, δ2)) (hve : noV ρe vs = true) (hz : out.length ≤ sizeLine) (G1 : Good K F σ H1 ρ δ1) (Wk : Walks K (Mm F σ ρ) H1 J ds)
    (q : ∀ v H', Good K F σ H' ρe δ2 → Mv (Mm F σ ρ) H1 (Mm F σ ρe) H' → Rep K (Mm F σ ρe) H' v (.list out) → Q v H') : ∀ D, H1 D = none → ∃ W : Nat → Nat → Hp → Prop, (∃ m, W 0 m (upd H1 D (.lst []))) ∧ ∀ i m H, W i m H →
      (J.stop i H ∧ Q (.ref D) H) ∨ (J.go i H ∧ ∃ Nx : Hp → Prop, (∀ H', Nx H' → ∃ m', m' < m ∧ W (i + 1) m' H') ∧ ∀ x H', J.yld i H x H' → g x (L2.wipe σ vs) H' fun σ2 H2 => L2.wipe σ2 vs = L2.wipe σ vs ∧ tYes σ2 H2 fun b H3 =>
        if b = true then te σ2 H3 fun y H4 => ∃ acc, H4 D = some (.lst acc) ∧ acc.length < sizeLine ∧ Nx (upd H4 D (.lst (acc ++ [y]))) else Nx H3) := fun D hD => by
  have GW := G1.wipe (vs := vs) (noV_noU hv)
  rw [noV_wipe hv] at GW
  obtain ⟨GP, MP⟩ := GW.plus (o := .lst []) hD
  have eM0 : Mm F (L2.wipe σ vs) ρ = Mm F σ ρ := by have := Mm_wipe (F := F) (σ := σ) (noV_noU hv); rwa [noV_wipe hv] at this
  rw [eM0] at MP
  have nDk : ∀ p, F.dk = some p → D ≠ p.1 ∧ D ≠ p.2 ∧ D ≠ p.3 := fun p hp => ⟨(ne_of_none (G1.dck p hp).2.2.2.one hD).symm, ((G1.dck p hp).2.2.2.ne2N hD).symm, (ne_of_none (G1.dck p hp).2.2.2.tri hD).symm⟩
  have hD0 : (F.plus D).H0 D = none := G1.fresh0 hD
  refine ⟨fun i m H => m = ds.length - i ∧ i ≤ ds.length ∧ ∃ ρ3 δ3 done rest acc, noU ρ3 vs = true ∧ wipeR ρ3 vs = ρ3 ∧ Good K (F.plus D) (L2.wipe σ vs) H ρ3 δ3 ∧ Mv (Mm F σ ρ) H1 (Mm (F.plus D) (L2.wipe σ vs) ρ3) H ∧ H D = some (.lst acc) ∧ Reps K (Mm (F.plus D) (L2.wipe σ vs) ρ3) H acc done ∧
    compX mg mx vs (ds.drop i) ρ3 δ3 = some (rest, ρe, δ2) ∧ done ++ rest = out, ⟨_, rfl, Nat.zero_le _, ρ, δ1, [], out, [], noV_noU hv, noV_wipe hv, GP, MP, upd_same, .nil, e2, rfl⟩, ?_⟩
  rintro i m H2 ⟨rfl, hile, ρ3, δ3, done, rest, acc, hu3, hw3, G2, M2, hacc, racc, ec, eo⟩
  by_cases hlt : i < ds.length
  · obtain ⟨go, yl⟩ := (Wk _ H2 M2 G2.mm i).1 hlt
    have hld : i < ds.length := hlt
    rw [List.drop_eq_getElem_cons hld] at ec
    refine .inr ⟨go, fun H' => ∃ ρ3 δ3 done rest acc, noU ρ3 vs = true ∧ wipeR ρ3 vs = ρ3 ∧ Good K (F.plus D) (L2.wipe σ vs) H' ρ3 δ3 ∧ Mv (Mm F σ ρ) H1 (Mm (F.plus D) (L2.wipe σ vs) ρ3) H' ∧ H' D = some (.lst acc) ∧ Reps K (Mm (F.plus D) (L2.wipe σ vs) ρ3) H' acc done ∧
      compX mg mx vs (ds.drop (i + 1)) ρ3 δ3 = some (rest, ρe, δ2) ∧ done ++ rest = out, fun H' h => ⟨ds.length - (i + 1), by omega, rfl, hlt, h⟩, fun x H3 hy => ?_⟩
    obtain ⟨kp, dx, edx, rdx⟩ := yl x H3 hy
    rw [List.getElem?_eq_getElem hld] at edx
    cases edx
    replace G2 := G2.keep kp
    replace M2 := M2.trans (Mv.same kp)
    replace hacc := kp _ _ hacc
    replace racc := racc.mv (Mv.same kp)
    unfold compX at ec
    obtain ⟨ρ4, f1, ec⟩ := Option.bind_eq_some_iff.mp ec
    obtain ⟨⟨y, ρ5, δ5⟩, f3, ec⟩ := Option.bind_eq_some_iff.mp ec
    dsimp only at ec
    split at ec
    · rename_i hu5
      obtain ⟨⟨more, ρ6, δ6⟩, f4, ec⟩ := Option.map_eq_some_iff.mp ec
      cases ec
      refine hg ((F.plus D).pin D (.lst acc)) (L2.wipe σ vs) H3 ρ3 δ3 x _ ρ4 (G2.pin (.inr rfl) hacc) (by rw [Mm_pin]; exact rdx) f1 _ fun σ2 G3 M3 T3 => ?_
      obtain ⟨w1, w2⟩ := T3.wipes hs
      rw [wipe_wipe] at w1
      refine ⟨w1, ?_⟩
      simp only [tYes, ↓reduceIte]
      refine he ((F.plus D).pin D (.lst acc)) σ2 H3 ρ4 δ3 y ρ5 δ5 G3 f3 _ fun v H5 G5 M5 R5 => ?_
      rw [Mm_pin, Mm_pin] at M5
      rw [Mm_pin, Mm_pin] at M3
      rw [Mm_pin] at R5
      have hD5 := G5.fr D _ upd_same nDk
      have GB := (Good.unpin hD0 (.inr rfl) G5).wipe hu5
      rw [w1] at GB
      obtain ⟨GC, MC⟩ := GB.write ⟨_, _, _, G1⟩ hD (o := .lst (acc ++ [v]))
      have eM5 : Mm (F.plus D) (L2.wipe σ vs) (wipeR ρ5 vs) = Mm (F.plus D) σ2 ρ5 := by rw [← w1]; exact Mm_wipe hu5
      rw [eM5] at MC
      refine ⟨acc, hD5, ?_, wipeR ρ5 vs, δ5, done ++ [y], more, acc ++ [v], noU_wipe ρ5 vs, wipeR_wipeR ρ5 vs, GC, ?_, upd_same, ?_, f4, by rw [← eo]; simp⟩
      · have : out.length = done.length + (more.length + 1) := by rw [← eo]; simp
        rw [racc.length]
        omega
      · rw [eM5]; exact ((M2.trans M3).trans M5).trans MC
      · rw [eM5]; exact ((racc.mv (M3.trans M5)).append (.cons R5 .nil)).mv MC
    · cases ec
  · have hi' : i = ds.length := by omega
    subst hi'
    refine .inl ⟨(Wk _ H2 M2 G2.mm ds.length).2 (Nat.le_refl _), ?_⟩
    rw [List.drop_of_length_le (Nat.le_refl _)] at ec
    cases ec
    rw [List.append_nil] at eo
    subst eo
    have an : Mv (Mm (F.plus D) (L2.wipe σ vs) ρe) H2 (Mm F σ ρe) H2 := fun a o e n => ⟨e, fun z => n (by
      have : Mm (F.plus D) (L2.wipe σ vs) (wipeR ρe vs) a := by rw [Mm_wipe hu3, Mm_plus]; exact .inl z
      rw [hw3] at this; exact this)⟩
    have GE := G1.backX hve hD G2
    exact q _ _ GE (M2.trans an) (.lst ⟨fun z => by
      rcases z with z | ⟨j, es, z1, z2⟩
      · exact (G1.m0 D z).ne hD
      · obtain ⟨a', xs', y1, y2, y3, y4⟩ := G2.own j es z1
        rw [wipe_get] at y1
        split at y1
        · split at y1 <;> cases y1
        · rw [z2] at y1; cases y1
          exact y4.1 (.inr rfl), hacc⟩ (racc.mv an))
theorem snd_lcX {K wi g te vs mi mg mx} {sl : List Nat} (hi : ∀ F σ H ρ δ ds δ', Good K F σ H ρ δ → mi ρ δ = some (ds, δ') → ∀ R : It → Hp → Prop, (∀ J H', Good K F σ H' ρ δ' → Mv (Mm F σ ρ) H (Mm F σ ρ) H' → Walks K (Mm F σ ρ) H' J ds → R J H') → wi σ H R)
    (hg : ∀ F σ H ρ δ v d ρ', Good K F σ H ρ δ → Rep K (Mm F σ ρ) H v d → mg d ρ = some ρ' → ∀ Q : L2.St → Hp → Prop, (∀ σ', Good K F σ' H ρ' δ → Mv (Mm F σ ρ) H (Mm F σ' ρ') H → Set1 sl σ σ' ρ ρ' → Q σ' H) → g v σ H Q)
    (he : SndX K te mx) (hs : ∀ i ∈ sl, i ∈ vs) : SndX K (tLc wi g tYes te vs) (xLc mi vs mg mx) := fun F σ H ρ δ d ρ' δ' G e Q q => by
  unfold xLc at e
  obtain ⟨⟨ds, δ1⟩, e1, e⟩ := Option.bind_eq_some_iff.mp e
  dsimp only at e
  split at e
  · rename_i hv
    obtain ⟨⟨out, ρe, δ2⟩, e2, e⟩ := Option.bind_eq_some_iff.mp e
    dsimp only at e
    split at e
    · rename_i hz
      have e := Option.some.inj e
      have ea := congrArg Prod.fst e
      have eb := congrArg (fun p => p.2.1) e
      have ec := congrArg (fun p => p.2.2) e
      dsimp only at ea eb ec
      subst ea; subst eb; subst ec
      exact hi F σ H ρ δ ds δ1 G e1 _ fun J H1 G1 M1 Wk => lc_inX hg he hs hv e2 hz.2 hz.1 G1 Wk fun v H' G' M' R => q v H' G' (M1.trans M') R
    · cases e
  · cases e
section
variable {X : Cx} {a b e tg iter elt : Expr} {ma mb : ME} {mi : MA} {mx : MX} {pos : Pos} {scope : Scope} {own : List (Str × Nat)} {sl : List Nat} {mg : MG}
structure BlkX (X : Cx) (scope : Scope) (own : List (Str × Nat)) (tg : Expr) (elt : Expr) (sl : List Nat) (mg : MG) (mx : MX) : Prop where
  g : ∀ (s : Shared) (H : Hp) (C : Addr) (cl : List (Str × Addr)) (fp : List Addr), PDG (X.blk s H scope (compEnvC scope cl C X.env) fp) tg sl mg
  e : ∀ (s : Shared) (H : Hp) (C : Addr) (cl : List (Str × Addr)) (fp : List Addr), PDX (X.blk s H scope (compEnvC scope cl C X.env) fp) elt mx
  o : ∀ i ∈ sl, i ∈ own.map (·.2)
theorem pdx_lc (hc : X.calm = true) (hN : X.N.Nodup) (hi : PDI X tg iter mi) (ok : BlkOk X.N X.env.scope scope own) (B : BlkX X scope own tg elt sl mg mx) (hs : ∀ x, foldedSetIterable iter X.env x = pure x := by intro _; rfl) :
    PDX X (.ListComp elt [⟨tg, iter, [], 0⟩] scope pos) (xLc mi (own.map (·.2)) mg mx) := by
  obtain ⟨wi, h1, s1⟩ := hi.ex
  have p1 : ∀ (s : Shared) (H : Hp) (C : Addr) (cl : List (Str × Addr)) (fp : List Addr), PG (X.blk s H scope (compEnvC scope cl C X.env) fp) tg (fun v σ H Q => ∀ s h C cl fp, (B.g s h C cl fp).ex.choose v σ H Q) := fun s h C cl fp => ⟨fun pins s' σ H v u Q I r q => (B.g s h C cl fp).ex.choose_spec.1.run pins s' σ H v u Q I r (q s h C cl fp)⟩
  have p3 : ∀ (s : Shared) (H : Hp) (C : Addr) (cl : List (Str × Addr)) (fp : List Addr), PE (X.blk s H scope (compEnvC scope cl C X.env) fp) elt (fun σ H Q => ∀ s h C cl fp, (B.e s h C cl fp).ex.choose σ H Q) := fun s h C cl fp => ⟨fun pins s' σ H Q I q => (B.e s h C cl fp).ex.choose_spec.1.run pins s' σ H Q I (q s h C cl fp)⟩
  refine ⟨_, pe_lc hc hN h1 ok p1 (fun _ _ _ _ _ => pts_nil) p3 hs, snd_lcX s1 (fun F σ H ρ δ v d ρ' G r e Q q s h C cl fp => (B.g s h C cl fp).ex.choose_spec.2 F σ H ρ δ v d ρ' G r e Q q) (fun F σ H ρ δ d ρ' δ' G e Q q s h C cl fp => (B.e s h C cl fp).ex.choose_spec.2 F σ H ρ δ d ρ' δ' G e Q q) B.o⟩
/-- an operator whose left side changes the slots -/
def xBinL (f : D → D → Option D) (mx : MX) (m : ME) : MX := fun ρ δ => (mx ρ δ).bind fun p => (m p.2.1 p.2.2).bind fun q => (f p.1 q.1).map fun z => (z, p.2.1, q.2)
theorem pdx_addL (ha : PDX X a mx) (hb : PD X b mb) : PDX X (.BinOp a .Add b pos) (xBinL addD mx mb) := by
  obtain ⟨ta, h1, s1⟩ := ha.ex
  obtain ⟨tb, h2, s2⟩ := hb.ex
  refine ⟨_, pe_op (OpR.or op_add (OpR.or op_add_str (OpR.or op_cat op_catP))) h1 h2, fun F σ H ρ δ d ρ' δ' G e Q q => ?_⟩
  obtain ⟨⟨y, ρ1, δ1⟩, e1, e⟩ := Option.bind_eq_some_iff.mp e
  obtain ⟨⟨z, δ2⟩, e2, e⟩ := Option.bind_eq_some_iff.mp e
  obtain ⟨w, e3, e⟩ := Option.map_eq_some_iff.mp e
  cases e
  refine s1 F σ H ρ δ _ _ _ G e1 _ fun u H1 G1 M1 R1 => s2 F σ H1 ρ1 δ1 _ _ G1 e2 _ fun v H2 G2 M2 R2 => ?_
  exact (OpS.or (ops_I0 fun _ _ _ _ => .int _) (OpS.or ops_addS (OpS.or ops_catL ops_catT))) F σ H2 _ _ u v y z _ G2 (R1.mv M2) R2 e3 _ fun w' H3 kp R3 => q _ _ (G2.keep kp) ((M1.trans M2).trans (Mv.same kp)) R3
def sRetX (mx : MX) : MS := fun ρ δ => (mx ρ δ).map fun p => (.rt p.1, p.2.1, p.2.2)
theorem pds_retX (he : PDX X e mx) : PDS X (.Return (some e) pos) (sRetX mx) := by
  obtain ⟨t, p1, s1⟩ := he.ex
  refine ⟨_, ps_ret p1, fun F σ H ρ δ fl ρ' δ' G e D q => ?_⟩
  obtain ⟨⟨x, ρ1, δ1⟩, e1, e⟩ := Option.map_eq_some_iff.mp e
  cases e
  exact s1 F σ H ρ δ x _ _ G e1 _ fun v H1 G1 M1 R1 => q σ H1 G1 M1 v R1
end
end PD
namespace PD
open PySem PySem.Spec PyProof.Rows L2
def leS (a b : Str) : Bool := decide (a.cps.toList ≤ b.cps.toList)
def srt (xs : List Str) : List Str := xs.mergeSort leS
theorem leS_trans (a b c : Str) (h : leS a b = true) (g : leS b c = true) : leS a c = true := decide_eq_true (List.le_trans (of_decide_eq_true h) (of_decide_eq_true g))
theorem leS_total (a b : Str) : (leS a b || leS b a) = true := by
  rcases List.le_total a.cps.toList b.cps.toList with h | h
  · rw [show leS a b = true from decide_eq_true h]; rfl
  · rw [show leS b a = true from decide_eq_true h, Bool.or_true]
theorem leS_anti {a b : Str} (h : leS a b = true) (g : leS b a = true) : a = b := TL.ext_tl (List.le_antisymm (of_decide_eq_true h) (of_decide_eq_true g))
theorem srt_perm (xs : List Str) : (srt xs).Perm xs := List.mergeSort_perm xs leS
theorem srt_pw (xs : List Str) : (srt xs).Pairwise fun a b => leS a b = true := List.pairwise_mergeSort leS_trans leS_total xs
theorem ltCps_le (a b : List Nat) (h : ltCps a b = false) : b ≤ a := by
  rw [ltCps_eq] at h
  exact of_decide_eq_false h
theorem rising_pw : ∀ (xs : List Str) (x : Str), risingS x xs = true → (x :: xs).Pairwise fun a b => leS a b = true
  | [], x, _ => by simp
  | y :: ys, x, h => by
    simp only [risingS, Bool.and_eq_true, Bool.not_eq_true'] at h
    have ih := rising_pw ys y h.2
    have hxy : leS x y = true := decide_eq_true (ltCps_le _ _ h.1)
    refine List.pairwise_cons.mpr ⟨fun z hz => ?_, ih⟩
    rcases List.mem_cons.mp hz with rfl | hz
    · exact hxy
    · exact leS_trans _ _ _ hxy ((List.pairwise_cons.mp ih).1 z hz)
theorem sorted_srt {xs ys : List Str} (hp : ys.Perm xs) (h : sortedS ys = true) : ys = srt xs := by
  refine List.Perm.eq_of_pairwise (le := fun a b => leS a b = true) (fun a b _ _ h g => leS_anti h g) ?_ (srt_pw xs) (hp.trans (srt_perm xs).symm)
  cases ys with
  | nil => simp
  | cons y ys => exact rising_pw ys y h
def sortedD : List D → Option D
  | [.list ds] => (strsD ds).bind fun xs => if xs.length < 64 then some (.list ((srt xs).map .str)) else none
  | _ => none
theorem cs_sorted {K} : CallS K (rSortedS K) sortedD := fun F σ H ρ δ xs ds z G R hz Q q => by
  unfold sortedD at hz
  split at hz
  · obtain ⟨ys, e1, hz⟩ := Option.bind_eq_some_iff.mp hz
    split at hz
    · rename_i hl
      cases hz
      obtain ⟨v, rfl, r⟩ := reps1 R
      cases r with
      | @lst a vs _ ha rs =>
        have ev := rs.strs e1
        subst ev
        refine ⟨a, ys, rfl, ha.sq, hl, fun zs p hp hs hn => ?_⟩
        rw [sorted_srt hp hs]
        exact q _ _ (upd_keeps hn) (.lst ⟨G.mfree hn, upd_same⟩ (Reps.strsOf _))
    · cases hz
  · cases hz
section
variable {X : Cx} {e : Expr} {es : List Expr} {r : MA} {p pos : Pos}
theorem pd_sorted (hm : X.mg "sorted" = none) (ha : PDA X (e :: es) r) (hg : Gl X "sorted" := by rfl) (he : starEach (e :: es) X.env = (false, eval e X.env) :: starEach es X.env := by rfl) (hpl : (backTo pos (starEach es X.env)).any (·.1) = false := by rfl) : PD X (.Call (.Name "sorted" p) (e :: es) [] pos) (mCall sortedD r) :=
  pd_cb (by decide +kernel) cr_sortedS cs_sorted ha hg hm (by decide) (by decide) he hpl
end
def signs (x : Str) : List Str := x.cps.toList.map fun c => ⟨#[c]⟩
theorem call_listS {X : Cx} (hc : X.calm = true) : CallR X (.type "list") (fun xs H Q => ∃ x : Str, xs = [.str x] ∧ x.length ≤ sizeLine ∧ ∀ l, H l = none → Q (.ref l) (upd H l (.lst ((signs x).map V.str)))) := by
  intro pins s σ H xs us Q I r h
  obtain ⟨x, rfl, hl, q⟩ := h
  obtain ⟨u, rfl, t, rfl⟩ := vals1 r
  refine PySem.call_list_str (I.ok.hd hc) x t (fun h' tk acc c' kp e hit => ?_) hl
  have hv : Vals ((signs x).map V.str) acc.toList := by
    have hsz := hit.1
    have key : ∀ (n : Nat) (l : List Nat) (vs : List Value), l.length = n → vs.length = n → (∀ (j : Nat) (v : Value), vs[j]? = some v → ∃ c u, l[j]? = some c ∧ v = Value.str ⟨#[c]⟩ u) → Vals ((l.map fun c => (⟨#[c]⟩ : Str)).map V.str) vs := fun n => by
      induction n with
      | zero => intro l vs h1 h2 _; rw [List.length_eq_zero_iff.mp h1, List.length_eq_zero_iff.mp h2]; exact .nil
      | succ n ih =>
        intro l vs h1 h2 h3
        match l, vs, h1, h2 with
        | c :: l, v :: vs, h1, h2 =>
          obtain ⟨c', u', g1, g2⟩ := h3 0 v rfl
          simp at g1
          subst g1
          exact .cons ⟨u', g2⟩ (ih l vs (by simpa using h1) (by simpa using h2) fun j w hw => by simpa using h3 (j + 1) w (by simpa using hw))
    refine key x.cps.size x.cps.toList acc.toList (by simp) (by simp [hsz]) fun j v hv => ?_
    obtain ⟨c, u', g1, g2⟩ := hit.2 j v (by simpa using hv)
    exact ⟨c, u', by simpa using g1, g2⟩
  have hz : ((signs x).map V.str).length ≤ sizeLine := by
    unfold signs; simp; exact hl
  exact ⟨.ref s.heap.objs.size, _, I.laid (t' := tk) kp (Nat.le_refl _) (show ObjOk X.prog X.w _ h' _ (.lst ((signs x).map V.str)) from ⟨hz, acc.toList, c', hv, by simpa using e⟩), rfl, q _ (I.hok.fresh (Nat.le_refl _))⟩
section
variable {X : Cx} {e : Expr} {ma : ME} {pos : Pos}
def sUniS (i : Nat) (m : ME) : MS := fun ρ δ => (m ρ δ).bind fun p => match p.1 with
  | .str x => if x.length ≤ sizeLine ∧ i < ρ.length then some (.nx, ρ.set i (.uni ((signs x).map .str)), p.2) else none
  | _ => none
theorem pds_uniS (i : Nat) {x : Str} {pos' p2 p3 : Pos} (hc : X.calm = true) (hN : X.N.Nodup) (hm : X.mg "list" = none) (he : PD X e ma) (hi : X.N[i]? = some x := by rfl) (hx : Loc X.env.scope x := by first | exact Or.inl rfl | exact Or.inr rfl) (hs : swapsWith (.Call (.Name "list" p2) [e] [] p3) (some (.Name x pos')) pos.line X.env = pure false := by rfl) (hf : X.fn x = true ∨ X.env.scope.names.lookup x = some .local := by first | exact .inl rfl | exact .inr rfl)
    (hg : Gl X "list" := by rfl) (hst : starEach [e] X.env = (false, eval e X.env) :: starEach [] X.env := by rfl) (hpl : (backTo p3 (starEach [] X.env)).any (·.1) = false := by rfl) :
    PDS X (.Assign [.Name x pos'] (.Call (.Name "list" p2) [e] [] p3) pos) (sUniS i ma) := by
  obtain ⟨t, p1, s1⟩ := he.ex
  refine ⟨_, ps_set hN hi hx (pe_callTy (call_listS hc) hg hm (by decide +kernel) (pa_cons p1 pa_nil hst) (by decide) (by decide) hst hpl) hs hf, fun F σ H ρ δ fl ρ' δ' G e D q => ?_⟩
  obtain ⟨⟨d, δ1⟩, e1, e⟩ := Option.bind_eq_some_iff.mp e
  dsimp only at e
  split at e
  · rename_i y
    split at e
    · rename_i hz
      cases e
      refine s1 F σ H ρ δ _ _ G e1 _ fun v H1 G1 M1 R1 => ?_
      cases R1
      refine ⟨y, rfl, hz.1, fun l hl => ?_⟩
      obtain ⟨G2, M2⟩ := G1.uniNew i hz.2 hl (Reps.strsOf (signs y))
      exact q _ _ G2 (M1.trans M2)
    · cases e
  · cases e
end
theorem walk_keys {K M H A o kvs es} (n : ¬ M A) (hA : H A = some (.frz o (.dK kvs))) (r : RepK K M H kvs es) : Walks K M H (Itk A o kvs) (es.map (·.1)) := fun M2 H2 mv wf i => by
  have hl : ∀ {kvs : List (Key × V)} {es : List (D × D)}, RepK K M H kvs es → kvs.map (fun p => keyD p.1) = es.map (·.1) := @fun kvs => by
    induction kvs with
    | nil => intro es r; cases r; rfl
    | cons x xs ih => intro es r; cases r with | cons _ t => simp [ih t]
  have hk := hl r
  have hlen : kvs.length = (es.map (·.1)).length := by rw [← hk]; simp
  have hA2 := (mv A _ hA n).1
  refine ⟨fun hi => ⟨⟨hA2, by rw [hlen]; exact hi⟩, fun x H3 y => ?_⟩, fun hi => ⟨hA2, by rw [hlen]; exact hi⟩⟩
  obtain ⟨rfl, k, v, e1, rfl⟩ := y
  refine ⟨fun _ _ h => h, keyD k, by rw [← hk, List.getElem?_map, e1]; rfl, ?_⟩
  cases k with
  | inl i => exact .int i
  | inr i => exact .str i
def mLcKeys (r : Nat) (vs : List Nat) (g : MG) (tt : MT) (te : ME) : ME := fun ρ δ => match ρ[r]? with
  | some (.val (.dict es)) => if noU ρ vs = true then (compL g tt te (wipeR ρ vs) (es.map (·.1)) δ).bind fun q => if q.1.length ≤ sizeLine then some (.list q.1, q.2) else none else none
  | _ => none
theorem snd_lcKeys {K g tt te vs mg mt me r} {sl : List Nat} (hg : ∀ F σ H ρ δ v d ρ', Good K F σ H ρ δ → Rep K (Mm F σ ρ) H v d → mg d ρ = some ρ' → ∀ Q : L2.St → Hp → Prop, (∀ σ', Good K F σ' H ρ' δ → Mv (Mm F σ ρ) H (Mm F σ' ρ') H → Set1 sl σ σ' ρ ρ' → Q σ' H) → g v σ H Q)
    (ht : SndT K tt mt) (he : Snd K te me) (hs : ∀ i ∈ sl, i ∈ vs) : Snd K (fun σ H Q => tLockE (tLc (iKeys (tVar r)) g tt te vs) σ H Q ∨ tLc (iKeys (tVar r)) g tt te vs σ H Q) (mLcKeys r vs mg mt me) := fun F σ H ρ δ d δ' G e Q q => by
  unfold mLcKeys at e
  split at e
  · rename_i es hr
    split at e
    · rename_i hu
      obtain ⟨⟨out, δ2⟩, e2, e⟩ := Option.bind_eq_some_iff.mp e
      dsimp only at e
      split at e
      · rename_i hz
        obtain ⟨rfl, rfl⟩ : PyData.list out = d ∧ δ2 = δ' := by
          have := Option.some.inj e
          exact ⟨congrArg Prod.fst this, congrArg Prod.snd this⟩
        obtain ⟨v, hv, R⟩ := G.val r _ hr
        cases R with
        | @dic A kvs _ n hA rk =>
          rcases hA with hA | ⟨o, hA⟩
          · refine .inl ⟨A, .dK kvs, hA, trivial, fun od => ?_⟩
            have GL : Good K (F.lock A) σ (upd H A (.frz od (.dK kvs))) ρ δ := G.lock n hA
            refine ⟨_, hv, A, od, rfl, .inl ⟨kvs, upd_same, ?_⟩⟩
            refine lc_in (Q := fun w H' => H' A = some (.frz od (.dK kvs)) ∧ Q w (upd H' A (.dK kvs))) hg ht he hs hu e2 hz GL (walk_keys (by rw [Mm_lock]; exact n) upd_same (rk.lock hA)) fun w H' G' M' R' => ?_
            rw [Mm_lock] at M' R'
            have hA' : H' A = some (.frz od (.dK kvs)) := (M' A _ upd_same n).1
            refine ⟨hA', q w _ (G.unlock hA G' hA' fun _ _ h => h) (fun a o' e' n' => ?_) (R'.unlock hA')⟩
            by_cases haz : a = A
            · subst haz
              rw [hA] at e'; cases e'
              exact ⟨upd_same, n'⟩
            · rw [upd_ne haz]
              exact ⟨(M' a o' (by rw [upd_ne haz]; exact e') n').1, n'⟩
          · exact .inr ⟨_, hv, A, o, rfl, .inl ⟨kvs, hA, lc_in hg ht he hs hu e2 hz G (walk_keys n hA rk) q⟩⟩
      · cases e
    · cases e
  · cases e
end PD
namespace PD
open PySem PySem.Spec PyProof.Rows L2
section
variable {X : Cx} {elt tg : Expr} {p0 pos : Pos} {ifs : List Expr} {scope : Scope} {own : List (Str × Nat)} {mg : MG} {mt : MT} {me : ME} {sl : List Nat} {x : Str}
/-- y = [elt for k in NAME ..], NAME a dict -/
theorem pds_setLcKeys (i r : Nat) {y : Str} {py spos : Pos} (hc : X.calm = true) (hN : X.N.Nodup) (ok : BlkOk X.N X.env.scope scope own) (B : Blk X scope own tg ifs elt sl mg mt me) (hsw : swapsWith (.ListComp elt [⟨tg, .Name x p0, ifs, 0⟩] scope pos) (some (.Name y py)) spos.line X.env = pure true)
    (hNr : X.N[r]? = some x := by rfl) (hv : Vis X.env.scope x := by first | exact Or.inl rfl | exact Or.inr (Or.inl rfl) | exact Or.inr (Or.inr rfl)) (hd : (x == ("__debug__" : Str)) = false := by decide)
    (hcd : (x == ("__classdict__" : Str)) = false := by decide) (hy : X.N[i]? = some y := by rfl) (hyl : X.env.scope.names.lookup y = some .local := by rfl) (hs : ∀ z, foldedSetIterable (.Name x p0) X.env z = pure z := by intro _; rfl) :
    PDS X (.Assign [.Name y py] (.ListComp elt [⟨tg, .Name x p0, ifs, 0⟩] scope pos) spos) (sAsg (mLcKeys r (own.map (·.2)) mg mt me) (gSet i)) := by
  obtain ⟨g, tt, te, p1, p2, p3, s2, s3, s4⟩ := B.all
  have P := ps_setLc (py := py) (spos := spos) hc hN hy hyl hsw (pi_keys (pe_var hNr hv hd hcd)) ok p1 p2 p3 hs
  have PL := ps_lock P
  refine ⟨fun D σ H => tLock (tAsg (tLc (iKeys (tVar r)) g tt te (own.map (·.2))) (gName i)) D σ H ∨ tAsg (tLc (iKeys (tVar r)) g tt te (own.map (·.2))) (gName i) D σ H, ⟨fun pins s σ H D I h => h.elim (fun h => PL.run pins s σ H D I h) (fun h => P.run pins s σ H D I h)⟩, fun F σ H ρ δ fl ρ' δ' G e D q => ?_⟩
  obtain ⟨⟨d, δ1⟩, e1, e⟩ := Option.bind_eq_some_iff.mp e
  obtain ⟨ρ1, e2, e⟩ := Option.map_eq_some_iff.mp e
  cases e
  exact snd_lcKeys s2 s3 s4 B.o F σ H ρ δ d _ G e1 (fun v H' => D.nx (σ.set i (some v)) H') fun v H' G' M' R' => pg_set i F σ H' ρ _ v d _ G' R' e2 (fun σ' H'' => D.nx σ' H'') fun σ2 G2 M2 T2 => q σ2 H' G2 (M'.trans M2)
end
end PD
namespace PD
open PySem PySem.Spec PyProof.Rows L2
section
variable {ρ : List Sl} {δ : Dk}
theorem ws_retX {mx : MX} {P} : WS (sRetX mx) ρ δ P ↔ WX mx ρ δ fun d ρ1 δ1 => P (.rt d) ρ1 δ1 := by
  constructor
  · rintro ⟨f, ρ', δ', e, p⟩
    obtain ⟨⟨x, ρ1, δ1⟩, e1, e⟩ := Option.map_eq_some_iff.mp e
    cases e
    exact ⟨x, _, _, e1, p⟩
  · rintro ⟨x, ρ1, δ1, e1, p⟩
    exact ⟨_, _, _, by unfold sRetX; rw [e1]; rfl, p⟩
theorem wx_binL {f : D → D → Option D} {m : ME} {mx : MX} {P} : WX (xBinL f mx m) ρ δ P ↔ WX mx ρ δ fun x ρ1 δ1 => WE m ρ1 δ1 fun y δ2 => W1 (f x y) fun z => P z ρ1 δ2 := by
  constructor
  · rintro ⟨d, ρ', δ', e, p⟩
    obtain ⟨⟨x, ρ1, δ1⟩, e1, e⟩ := Option.bind_eq_some_iff.mp e
    obtain ⟨⟨y, δ2⟩, e2, e⟩ := Option.bind_eq_some_iff.mp e
    obtain ⟨z, e3, e⟩ := Option.map_eq_some_iff.mp e
    cases e
    exact ⟨x, _, _, e1, y, _, e2, _, e3, p⟩
  · rintro ⟨x, ρ1, δ1, e1, y, δ2, e2, z, e3, p⟩
    exact ⟨_, _, _, by unfold xBinL; simp only [e1, e2, Option.bind_some, e3, Option.map_some], p⟩
theorem ws_uniS {i : Nat} {m : ME} {P} : WS (sUniS i m) ρ δ P ↔ WE m ρ δ fun d δ1 => ∃ x, d = .str x ∧ (x.length ≤ sizeLine ∧ i < ρ.length) ∧ P .nx (ρ.set i (.uni ((signs x).map .str))) δ1 := by
  constructor
  · rintro ⟨f, ρ', δ', e, p⟩
    obtain ⟨⟨d, δ1⟩, e1, e⟩ := Option.bind_eq_some_iff.mp e
    dsimp only at e
    split at e
    · split at e
      · rename_i hz; cases e; exact ⟨_, _, e1, _, rfl, hz, p⟩
      · cases e
    · cases e
  · rintro ⟨d, δ1, e1, x, rfl, hz, p⟩
    exact ⟨_, _, _, by unfold sUniS; rw [e1]; exact if_pos hz, p⟩
theorem wx_lc {mi : MA} {vs : List Nat} {g : MG} {mx : MX} {P} (h : WA mi ρ δ fun ds δ1 => noV ρ vs = true ∧ ∃ out ρe δ2, compX g mx vs ds ρ δ1 = some (out, ρe, δ2) ∧ (out.length ≤ sizeLine ∧ noV ρe vs = true) ∧ P (.list out) ρe δ2) : WX (xLc mi vs g mx) ρ δ P := by
  obtain ⟨ds, δ1, e1, hv, out, ρe, δ2, e2, hz, p⟩ := h
  refine ⟨_, _, _, ?_, p⟩
  unfold xLc
  rw [e1]
  simp only [Option.bind_some]
  rw [if_pos hv, e2]
  simp only [Option.bind_some]
  rw [if_pos hz]
end
theorem compX_inv {g : MG} {mx : MX} {vs : List Nat} (I : List D → List D → List Sl → Dk → Prop) (hs : ∀ d ds out ρ δ, I (d :: ds) out ρ δ → WG g d ρ fun ρ2 => WX mx ρ2 δ fun y ρ3 δ3 => noU ρ3 vs = true ∧ I ds (out ++ [y]) (wipeR ρ3 vs) δ3) : ∀ (ds out : List D) (ρ : List Sl) (δ : Dk), I ds out ρ δ → ∃ r ρe δe, compX g mx vs ds ρ δ = some (r, ρe, δe) ∧ I [] (out ++ r) ρe δe
  | [], out, ρ, δ, h => ⟨[], ρ, δ, rfl, by rw [List.append_nil]; exact h⟩
  | d :: ds, out, ρ, δ, h => by
    obtain ⟨ρ2, e1, y, ρ3, δ3, e2, hu, i⟩ := hs d ds out ρ δ h
    obtain ⟨r, ρe, δe, e3, i2⟩ := compX_inv I hs ds (out ++ [y]) (wipeR ρ3 vs) δ3 i
    refine ⟨y :: r, ρe, δe, ?_, by rw [List.append_assoc] at i2; exact i2⟩
    unfold compX
    rw [e1]
    simp only [Option.bind_some]
    rw [e2]
    simp only [Option.bind_some]
    rw [if_pos hu, e3]
    rfl
/-- a comprehension over the keys of a dict -/
theorem we_lcKeys {ρ : List Sl} {δ : Dk} {r : Nat} {vs : List Nat} {g : MG} {tt : MT} {te : ME} {P} : WE (mLcKeys r vs g tt te) ρ δ P ↔ ∃ es, ρ[r]? = some (.val (.dict es)) ∧ noU ρ vs = true ∧ WC g tt te (wipeR ρ vs) (es.map (·.1)) δ fun out δ2 => out.length ≤ sizeLine ∧ P (.list out) δ2 := by
  constructor
  · rintro ⟨d, δ', e, p⟩
    unfold mLcKeys at e
    split at e
    · rename_i es hr
      split at e
      · rename_i hu
        obtain ⟨⟨out, δ2⟩, e2, e⟩ := Option.bind_eq_some_iff.mp e
        dsimp only at e
        split at e
        · rename_i hz; cases e; exact ⟨es, hr, hu, out, _, e2, hz, p⟩
        · cases e
      · cases e
    · cases e
  · rintro ⟨es, hr, hu, out, δ2, e2, hz, p⟩
    refine ⟨_, _, ?_, p⟩
    unfold mLcKeys
    rw [hr]
    simp only
    rw [if_pos hu, e2]
    simp only [Option.bind_some]
    rw [if_pos hz]
end PD
namespace PD
open PySem PySem.Spec PyProof.Rows L2
end PD
set_option maxHeartbeats 4000000
namespace PD
open PySem PySem.Spec PyProof.Rows L2
end PD
namespace PD
open PySem PySem.Spec PyProof.Rows L2
def keyIs : D → Key → Bool
  | .int i, .inl j => decide (i = j)
  | .str x, .inr y => decide (x = y)
  | _, _ => false
theorem keyIs_key (k j : Key) : keyIs (keyD k) j = decide (k = j) := by
  cases k <;> cases j <;> simp [keyD, keyIs]
def hasE (es : List (D × D)) (k : Key) : Bool := es.any fun e => keyIs e.1 k
def putE (es : List (D × D)) (k : Key) (d : D) : List (D × D) := if hasE es k = true then es.map (fun e => if keyIs e.1 k = true then (e.1, d) else e) else es ++ [(keyD k, d)]
def dropE (es : List (D × D)) (k : Key) : List (D × D) := es.filter fun e => !keyIs e.1 k
theorem RepK.has {K M H} (k : Key) : ∀ {ps es}, RepK K M H ps es → (ps.any fun kv => decide (kv.1 = k)) = hasE es k
  | _, _, .nil => rfl
  | _, _, .cons (k := k') r t => by
    have := RepK.has k t
    unfold hasE at this ⊢
    rw [List.any_cons, List.any_cons, this, keyIs_key]
theorem RepK.rep {K M H v d} (k : Key) (r : Rep K M H v d) : ∀ {ps es}, RepK K M H ps es → RepK K M H (ps.map fun kv => if kv.1 = k then (kv.1, v) else kv) (es.map fun e => if keyIs e.1 k = true then (e.1, d) else e)
  | _, _, .nil => .nil
  | _, _, .cons (k := k') r' t => by
    rw [List.map_cons, List.map_cons]
    dsimp only
    rw [keyIs_key]
    by_cases h : k' = k
    · rw [if_pos h, if_pos (decide_eq_true h)]
      exact .cons r (RepK.rep k r t)
    · rw [if_neg h, if_neg (by rw [decide_eq_false h]; exact Bool.false_ne_true)]
      exact .cons r' (RepK.rep k r t)
theorem RepK.app {K M H v d} (k : Key) (r : Rep K M H v d) : ∀ {ps es}, RepK K M H ps es → RepK K M H (ps ++ [(k, v)]) (es ++ [(keyD k, d)])
  | _, _, .nil => .cons r .nil
  | _, _, .cons r' t => .cons r' (RepK.app k r t)
theorem RepK.put {K M H ps es v d} (R : RepK K M H ps es) (k : Key) (r : Rep K M H v d) : RepK K M H (putK ps k v) (putE es k d) := by
  unfold putK putE
  rw [R.has k]
  split
  · exact RepK.rep k r R
  · exact R.app k r
theorem RepK.len {K M H} : ∀ {ps es}, RepK K M H ps es → ps.length = es.length
  | _, _, .nil => rfl
  | _, _, .cons _ t => by simp [RepK.len t]
section
variable {X : Cx} {e b : Expr} {ma mb : ME} {x : Str} {p0 pos : Pos}
/-- x[key], read -/
def mGetO (i : Nat) (mk : ME) : ME := fun ρ δ => match ρ[i]? with
  | some (.own (.dic es)) => (mk ρ δ).bind fun q => (keyOf q.1).bind fun k => (lookD es (keyD k)).map fun z => (z, q.2)
  | _ => none
theorem pd_getO (i : Nat) (hu : X.A.units + 1 < cLine) (hb : PD X b mb) (hN : X.N[i]? = some x := by rfl) (hv : Vis X.env.scope x := by first | exact Or.inl rfl | exact Or.inr (Or.inl rfl) | exact Or.inr (Or.inr rfl)) (hyd : (x == ("__debug__" : Str)) = false := by decide) (hcd : (x == ("__classdict__" : Str)) = false := by decide) (hs : PlainIx b := by exact fun _ _ => rfl) :
    PD X (.Subscript (.Name x p0) b pos) (mGetO i mb) := by
  obtain ⟨tb, h2, s2⟩ := hb.ex
  refine ⟨_, pe_dget hu (pe_var hN hv hyd hcd) h2 hs, fun F σ H ρ δ d δ' G e Q q => ?_⟩
  unfold mGetO at e
  split at e
  · rename_i es hi
    obtain ⟨⟨y, δ1⟩, e1, e⟩ := Option.bind_eq_some_iff.mp e
    obtain ⟨k, e2, e⟩ := Option.bind_eq_some_iff.mp e
    obtain ⟨z, e3, e⟩ := Option.map_eq_some_iff.mp e
    cases e
    obtain ⟨a1, xs, f1, f2, f3, f4⟩ := G.dic i es hi
    refine ⟨_, f1, s2 F σ H ρ δ _ _ G e1 _ fun u H1 G1 M1 R1 => ?_⟩
    obtain ⟨a', xs', g1, g2, g3, g4⟩ := G1.dic i es hi
    rw [f1] at g1
    cases g1
    have ek := keyOf_rep R1 e2
    obtain ⟨v, ev, rv⟩ := g3.look e3
    exact ⟨_, v, rfl, .inl ⟨xs', k, .inl g2, ek, ev.symm⟩, q _ _ G1 M1 rv⟩
  · cases e
/-- key in x, key not in x -/
def tInO (neg : Bool) (i : Nat) (mk : ME) : MT := fun ρ δ => match ρ[i]? with
  | some (.own (.dic es)) => (mk ρ δ).bind fun q => (keyOf q.1).map fun k => (neg ^^ (lookD es (keyD k)).isSome, q.2)
  | _ => none
theorem pdt_notInO (i : Nat) (hu : X.A.units + 1 < cLine) (hb : PD X b mb) (hN : X.N[i]? = some x := by rfl) (hv : Vis X.env.scope x := by first | exact Or.inl rfl | exact Or.inr (Or.inl rfl) | exact Or.inr (Or.inr rfl)) (hyd : (x == ("__debug__" : Str)) = false := by decide) (hcd : (x == ("__classdict__" : Str)) = false := by decide) :
    PDT X (.Compare b [.NotIn] [.Name x p0] pos) (tInO true i mb) := by
  obtain ⟨tb, h2, s2⟩ := hb.ex
  refine ⟨_, pt_cmp (pc_dnotin hu h2 (pe_var hN hv hyd hcd)), fun F σ H ρ δ d δ' G e Q q => ?_⟩
  unfold tInO at e
  split at e
  · rename_i es hi
    obtain ⟨⟨y, δ1⟩, e1, e⟩ := Option.bind_eq_some_iff.mp e
    obtain ⟨k, e2, e⟩ := Option.map_eq_some_iff.mp e
    cases e
    refine s2 F σ H ρ δ _ _ G e1 _ fun u H1 G1 M1 R1 => ?_
    obtain ⟨a', xs', g1, g2, g3, g4⟩ := G1.dic i es hi
    have ek := keyOf_rep R1 e2
    refine ⟨_, g1, _, valV xs' k, rfl, .inl ⟨xs', k, .inl g2, ek, rfl⟩, _, rfl, ?_⟩
    rw [Bool.true_xor] at q
    cases hl : lookD es (keyD k) with
    | none => rw [g3.lookN hl]; rw [hl] at q; exact q _ G1 M1
    | some d1 =>
      obtain ⟨v1, ev, rv⟩ := g3.look hl
      rw [ev]; rw [hl] at q; exact q _ G1 M1
  · cases e
end
end PD
namespace PD
open PySem PySem.Spec PyProof.Rows L2
theorem RepK.drop {K M H} (k : Key) : ∀ {ps es}, RepK K M H ps es → RepK K M H (dropK ps k) (dropE es k)
  | _, _, .nil => .nil
  | _, _, .cons (k := k') r t => by
    have ih := RepK.drop k t
    unfold dropK dropE at ih ⊢
    rw [List.filter_cons, List.filter_cons]
    dsimp only
    rw [keyIs_key]
    by_cases h : k' = k
    · rw [if_neg (by simpa using h), if_neg (by simp [h])]
      exact ih
    · rw [if_pos (by simpa using h), if_pos (by simp [h])]
      exact .cons r ih
section
variable {X : Cx} {e b : Expr} {es : List Expr} {ma mb : ME} {x : Str} {p0 pos : Pos}
/-- del x[key] -/
def sDelD (i : Nat) (mk : ME) : MS := fun ρ δ => match ρ[i]? with
  | some (.own (.dic es)) => (mk ρ δ).bind fun q => (keyOf q.1).bind fun k => if (lookD es (keyD k)).isSome = true then some (.nx, ρ.set i (.dic (dropE es k)), q.2) else none
  | _ => none
theorem pds_delD (i : Nat) {p1 p3 : Pos} (hb : PD X b mb) (hN : X.N[i]? = some x := by rfl) (hv : Vis X.env.scope x := by first | exact Or.inl rfl | exact Or.inr (Or.inl rfl) | exact Or.inr (Or.inr rfl)) (hd : (x == ("__debug__" : Str)) = false := by decide)
    (hcd : (x == ("__classdict__" : Str)) = false := by decide) :
    PDS X (.Delete [.Subscript (.Name x p1) b p3] pos) (sDelD i mb) := by
  obtain ⟨tb, q2, s2⟩ := hb.ex
  refine ⟨_, ps_ddel (pe_var hN hv hd hcd) q2, fun F σ H ρ δ fl ρ' δ' G e D q => ?_⟩
  unfold sDelD at e
  split at e
  · rename_i es hi
    obtain ⟨⟨z, δ2⟩, e2, e⟩ := Option.bind_eq_some_iff.mp e
    obtain ⟨k, e3, e⟩ := Option.bind_eq_some_iff.mp e
    dsimp only at e
    split at e
    · rename_i hz
      cases e
      obtain ⟨a1, kvs, f1, f2, f3, f4⟩ := G.dic i es hi
      refine ⟨_, f1, s2 F σ H ρ δ _ _ G e2 _ fun w H2 G2 M2 R2 => ?_⟩
      have ek := keyOf_rep R2 e3
      obtain ⟨a', kvs', g1, g2, g3, g4⟩ := G2.dic i es hi
      rw [f1] at g1
      cases g1
      obtain ⟨G3, M3⟩ := G2.ownWrite (ys := .dK (dropK kvs' k)) (es := .dic (dropE es k)) i hi f1 (.dic (g3.drop k))
      refine ⟨_, kvs', k, rfl, g2, ek, ?_, q _ _ G3 (M2.trans M3)⟩
      obtain ⟨d1, hd1⟩ := Option.isSome_iff_exists.mp hz
      obtain ⟨v1, ev, _⟩ := g3.look hd1
      rw [ev]
      rfl
    · cases e
  · cases e
/-- sorted(x), x a dict of the def's own with keys that are texts -/
def keysS (es : List (D × D)) : Option (List Str) := strsD (es.map (·.1))
def mSortO (i : Nat) : ME := fun ρ δ => match ρ[i]? with
  | some (.own (.dic es)) => (keysS es).bind fun ks => if ks.length < 64 then some (.list ((srt ks).map .str), δ) else none
  | _ => none
theorem RepK.keysS {K M H} : ∀ {kvs es} {ks : List Str}, RepK K M H kvs es → keysS es = some ks → kvs.map (·.1) = ks.map Sum.inr
  | _, _, ks, .nil, h => by
    cases h
    rfl
  | _, _, ks, .cons (k := k) (es := es) r t, h => by
    unfold PD.keysS at h
    rw [List.map_cons] at h
    cases k with
    | inl i => simp [keyD, strsD] at h
    | inr y =>
      simp only [keyD, strsD] at h
      cases hs : strsD (es.map (·.1)) with
      | none => rw [hs] at h; cases h
      | some l =>
        rw [hs] at h
        cases h
        rw [List.map_cons, List.map_cons, RepK.keysS t hs]
theorem pd_sortO (i : Nat) {p p1 : Pos} (hc : X.calm = true) (hm : X.mg "sorted" = none) (hg : Gl X "sorted" := by rfl) (hN : X.N[i]? = some x := by rfl) (hv : Vis X.env.scope x := by first | exact Or.inl rfl | exact Or.inr (Or.inl rfl) | exact Or.inr (Or.inr rfl)) (hyd : (x == ("__debug__" : Str)) = false := by decide) (hcd : (x == ("__classdict__" : Str)) = false := by decide)
    (he : starEach [.Name x p1] X.env = (false, eval (.Name x p1) X.env) :: starEach [] X.env := by rfl) (hpl : (backTo pos (starEach [] X.env)).any (·.1) = false := by rfl) : PD X (.Call (.Name "sorted" p) [.Name x p1] [] pos) (mSortO i) := by
  refine ⟨_, pe_callB (call_sortedD hc) hg hm (by decide +kernel) (pa_cons (pe_var hN hv hyd hcd) pa_nil he) , fun F σ H ρ δ d δ' G e Q q => ?_⟩
  unfold mSortO at e
  split at e
  · rename_i es hi
    obtain ⟨ks, e1, e⟩ := Option.bind_eq_some_iff.mp e
    split at e
    · rename_i hl
      cases e
      obtain ⟨a1, kvs, f1, f2, f3, f4⟩ := G.dic i es hi
      refine ⟨_, f1, a1, kvs, ks, rfl, .inl f2, f3.keysS e1, hl, fun zs p hp hs hn => ?_⟩
      rw [sorted_srt hp hs]
      exact q _ _ (G.new hn) (Mv.same (upd_keeps hn)) (.lst ⟨G.mfree hn, upd_same⟩ (Reps.strsOf _))
    · cases e
  · cases e
end
end PD
namespace PD
open PySem PySem.Spec PyProof.Rows L2
def tDUpd (td ty : TE) : TE := fun σ H Q => td σ H fun x H1 => ∃ a, x = .ref a ∧ IsD H1 a ∧ ty σ H1 fun y H2 => ∃ b kvs more, y = .ref b ∧ H2 a = some (.dK kvs) ∧ Rd H2 b (.dK more) ∧ a ≠ b ∧ kvs.length + more.length ≤ sizeLine ∧ Q .non (upd H2 a (.dK (mergeK kvs more)))
section
variable {X : Cx} {o e : Expr} {apos cpos : Pos} {td ty : TE}
theorem d_update {pins : List (Addr × Obj)} {σ : L2.St} {H : Hp} {s : Shared} {a b : Addr} {kvs more : List (Key × V)} {A : Around} {E : Value → Shared → Prop} {Q : Value → Shared → Prop} (I : Inv X pins σ H s) (ea : H a = some (.dK kvs)) (eb : Rd H b (.dK more)) (hab : a ≠ b) (hz : kvs.length + more.length ≤ sizeLine)
    (h : ∀ s', Inv X pins σ (upd H a (.dK (mergeK kvs more))) s' → Q .none s') : wpAny (model X.prog X.w) A (call (.builtin "dict.update") [.ref a, .ref b]) Q E s := by
  obtain ⟨z, hd, vs, rel, dd⟩ := dk_of I.hok ea
  obtain ⟨z2, hd2, ws, rel2, dd2⟩ := dk_rd I.hok eb
  refine call_meetsIn PySem.F.slot_dict_update dd.typeIs PySem.F.entry_dict_update (PySem.F.args_dict_update_2 _ _) (meets_dict_update (mixKind X.prog X.w) a b hab hd2)
    ⟨vs, ws, dd, dd2, by rw [← rel.length, ← rel2.length]; exact hz, fun h' dd' _ hs => h _ ?_⟩
  have he : ∃ q, h'.get? a = some q := let ⟨q, _, _, hq, _⟩ := dd'; ⟨q, hq⟩
  exact d_write I (by rw [ea]; exact True.intro) hs he (dk_new (Nat.le_trans (length_mergeK more kvs) hz) hd (rel2.merge rel) dd')
theorem pe_dupd (ho : PE X o td) (he : PE X e ty) (m : M1 X o "update" apos e cpos) : PE X (.Call (.Attribute o "update" apos) [e] [] cpos) (tDUpd td ty) := by
  refine ⟨fun pins s σ H Q I h => ?_⟩
  refine wpAny_Call_method m.base m.few m.line PySem.F.plainAttrs_dict PySem.F.slot_dict_update PySem.F.type_dict_update (thn (ho.run pins s σ H _ I h) fun u s1 ⟨x, H1, I1, rx, a, ex, d, q1⟩ => ?_)
  subst ex
  obtain rfl : u = Value.ref a := rx
  obtain ⟨t1, t2, _⟩ := isD_at I1 d
  refine ⟨t1, t2, ?_⟩
  rw [m.trees]
  refine Calls.callWith_builtin rfl (Calls.evalArgs_plain (Calls.spliced_cons (thn (he.run pins s1 σ H1 _ I1 q1) fun iv s2 ⟨y, H2, I2, ry, b, kvs, more, ey, ea, eb, hab, hz, q2⟩ => Calls.spliced_nil ?_)))
  subst ey
  obtain rfl : iv = Value.ref b := ry
  exact d_update I2 ea eb hab hz fun s3 I3 => ⟨.non, _, I3, rfl, q2⟩
end
def mergeE (es fs : List (D × D)) : List (D × D) := fs.foldl (fun acc kv => match keyOf kv.1 with
  | some k => putE acc k kv.2
  | none => acc) es
theorem keyOf_key (k : Key) : keyOf (keyD k) = some k := by cases k <;> rfl
theorem RepK.merge {K M H} : ∀ {more fs kvs es}, RepK K M H more fs → RepK K M H kvs es → RepK K M H (mergeK kvs more) (mergeE es fs)
  | _, _, _, _, .nil, s => s
  | _, _, _, _, .cons (k := k) r t, s => by
    unfold mergeK mergeE
    rw [List.foldl_cons, List.foldl_cons]
    dsimp only
    rw [keyOf_key]
    exact RepK.merge t (s.put k r)
section
variable {X : Cx} {e b : Expr} {ma mb : ME} {x : Str} {p0 pos : Pos}
def sUpdD (i : Nat) (m : ME) : MS := fun ρ δ => match ρ[i]? with
  | some (.own (.dic es)) => (m ρ δ).bind fun p => match p.1 with
    | .dict fs => if es.length + fs.length ≤ sizeLine then some (.nx, ρ.set i (.dic (mergeE es fs)), p.2) else none
    | _ => none
  | _ => none
theorem pds_updD (i : Nat) {apos cpos : Pos} (he : PD X e ma) (hN : X.N[i]? = some x := by rfl) (hv : Vis X.env.scope x := by first | exact Or.inl rfl | exact Or.inr (Or.inl rfl) | exact Or.inr (Or.inr rfl)) (hd : (x == ("__debug__" : Str)) = false := by decide)
    (hcd : (x == ("__classdict__" : Str)) = false := by decide) (m : M1 X (.Name x p0) "update" apos e cpos := by exact ⟨rfl, rfl, rfl, rfl⟩)
    (hsw : swapsWith (.Call (.Attribute (.Name x p0) "update" apos) [e] [] cpos) none pos.line X.env = pure false := by rfl) :
    PDS X (.Expr (.Call (.Attribute (.Name x p0) "update" apos) [e] [] cpos) pos) (sUpdD i ma) := by
  obtain ⟨t, p1, s1⟩ := he.ex
  refine ⟨_, ps_expr (pe_dupd (pe_var hN hv hd hcd) p1 m) hsw, fun F σ H ρ δ fl ρ' δ' G e D q => ?_⟩
  unfold sUpdD at e
  split at e
  · rename_i es hi
    obtain ⟨⟨y, δ1⟩, e1, e⟩ := Option.bind_eq_some_iff.mp e
    dsimp only at e
    split at e
    · rename_i fs
      split at e
      · rename_i hz
        cases e
        obtain ⟨a, xs, f1, f2, f3, f4⟩ := G.dic i es hi
        refine ⟨_, f1, a, rfl, .inl ⟨xs, .inl f2⟩, s1 F σ H ρ δ _ _ G e1 _ fun v H1 G1 M1 R1 => ?_⟩
        obtain ⟨a', xs', g1, g2, g3, g4⟩ := G1.dic i es hi
        rw [f1] at g1
        cases g1
        cases R1 with
        | @dic b more _ n hb rk =>
          obtain ⟨G2, M2⟩ := G1.ownWrite (ys := .dK (mergeK xs' more)) (es := .dic (mergeE es fs)) i hi f1 (.dic (rk.merge g3))
          exact ⟨b, xs', more, rfl, g2, hb, fun z => n (by rw [← z]; exact .inr ⟨i, _, hi, f1⟩), by rw [g3.len, rk.len]; exact hz, q _ _ G2 (M1.trans M2)⟩
      · cases e
    · cases e
  · cases e
end
end PD
namespace PD
open PySem PySem.Spec PyProof.Rows L2
theorem Good.ownGot {K F σ H H' ρ δ p vs ds} (G : Good K F σ H ρ δ) (i : Nat) (hi : i < ρ.length) (hp : H p = none) (kp : ∀ a o, H a = some o → H' a = some o) (hp' : H' p = some vs) (r : OwR K (fun a => Mm F σ ρ a ∨ a = p) H' vs ds) :
    Good K F (σ.set i (some (.ref p))) H' (ρ.set i (.own ds)) δ ∧ Mv (Mm F σ ρ) H (Mm F (σ.set i (some (.ref p))) (ρ.set i (.own ds))) H' := by
  have hiσ : i < σ.length := by rw [G.len]; exact hi
  have un : ∀ (j : Nat) es, i ≠ j → (ρ.set i (.own ds))[j]? = some (.own es) → ρ[j]? = some (.own es) := fun j es hj e => by
    rw [List.getElem?_set_ne hj] at e; exact e
  have hM : ∀ a, Mm F (σ.set i (some (.ref p))) (ρ.set i (.own ds)) a → Mm F σ ρ a ∨ a = p := fun a z => by
    rcases z with z | ⟨j, es, e1, e2⟩
    · exact .inl (.inl z)
    · by_cases hj : i = j
      · subst hj
        have := get_set_self e2
        cases this
        exact .inr rfl
      · rw [List.getElem?_set_ne hj] at e1 e2
        exact .inl (.inr ⟨j, es, e1, e2⟩)
  have mv : Mv (Mm F σ ρ) H (Mm F (σ.set i (some (.ref p))) (ρ.set i (.own ds))) H' := fun a o e n => ⟨kp a o e, fun z => (hM a z).elim n (ne_of_none e hp)⟩
  refine ⟨⟨by rw [List.length_set, List.length_set]; exact G.len, fun j d e => ?_, fun j es e => ?_, fun j k es fs a e1 e2 e3 e4 => ?_, fun a ha => ?_, fun j e => ?_, fun q e => ?_, fun a o e n => kp _ _ (G.fr a o e n)⟩, mv⟩
  · by_cases hj : i = j
    · subst hj; rw [List.getElem?_set_self hi] at e; cases e
    · rw [List.getElem?_set_ne hj] at e ⊢
      obtain ⟨v, e1, r1⟩ := G.val j d e
      exact ⟨v, e1, r1.mv mv⟩
  · by_cases hj : i = j
    · subst hj
      rw [List.getElem?_set_self hi] at e
      cases e
      exact ⟨p, vs, List.getElem?_set_self hiσ, hp', r.mv (fun a o e n => ⟨e, fun z => n (hM a z)⟩), fun z => (G.m0 p z).ne hp, .inl (G.fresh0 hp)⟩
    · rw [List.getElem?_set_ne hj] at e ⊢
      obtain ⟨a, xs, e1, e2, r1, n⟩ := G.own j es e
      exact ⟨a, xs, e1, kp _ _ e2, r1.mv mv, n⟩
  · by_cases hj : i = j
    · by_cases hk : i = k
      · exact hj.symm.trans hk
      · subst hj
        have z := get_set_self e3
        cases z
        rw [List.getElem?_set_ne hk] at e2 e4
        obtain ⟨b, xs, f1, f2, _⟩ := G.own k fs e2
        rw [e4] at f1; cases f1
        rw [hp] at f2; cases f2
    · by_cases hk : i = k
      · subst hk
        have z := get_set_self e4
        cases z
        rw [List.getElem?_set_ne hj] at e1 e3
        obtain ⟨b, xs, f1, f2, _⟩ := G.own j es e1
        rw [e3] at f1; cases f1
        rw [hp] at f2; cases f2
      · rw [List.getElem?_set_ne hj] at e1 e3
        rw [List.getElem?_set_ne hk] at e2 e4
        exact G.inj j k es fs a e1 e2 e3 e4
  · exact (G.m0 a ha).keep fun o e => kp a o e
  · by_cases hj : i = j
    · subst hj; rw [List.getElem?_set_self hi] at e; cases e
    · rw [List.getElem?_set_ne hj] at e ⊢
      exact G.dsl j e
  · obtain ⟨d1, d2, d4, d3⟩ := G.dck q e
    exact ⟨d1, d2, d4, d3.ne, d3.ne2, d3.ne3, kp _ _ d3.one, (fun z => kp _ _ (d3.two z)), kp _ _ d3.tri, d3.tab.ext kp⟩
abbrev MN := List Sl → Dk → Option (List (D × D) × Dk)
def SndN (K : PySem.W.Frag) (t : TE) (m : MN) : Prop := ∀ F σ H ρ δ es δ', Good K F σ H ρ δ → m ρ δ = some (es, δ') → ∀ Q : VK,
  (∀ p kvs H', H p = none → Good K F σ H' ρ δ' → Mv (Mm F σ ρ) H (Mm F σ ρ) H' → H' p = some (.dK kvs) → RepK K (fun a => Mm F σ ρ a ∨ a = p) H' kvs es → Q (.ref p) H') → t σ H Q
structure PDN (X : Cx) (e : Expr) (m : MN) : Prop where
  ex : ∃ t, PE X e t ∧ SndN X.K t m
def mDcE (mr : MP) : MN := fun ρ δ => (mr ρ δ).bind fun q => if q.1.length ≤ sizeLine then some ((putAll [] q.1).map fun e => (keyD e.1, e.2), q.2) else none
theorem snd_dcE {K tk tv mr wi g tt vs mi mg mt} {cs : List Cl} {sl : List Nat} (hr : ∀ A, SndRD K A (tInD A tk tv cs) mr) (hi : SndI K wi mi) (hg : SndG K sl g mg) (ht : SndT K tt mt) (hs : ∀ i ∈ sl, i ∈ vs) : SndN K (tDcN wi g tt vs cs tk tv) (mDcE (kFor mi vs mg mt mr)) := fun F σ H ρ δ d δ' G e Q q => by
  obtain ⟨⟨out, δ2⟩, e0, e⟩ := Option.bind_eq_some_iff.mp e
  obtain ⟨⟨ds, δ1⟩, e1, e0⟩ := Option.bind_eq_some_iff.mp e0
  dsimp only at e e0
  split at e
  · rename_i hz
    split at e0
    · rename_i hu
      cases e
      refine hi F σ H ρ δ ds δ1 G e1 _ fun J H1 G1 M1 Wk A hA => ?_
      obtain ⟨GP, MP⟩ := G1.plus (o := .dK []) hA
      have gr : Grows (F.plus A) A := ⟨.inr rfl, G1.fresh0 hA, fun p hp => ⟨(ne_of_none (G1.dck p hp).2.2.2.one hA).symm, ((G1.dck p hp).2.2.2.ne2N hA).symm, (ne_of_none (G1.dck p hp).2.2.2.tri hA).symm⟩⟩
      refine snd_loopK (hr A) hg ht hs hu e0 GP gr upd_same .nil (by simpa using hz) (Wk.mv MP) fun H' xs G' M' hA' R' => ?_
      have an : Mv (Mm (F.plus A) σ ρ) H' (Mm F σ ρ) H' := fun a o e n => ⟨e, fun z => n (by rw [Mm_plus]; exact .inl z)⟩
      have M3 := (MP.trans M').trans an
      have h0 : H A = none := by
        cases hh : H A with
        | none => rfl
        | some o =>
          by_cases hm : Mm F σ ρ A
          · exact absurd hA (G1.mm A hm).ne
          · have := (M1 A o hh hm).1
            rw [hA] at this
            cases this
      refine q A _ _ h0 (Good.back (vs := []) G1 rfl hA G' M3) (M1.trans M3) hA' ?_
      have := R'.repK
      rw [Mm_plus] at this
      exact this
    · cases e0
  · cases e
section
variable {X : Cx} {kx vx tg iter : Expr} {ifs : List Expr} {gl : List Comprehension} {sc : Scope} {own : List (Str × Nat)} {ps : Pos} {mi : MA} {mg : MG} {mt : MT} {mk mv : ME} {mr : MP} {sl vs vs1 : List Nat}
theorem pdn_dc (hc : X.calm = true) (hN : X.N.Nodup) (hi : PDI X tg iter mi) (ok : BlkOk X.N X.env.scope sc own) (g : AllBlk X sc fun Y => PDG Y tg sl mg) (t : AllBlk X sc fun Y => PDTs Y ifs mt) (o : ∀ i ∈ sl, i ∈ own.map (·.2)) (B : BlkK X sc (own.map (·.2)) gl kx vx mr) (hs : ∀ x, foldedSetIterable iter X.env x = pure x := by intro _; rfl) :
    PDN X (.DictComp kx vx (⟨tg, iter, ifs, 0⟩ :: gl) sc ps) (mDcE (kFor mi (own.map (·.2)) mg mt mr)) := by
  obtain ⟨wi, h1, s1⟩ := hi.ex
  obtain ⟨cs, tk, tv, c1, c2, c4, c3⟩ := B.ex
  refine ⟨tDcN wi (fun v σ H Q => ∀ s h C cl fp, (g s h C cl fp).ex.choose v σ H Q) (fun σ H Q => ∀ s h C cl fp, (t s h C cl fp).ex.choose σ H Q) _ cs tk tv, pe_dcN hc hN h1 ok ?_ ?_ c2 c4 c1 hs, snd_dcE (sl := sl) c3 s1 ?_ ?_ o⟩
  · exact fun s h C cl fp => ⟨fun pins s' σ H v u Q I r q => (g s h C cl fp).ex.choose_spec.1.run pins s' σ H v u Q I r (q s h C cl fp)⟩
  · exact fun s h C cl fp => ⟨fun pins s' σ H Q I q => (t s h C cl fp).ex.choose_spec.1.run pins s' σ H Q I (q s h C cl fp)⟩
  · exact fun F σ H ρ δ v d ρ' G r e Q q s h C cl fp => (g s h C cl fp).ex.choose_spec.2 F σ H ρ δ v d ρ' G r e Q q
  · exact fun F σ H ρ δ d δ' G e Q q s h C cl fp => (t s h C cl fp).ex.choose_spec.2 F σ H ρ δ d δ' G e Q q
end
/-- a def that tells a dict made anew -/
def spN (K : PySem.W.Frag) (m : List D → Option (List (D × D))) : Sp := fun vs H Q _ => ∃ (M : Addr → Prop) (ds : List D) (es : List (D × D)), (∀ a, M a → mtO (H a)) ∧ Reps K M H vs ds ∧ m ds = some es ∧
  ∀ p kvs H', H p = none → (∀ a o, H a = some o → H' a = some o) → H' p = some (.dK kvs) → RepK K (fun a => M a ∨ a = p) H' kvs es → Q (.ref p) H'
def fnN (n np : Nat) (m : MN) : List D → Option (List (D × D)) := fun ds => if ds.length = np ∧ np ≤ n then (m (slots n (ds.map .val)) ⟨[], 0, [], none⟩).map (·.1) else none
section
variable {P : Program} {w : World} {K : PySem.W.Frag} {mg : Str → Option Value} {base : Heap}
theorem okN {x qual : Str} {st : Stmt} {f : Addr} {fd : FuncData} {N ps : List Str} {k : Nat} {m : MN} {e : Expr} {pos : Pos} (F : Fun K x qual st f fd) (S : FnScope N ps (defScope st)) (hn : ps.length ≤ N.length) (hbd : defBody st = [.Return (some e) pos])
    (hb : ∀ (cdv : Value) (A : Around) (outer : List Env) (s0 : Shared) (H : Hp) (E : XK), Room k (A.deeper (envOfC qual (defScope st) s0.heap.objs.size f cdv)) → PDN (cxOf CX0 P w K mg base N qual (defScope st) f cdv A outer s0 H E).nox e m) :
    FnOk P w K mg base CX0 (k + 1) f fd ps (spN K (fnN N.length ps.length m)) := by
  refine F.ok S (fun vs H Q E h => ?_) (fun cdv A outer s0 H vs Q E hr h => ?_)
  · obtain ⟨M, ds, r, hM, R, hm, q⟩ := h
    unfold fnN at hm
    split at hm
    · rename_i hz; rw [R.length]; exact hz.1
    · cases hm
  · obtain ⟨M, ds, r, hM, R, hm, q⟩ := h
    unfold fnN at hm
    split at hm
    · rename_i hz
      obtain ⟨t, p1, s1⟩ := (hb cdv A outer s0 H E hr).ex
      rw [hbd]
      refine ⟨_, pss_one (ps_ret p1), ?_⟩
      obtain ⟨⟨r', δ'⟩, e1, e2⟩ := Option.map_eq_some_iff.mp hm
      cases e2
      have nun : ∀ (i : Nat) es, (slots N.length (ds.map Sl.val))[i]? ≠ some (.own es) := fun i es h => by
        rcases slots_get h with h | h
        · rw [List.getElem?_map] at h
          obtain ⟨d, _, h⟩ := Option.map_eq_some_iff.mp h
          cases h
        · cases h
      let Fr0 : Fr := ⟨M, none, H, 0, fun _ _ _ => False⟩
      have eM : Mm Fr0 (start N vs) (slots N.length (ds.map Sl.val)) = M := by
        funext a
        refine propext ⟨fun z => ?_, .inl⟩
        rcases z with z | ⟨i, es, f1, _⟩
        · exact z
        · exact (nun i es f1).elim
      have G : Good K Fr0 (start N vs) H (slots N.length (ds.map Sl.val)) ⟨[], 0, [], none⟩ := by
        refine ⟨?_, fun i d h => ?_, fun i es h => (nun i es h).elim, fun i j es _ _ h => (nun i es h).elim, hM, fun i h => ?_, fun p h => (nomatch h), fun _ _ e _ => e⟩
        · unfold L2.start slots
          simp only [List.length_append, List.length_map, List.length_replicate, R.length]
        · rw [eM]
          rcases slots_get h with h | h
          · rw [List.getElem?_map] at h
            obtain ⟨d', h1, h2⟩ := Option.map_eq_some_iff.mp h
            cases h2
            obtain ⟨v, g1, g2⟩ := R.get' h1
            exact ⟨v, start_get g1, g2⟩
          · cases h
        · rcases slots_get h with h | h
          · rw [List.getElem?_map] at h
            obtain ⟨d', h1, h2⟩ := Option.map_eq_some_iff.mp h
            cases h2
          · cases h
      refine s1 Fr0 (start N vs) H _ ⟨[], 0, [], none⟩ r' δ' G e1 _ fun p kvs H' h0 G' M' hp R' => ?_
      rw [eM] at R'
      exact q p kvs H' h0 (fun a o e => G'.fr a o e fun p h => nomatch h) hp R'
    · cases hm
end
section
variable {X : Cx} {e : Expr} {es : List Expr} {r : MA} {p pos : Pos} {x : Str}
/-- y = f(..), a dict made anew -/
def sOwnC (i : Nat) (m : List D → Option (List (D × D))) (r : MA) : MS := fun ρ δ => (r ρ δ).bind fun p => (m p.1).bind fun es => if i < ρ.length then some (.nx, ρ.set i (.dic es), p.2) else none
theorem pds_ownC (i : Nat) {CX : CXT} {k : Nat} {f : Addr} {fd : FuncData} {ps : List Str} {m : List D → Option (List (D × D))} {y : Str} {E : XK} {py spos : Pos} (hNd : X.N.Nodup) (Fn : FnOk X.prog X.w X.K X.mg X.base CX k f fd ps (spN X.K m)) (hr : Room k X.A) (hm : X.mg x = some (.ref f)) (hk : PySem.W.keepIn X.K (.ref f) = true) (hb : Binds X.K fd ps []) (hx : Passes CX X E)
    (ha : PDA X (e :: es) r) (hi : X.N[i]? = some y := by rfl) (hl : Loc X.env.scope y := by first | exact Or.inl rfl | exact Or.inr rfl) (hs : swapsWith (.Call (.Name x p) (e :: es) [] pos) (some (.Name y py)) spos.line X.env = pure false := by rfl) (hf : X.fn y = true ∨ X.env.scope.names.lookup y = some .local := by first | exact .inl rfl | exact .inr rfl | assumption)
    (hg : Gl X x := by rfl) (hdb : (x == ("__debug__" : Str)) = false := by decide) (he : starEach (e :: es) X.env = (false, eval e X.env) :: starEach es X.env := by rfl) (hpl : (backTo pos (starEach es X.env)).any (·.1) = false := by rfl) :
    PDS X (.Assign [.Name y py] (.Call (.Name x p) (e :: es) [] pos) spos) (sOwnC i m r) := by
  obtain ⟨t, h1, s1⟩ := ha.ex
  refine ⟨_, ps_set hNd hi hl (pe_call Fn hr hg hm hk hb .nil hx h1 hdb he hpl) hs hf, fun F σ H ρ δ fl ρ' δ' G e D q => ?_⟩
  obtain ⟨⟨ds, δ1⟩, e1, e⟩ := Option.bind_eq_some_iff.mp e
  obtain ⟨fs, e3, e⟩ := Option.bind_eq_some_iff.mp e
  dsimp only at e
  split at e
  · rename_i hz
    cases e
    refine s1 F σ H ρ δ ds _ G e1 _ fun vs H1 G1 M1 R1 => ?_
    rw [List.append_nil]
    refine ⟨_, ds, fs, G1.mm, R1, e3, fun pp kvs H2 h0 kp hp R2 => ?_⟩
    obtain ⟨G2, M2⟩ := G1.ownGot i hz h0 kp hp (.dic R2)
    exact q _ _ G2 (M1.trans M2)
  · cases e
end
end PD
namespace PD
open PySem PySem.Spec PyProof.Rows L2
section
variable {ρ : List Sl} {δ : Dk}
theorem ws_ownC {i : Nat} {m r} {P : Fl → List Sl → Dk → Prop} (h : WA r ρ δ fun ds δ1 => ∃ es, m ds = some es ∧ i < ρ.length ∧ P .nx (ρ.set i (.dic es)) δ1) : WS (sOwnC i m r) ρ δ P := by
  obtain ⟨ds, δ1, e1, es, e2, hl, p⟩ := h
  refine ⟨_, _, _, ?_, p⟩
  unfold sOwnC
  rw [e1]
  show ((m ds).bind _) = _
  rw [e2]
  exact if_pos hl
theorem wt_inO {neg : Bool} {i : Nat} {mk : ME} {es : List (D × D)} {P : Bool → Dk → Prop} (hi : ρ[i]? = some (.dic es)) (h : WE mk ρ δ fun x δ1 => ∃ k, keyOf x = some k ∧ P (neg ^^ (lookD es (keyD k)).isSome) δ1) : WT (tInO neg i mk) ρ δ P := by
  obtain ⟨x, δ1, e1, k, e2, p⟩ := h
  refine ⟨_, _, ?_, p⟩
  unfold tInO
  rw [hi]
  show ((mk ρ δ).bind _) = _
  rw [e1]
  show ((keyOf x).map _) = _
  rw [e2]
  rfl
theorem ws_delD {i : Nat} {mk : ME} {es : List (D × D)} {P : Fl → List Sl → Dk → Prop} (hi : ρ[i]? = some (.dic es)) (h : WE mk ρ δ fun x δ1 => ∃ k, keyOf x = some k ∧ (lookD es (keyD k)).isSome = true ∧ P .nx (ρ.set i (.dic (dropE es k))) δ1) : WS (sDelD i mk) ρ δ P := by
  obtain ⟨x, δ1, e1, k, e2, hl, p⟩ := h
  refine ⟨_, _, _, ?_, p⟩
  unfold sDelD
  rw [hi]
  show ((mk ρ δ).bind _) = _
  rw [e1]
  show ((keyOf x).bind _) = _
  rw [e2]
  exact if_pos hl
theorem ws_updD {i : Nat} {m : ME} {es : List (D × D)} {P : Fl → List Sl → Dk → Prop} (hi : ρ[i]? = some (.dic es)) (h : WE m ρ δ fun x δ1 => ∃ fs, x = .dict fs ∧ es.length + fs.length ≤ sizeLine ∧ P .nx (ρ.set i (.dic (mergeE es fs))) δ1) : WS (sUpdD i m) ρ δ P := by
  obtain ⟨x, δ1, e1, fs, rfl, hl, p⟩ := h
  refine ⟨_, _, _, ?_, p⟩
  unfold sUpdD
  rw [hi]
  show ((m ρ δ).bind _) = _
  rw [e1]
  exact if_pos hl
theorem we_sortO {i : Nat} {es : List (D × D)} {ks : List Str} {P : D → Dk → Prop} (hi : ρ[i]? = some (.dic es)) (hk : keysS es = some ks) (hl : ks.length < 64) (p : P (.list ((srt ks).map .str)) δ) : WE (mSortO i) ρ δ P := by
  refine ⟨_, _, ?_, p⟩
  unfold mSortO
  rw [hi]
  show ((keysS es).bind _) = _
  rw [hk]
  exact if_pos hl
theorem we_getO {i : Nat} {mk : ME} {es : List (D × D)} {P : D → Dk → Prop} (hi : ρ[i]? = some (.dic es)) (h : WE mk ρ δ fun x δ1 => ∃ k z, keyOf x = some k ∧ lookD es (keyD k) = some z ∧ P z δ1) : WE (mGetO i mk) ρ δ P := by
  obtain ⟨x, δ1, e1, k, z, e2, e3, p⟩ := h
  refine ⟨_, _, ?_, p⟩
  unfold mGetO
  rw [hi]
  show ((mk ρ δ).bind _) = _
  rw [e1]
  show ((keyOf x).bind _) = _
  rw [e2]
  show ((lookD es (keyD k)).map _) = _
  rw [e3]
  rfl
end
end PD
namespace PD
open PySem PySem.Spec PyProof.Rows L2
section
variable {X : Cx} {e b : Expr} {ma mb : ME} {x y : Str} {p0 p1 p2 p3 tp tq pos : Pos}
theorem RepK.empty {K M H kvs es} (r : RepK K M H kvs es) : kvs.isEmpty = es.isEmpty := by cases r <;> rfl
end
end PD
namespace PD
open PySem PySem.Spec PyProof.Rows L2
end PD
namespace PD
open PySem PySem.Spec PyProof.Rows L2
theorem Reps.reverse {K M H} : ∀ {vs ds}, Reps K M H vs ds → Reps K M H vs.reverse ds.reverse
  | _, _, .nil => .nil
  | _, _, .cons r t => by
    rw [List.reverse_cons, List.reverse_cons]
    exact (Reps.reverse t).append (.cons r .nil)
end PD
namespace PD
open PySem PySem.Spec PyProof.Rows L2
mutual
def noL : D → Bool
  | .list _ => false
  | .tuple ds => noLs ds
  | .dict es => es.isEmpty
  | _ => true
def noLs : List D → Bool
  | [] => true
  | d :: ds => noL d && noLs ds
end
structure ShowOk2 (d : D) : Prop where
  s : d.showable = true
  n : noL d = true
  p : d.depth ≤ 60
  z : d.shown.length ≤ sizeLine
instance (d : D) : Decidable (ShowOk2 d) := decidable_of_iff (d.showable = true ∧ noL d = true ∧ d.depth ≤ 60 ∧ d.shown.length ≤ sizeLine) ⟨fun h => ⟨h.1, h.2.1, h.2.2.1, h.2.2.2⟩, fun h => ⟨h.1, h.2, h.3, h.4⟩⟩
end PD
namespace PD
open PySem PySem.Spec PyProof.Rows L2
end PD
set_option maxHeartbeats 4000000
namespace PD
open PySem PySem.Spec PyProof.Rows L2
end PD
namespace PD
open PySem PySem.Spec PyProof.Rows L2 TL
end PD
namespace PD
open PySem PySem.Spec PyProof.Rows L2 TL
def absO (i : Int) : Int := if i < 0 then -i else i
def deckO (ns : List Int) : Dk := ⟨(ns.take 63).map absO, 0, [], none⟩
structure DkO (b : Nat) (δ : Dk) : Prop where
  k0 : 0 ≤ δ.k
  k1 : δ.k ≤ b
  r0 : δ.rests = []
theorem DkO.mono {b c : Nat} {δ : Dk} (h : DkO b δ) (hb : b ≤ c) : DkO c δ := ⟨h.k0, by have := h.k1; omega, h.r0⟩
theorem DkO.start (ns : List Int) : DkO 0 (deckO ns) := ⟨Int.le_refl 0, Int.le_refl 0, rfl⟩
end PD
namespace PD
open PySem PySem.Spec PyProof.Rows L2 TL
end PD
namespace PD
open PySem PySem.Spec PyProof.Rows L2
mutual
def noL3 : D → Bool
  | .list _ => false
  | .tuple ds => noL3s ds
  | .dict es => noL3k es
  | _ => true
def noL3s : List D → Bool
  | [] => true
  | d :: ds => noL3 d && noL3s ds
def noL3k : List (D × D) → Bool
  | [] => true
  | (_, d) :: es => noL3 d && noL3k es
end
structure ShowOk3 (d : D) : Prop where
  s : d.showable = true
  n : noL3 d = true
  p : d.depth ≤ 60
  z : d.shown.length ≤ sizeLine
instance (d : D) : Decidable (ShowOk3 d) := decidable_of_iff (d.showable = true ∧ noL3 d = true ∧ d.depth ≤ 60 ∧ d.shown.length ≤ sizeLine) ⟨fun h => ⟨h.1, h.2.1, h.2.2.1, h.2.2.2⟩, fun h => ⟨h.1, h.2, h.3, h.4⟩⟩
end PD
namespace PD
open PySem PySem.Spec PyProof.Rows L2
end PD
namespace PD
open PySem PySem.Spec PyProof.Rows L2
open AutoSeq1 (wpAny_loadPart')
end PD
namespace QS
open PySem PySem.Spec PyProof.Rows L2
def putK (acc : List Str) (x : Str) : List Str := if x ∈ acc then acc else x :: acc
theorem putK_len (acc : List Str) (x : Str) : (putK acc x).length = if decide (x ∈ acc) = true then acc.length else acc.length + 1 := by
  unfold putK
  by_cases h : x ∈ acc
  · rw [if_pos h, if_pos (decide_eq_true h)]
  · rw [if_neg h, if_neg (by simpa using h)]; rfl
theorem putK_mem (acc : List Str) (x k : Str) : decide (k ∈ putK acc x) = (decide (k ∈ acc) || decide (k = x)) := by
  unfold putK
  by_cases h : x ∈ acc
  · rw [if_pos h]
    by_cases e : k = x
    · subst e; simp [h]
    · simp [e]
  · rw [if_neg h]
    rw [Bool.eq_iff_iff]
    simp [List.mem_cons, or_comm]
/-- the set at a holds just these texts -/
def At (P : Program) (w : World) (h : Heap) (a : Addr) (l : List Str) : Prop := h.SetOf (PySem.strKind P w) a (fun k => decide (k ∈ l)) l.length
theorem At.keep {P : Program} {w : World} {h h' : Heap} {a : Addr} {l : List Str} (H : At P w h a l) (k : ∀ o, h.get? a = some o → h'.get? a = some o) : At P w h' a l := by
  obtain ⟨o, es, ep, t, ho, r⟩ := H
  exact ⟨o, es, ep, t, k o ho, r⟩
theorem At.put {P : Program} {w : World} {h : Heap} {a : Addr} {l : List Str} {x : Str} (H : h.SetOf (PySem.strKind P w) a (fun k => decide (k ∈ l) || decide (k = x)) (if decide (x ∈ l) = true then l.length else l.length + 1)) : At P w h a (putK l x) := by
  unfold At
  rw [putK_len]
  have e : (fun k => decide (k ∈ putK l x)) = fun k => decide (k ∈ l) || decide (k = x) := funext fun k => putK_mem l x k
  rw [e]
  exact H
end QS
namespace QS
open PySem PySem.Spec PyProof.Rows L2
section
variable {P : Program} {w : World} {A : Around} {E : Value → Shared → Prop} {s : Shared}
abbrev fresh (w : World) : Obj := { cls := .type "set", dict := none, data := .set #[] 0 (.fresh 0 0 (!w.params.followText "set-order")) }
end
end QS
namespace QS
open PySem PySem.Spec PyProof.Rows L2
end QS
namespace PD
open PySem PySem.Spec PyProof.Rows L2 TL
end PD
namespace PD
open PySem PySem.Spec PyProof.Rows L2 TL
end PD
namespace QS
open PySem PySem.Spec PyProof.Rows L2 TL PD
end QS
namespace QS
open PySem PySem.Spec PyProof.Rows L2 TL PD
end QS
namespace PD
open PySem PySem.Spec PyProof.Rows L2 TL
end PD
namespace QS
open PySem
end QS
namespace PD
open PySem PySem.Spec PyProof.Rows L2 TL
open AutoSeq1 (wpAny_loadPart')
end PD
namespace PD
open PySem PySem.Spec PyProof.Rows L2 TL
end PD
namespace PD
open PySem PySem.Spec PyProof.Rows L2 TL
end PD
namespace PD
open PySem PySem.Spec PyProof.Rows L2 TL
end PD
namespace QS
open PySem PySem.Spec PyProof.Rows L2
section
variable (P : Program) (w : World)
def tx (e : Int × Value) : Str := match e.2 with
  | .str x _ => x
  | _ => Str.empty
def Fine (e : Int × Value) : Prop := ∃ x tk, e = ((strKind P w).hash x, Value.str x tk)
/-- the entries es, laid out by t, are the texts of l -/
structure Lies (es : Array (Int × Value)) (t : SetTable) (l : List Str) : Prop where
  fine : ∀ e ∈ es.toList, Fine P w e
  perm : (es.toList.map tx).Perm l
  nd : l.Nodup
  few : es.size < scanBound
  fits : t.fits es.size = true
  ris : Ris t.place.toList
  led : w.params.followText "set-order" = true ∨ t.led = true
def AtR (h : Heap) (a : Addr) (l : List Str) : Prop := ∃ o es ep t, h.get? a = some o ∧ o.ExactSet ∧ o.data = .set es ep t ∧ Lies P w es t l
end
section
variable {P : Program} {w : World} {A : Around} {E : Value → Shared → Prop} {s : Shared} {a : Addr}
theorem AtR.keep {h h' : Heap} {l : List Str} (H : AtR P w h a l) (k : ∀ o, h.get? a = some o → h'.get? a = some o) : AtR P w h' a l := by
  obtain ⟨o, es, ep, t, ho, r⟩ := H
  exact ⟨o, es, ep, t, k o ho, r⟩
theorem Lies.elems {es : Array (Int × Value)} {t : SetTable} {l : List Str} (L : Lies P w es t l) : ElemsOf (strKind P w) es.toList := fun e he => by
  obtain ⟨x, tk, rfl⟩ := L.fine e he
  exact ⟨⟨x, strKind_is P w x tk, rfl⟩, rfl⟩
theorem fine_is {e : Int × Value} (h : Fine P w e) {x : Str} : (strKind P w).is x e.2 = true ↔ tx e = x := by
  obtain ⟨y, tk, rfl⟩ := h
  constructor
  · intro q
    have q : (y == x) = true := q
    exact eq_of_beq q
  · intro q
    have q : y = x := q
    subst q
    exact strKind_is P w y tk
theorem Lies.relay {es : Array (Int × Value)} {t : SetTable} {l : List Str} (L : Lies P w es t l) (n : Nat) : Lies P w (relayAll t es n).1 (relayAll t es n).2.1 l := by
  have pm := relayAll_perm t es n
  have hs : (relayAll t es n).1.size = es.size := by rw [← Array.length_toList, pm.length_eq, Array.length_toList]
  exact ⟨fun e he => L.fine e (pm.mem_iff.mp he), (pm.map tx).trans L.perm, L.nd, by rw [hs]; exact L.few, relayAll_fits t es n, relayAll_ris t es n, L.led.imp id fun z => by rw [relayAll_led]; exact z⟩
theorem store_set {l : List Str} {o : Obj} {es es' : Array (Int × Value)} {ep : Nat} {t t' : SetTable} {Q : Unit → Shared → Prop} (ho : s.heap.get? a = some o) (hx : o.ExactSet) (hd : o.data = .set es ep t) (L : Lies P w es' t' l)
    (hQ : ∀ h' o', Heap.SameBut a s.heap h' → h'.get? a = some o' → o'.ExactSet → o'.data = .set es' (ep + 1) t' → Q () { s with heap := h' }) : wpAny (model P w) A (storeSet a es' t') Q E s :=
  wpAny_storeSet_of ho hd (hQ _ _ (Heap.SameBut.update s.heap a (Obj.putSet es' t')) (store_at ho hd) hx rfl) (fits_of_scanBound L.few)
theorem AtR.put {l : List Str} {x : Str} {tk : Tok} {Q : Bool → Shared → Prop} (H : AtR P w s.heap a l) (room : l.length + 1 < scanBound)
    (hQ : ∀ (b : Bool) h', Heap.SameBut a s.heap h' → AtR P w h' a (putK l x) → Q b { s with heap := h' }) : wpAny (model P w) A (setAddHashed a (.str x tk) ((strKind P w).hash x)) Q E s := by
  obtain ⟨o, es, ep, t, ho, hex, hd, L⟩ := H
  have hsc : (Value.str x tk).scannable = true := rfl
  have mem : x ∈ l ↔ ∃ e ∈ es.toList, (strKind P w).is x e.2 = true := by
    rw [← L.perm.mem_iff, List.mem_map]
    exact ⟨fun ⟨e, he, q⟩ => ⟨e, he, (fine_is (L.fine e he)).mpr q⟩, fun ⟨e, he, q⟩ => ⟨e, he, (fine_is (L.fine e he)).mp q⟩⟩
  have quiet : ∀ (b : Bool) (s₁ : Shared) (Q' : Unit → Shared → Prop), Q' () s₁ → wpAny (model P w) A (match b with | true => rule "set.scan.the-table-gave-way" | false => pure ()) Q' E s₁ := fun b s₁ Q' q => by
    cases b
    · exact wpAny_pure q
    · exact wpAny_rule q
  unfold setAddHashed setAddHashedIn
  refine wpAny_holding (wpAny_bind (wpAny_setState_of ho hd L.fits ?_))
  dsimp only
  rw [byScan_of hsc L.few L.elems]
  simp only [↓reduceIte]
  unfold setAddByScan
  refine wpAny_bind (wpAny_bind (wpAny_rule (wpAny_bind (wpAny_setScan_of (strKind_is P w x tk) ho hd L.fits L.elems ?_))))
  cases hfi : List.findIdx? (fun e => (strKind P w).is x e.2) es.toList with
  | some j =>
    dsimp only
    obtain ⟨hj, pj, _⟩ := List.findIdx?_eq_some_iff_getElem.mp hfi
    have hx : x ∈ l := mem.mpr ⟨_, List.getElem_mem hj, pj⟩
    refine wpAny_pure (wpAny_pure (hQ _ s.heap (Heap.SameBut.refl a s.heap) ⟨o, es, ep, t, ho, hex, hd, ?_⟩))
    unfold putK
    rw [if_pos hx]
    exact L
  | none =>
    dsimp only
    have hx : x ∉ l := fun z => by
      obtain ⟨e, he, q⟩ := mem.mp z
      rw [List.findIdx?_eq_none_iff.mp hfi e he] at q
      cases q
    have pm := layNew_perm t es ((strKind P w).hash x) (.str x tk)
    have hf1 := layNew_fits t es ((strKind P w).hash x) (.str x tk)
    have hr1 := layNew_ris t es ((strKind P w).hash x) (.str x tk) L.ris
    have hl1 := layNew_led t es ((strKind P w).hash x) (.str x tk)
    generalize layNew t es ((strKind P w).hash x) (.str x tk) = Z at pm hf1 hr1 hl1 ⊢
    obtain ⟨es1, t1, wasDummy, gave⟩ := Z
    dsimp only at pm hf1 hr1 hl1 ⊢
    rw [Array.toList_push] at pm
    have pc : es1.toList.Perm (((strKind P w).hash x, Value.str x tk) :: es.toList) := pm.trans (List.perm_append_singleton _ _)
    have hsz : es1.size = l.length + 1 := by
      rw [← Array.length_toList, pc.length_eq, List.length_cons, ← L.perm.length_eq, List.length_map]
    have go : ∀ t2 : SetTable, t2.fits es1.size = true → Ris t2.place.toList → t2.led = t1.led → Lies P w es1 t2 (putK l x) := fun t2 f r d => by
      unfold putK
      rw [if_neg hx]
      refine ⟨fun e he => ?_, (pc.map tx).trans (L.perm.cons x), List.nodup_cons.mpr ⟨hx, L.nd⟩, by rw [hsz]; exact room, f, r, L.led.imp id fun z => by rw [d, hl1]; exact z⟩
      rcases List.mem_cons.mp (pc.mem_iff.mp he) with z | z
      · exact ⟨x, tk, z⟩
      · exact L.fine e z
    have tail : ∀ (t2 : SetTable) (R : Option Bool → Shared → Prop), Lies P w es1 t2 (putK l x) → (∀ h', Heap.SameBut a s.heap h' → AtR P w h' a (putK l x) → R (some true) { s with heap := h' }) →
        wpAny (model P w) A (do
          storeSet a es1 t2
          if (!wasDummy && t2.tooFull) = true then do
              (match (relayAll t2 es1 (SetTable.grown es1.size)).2.2 with | true => rule "set.scan.the-table-gave-way" | false => pure ())
              storeSet a (relayAll t2 es1 (SetTable.grown es1.size)).1 (relayAll t2 es1 (SetTable.grown es1.size)).2.1
              pure (some true)
            else pure (some true)) R E s := fun t2 R L2 hR => by
      refine wpAny_bind (store_set ho hex hd L2 fun h1 o1 sb1 ho1 hex1 hd1 => ?_)
      split
      · refine wpAny_bind (quiet _ _ _ (wpAny_bind (store_set ho1 hex1 hd1 (L2.relay _) fun h2 o2 sb2 ho2 hex2 hd2 => wpAny_pure (hR h2 (sb1.trans sb2) ⟨o2, _, _, _, ho2, hex2, hd2, L2.relay _⟩))))
      · exact wpAny_pure (hR h1 sb1 ⟨o1, _, _, _, ho1, hex1, hd1, L2⟩)
    refine wpAny_bind (quiet _ _ _ ?_)
    split
    · refine wpAny_bind ?_
      rw [hashByValue_scannable 8 hsc]
      refine wpAny_pure ?_
      refine tail _ _ ?_ fun h' sb r => ?_
      · first
          | (split
             · exact go _ hf1 hr1 rfl
             · exact go _ (SetTable.fits_plain_off hf1) hr1 rfl)
          | (split
             · exact go _ (SetTable.fits_plain_off hf1) hr1 rfl
             · exact go _ hf1 hr1 rfl)
          | exact go _ hf1 hr1 rfl
      · dsimp only; exact wpAny_pure (hQ true h' sb r)
    · refine wpAny_bind (wpAny_pure ?_)
      simp only [↓reduceIte]
      refine tail _ _ (go _ hf1 hr1 rfl) fun h' sb r => ?_
      dsimp only
      exact wpAny_pure (hQ true h' sb r)
end
end QS
namespace PD
open PySem PySem.Spec PyProof.Rows L2 TL
end PD
namespace PD
open PySem PySem.Spec PyProof.Rows L2
end PD
namespace PD
open PySem PySem.Spec PyProof.Rows L2
end PD
namespace PD
open PySem PySem.Spec PyProof.Rows L2
/-- the deck with another number -/
theorem DeckAt.left {H : Hp} {p : DP} {δ : Dk} (h : DeckAt H p δ) (ht : p.t = none) (h0 : δ.rests = []) (n : Int) : DeckAt (upd H p.2 (.lst [.int n])) p { δ with lft := some n } := by
  refine ⟨h.ne, h.ne2, h.ne3, by rw [upd_ne h.ne, h.one]; unfold dkTl; rw [if_pos h0, if_pos (show ({ δ with lft := some n } : Dk).rests = [] from h0)], fun _ => ?_, by rw [upd_ne h.ne3.symm, h.tri]; rfl, (h.tab.lst (h.two ht)).as rfl Iff.rfl⟩
  rw [upd_same]
  show _ = some (HO.lst (if δ.rests = [] then _ else _))
  rw [if_pos h0]
  rfl
end PD
namespace PD
open PySem PySem.Spec PyProof.Rows L2
end PD
namespace PD
open PySem PySem.Spec PyProof.Rows L2
end PD
namespace PySem.W
open PySem PySem.Calls PyProof.Rows
end PySem.W
namespace PD
open PySem PySem.Spec PyProof.Rows L2
def allAlk (ds : List D) : Bool := ds.all fun d => ds.all fun e => PySem.W.alike d e
def isTp : D → Bool
  | .tuple (_ :: _) => true
  | _ => false
def isOth : D → Bool
  | .none => false
  | .tuple _ => false
  | _ => true
structure SortOk (ds : List D) : Prop where
  l : ds.length ≤ sizeLine
  a : allAlk ds = true
  s : (ds.all isTp || ds.all isOth) = true
  h : PyData.hasDictAll ds = false
  d : ∀ d ∈ ds, d.depth ≤ 50
instance (ds : List D) : Decidable (SortOk ds) := decidable_of_iff (ds.length ≤ sizeLine ∧ allAlk ds = true ∧ (ds.all isTp || ds.all isOth) = true ∧ PyData.hasDictAll ds = false ∧ ∀ d ∈ ds, d.depth ≤ 50) ⟨fun h => ⟨h.1, h.2.1, h.2.2.1, h.2.2.2.1, h.2.2.2.2⟩, fun h => ⟨h.1, h.2, h.3, h.4, h.5⟩⟩
end PD
namespace PD
open PySem PySem.Spec PyProof.Rows L2
end PD
namespace PD
open PySem PySem.Spec PyProof.Rows PySem.Builtin
end PD
namespace PD
open PySem PySem.Spec PyProof.Rows L2
structure Jx (X : Cx) (σ : L2.St) (H : Hp) (m : Str → Option Value) (N : Nat) (s : Shared) : Prop where
  i : Inv X [] σ H s
  n : s.heap.Ns X.env.locals m
  t : N ≤ s.toks
section
variable {X : Cx} {σ : L2.St} {H : Hp} {m : Str → Option Value} {N : Nat} {s : Shared}
theorem Jx.tok (J : Jx X σ H m N s) (k : Nat) (h : N ≤ k) : Jx X σ H m N { s with toks := k } := ⟨J.i.tok k, J.n, h⟩
end
end PD
namespace PD
open PySem PySem.Spec PyProof.Rows L2
end PD
namespace PD
open PySem PySem.Spec PyProof.Rows L2
end PD
namespace PD
open PySem PySem.Spec PyProof.Rows L2
end PD
namespace PD
open PySem PySem.Spec PyProof.Rows L2
def PSN (X : Cx) (st : Stmt) (t : Nat → TS) : Prop :=
  ∀ (n : Nat) (pins : List (Addr × Obj)) (s : Shared) (σ : L2.St) (H : Hp) (D : Ends), n ≤ s.toks → Inv X pins σ H s → t n D σ H → wpAny (model X.prog X.w) X.A (exec st X.env) (SP X pins D) X.xe s
def PSsN (X : Cx) (st : List Stmt) (t : Nat → TS) : Prop :=
  ∀ (n : Nat) (pins : List (Addr × Obj)) (s : Shared) (σ : L2.St) (H : Hp) (D : Ends), n ≤ s.toks → Inv X pins σ H s → t n D σ H → wpAny (model X.prog X.w) X.A (execs st X.env) (SP X pins D) X.xe s
section
variable {X : Cx} {st : Stmt} {rest : List Stmt} {t u : Nat → TS}
theorem PSN.of {t : TS} (h : PS X st t) : PSN X st fun _ => t := fun n pins s σ H D _ I q => h.run pins s σ H D I q
theorem PSsN.of {t : TS} (h : PSs X rest t) : PSsN X rest fun _ => t := fun n pins s σ H D _ I q => h.run pins s σ H D I q
end
def SndSN (K : PySem.W.Frag) (t : Nat → TS) (m : MS) : Prop := ∀ F σ H ρ δ fl ρ' δ', Good K F σ H ρ δ → m ρ δ = some (fl, ρ', δ') → ∀ D : Ends,
  (∀ σ' H', Good K F σ' H' ρ' δ' → Mv (Mm F σ ρ) H (Mm F σ' ρ') H' → match fl with
    | .nx => D.nx σ' H'
    | .bk => D.bk σ' H'
    | .ct => D.ct σ' H'
    | .rt d => ∀ v, Rep K (Mm F σ' ρ') H' v d → D.rt v H') → t F.n D σ H
structure PDSsN (X : Cx) (sts : List Stmt) (m : MS) : Prop where
  ex : ∃ t, PSsN X sts t ∧ SndSN X.K t m
end PD
namespace PD
open PySem PySem.Spec PyProof.Rows L2
theorem wpAny_withToks {α : Type} {M : Model} {A : Around} {t : Sem α} {Q : α → Shared → Prop} {E : Value → Shared → Prop} {s : Shared} {n : Nat} (hn : n ≤ s.toks) (h : wpAny M A t (fun a s' => n ≤ s'.toks → Q a s') E s) : wpAny M A t Q E s :=
  wpAny_mono (wpAny_toks_of hn h) (fun _ _ z => z.2 z.1) fun _ _ z => z.2
/-- a def's body, its locals known exactly, the tokens counted -/
theorem fn_enter {P : Program} {w : World} {K : PySem.W.Frag} {mg : Str → Option Value} {base : Heap} {k : Nat} {x qual : Str} {st : Stmt} {f : Addr} {fd : FuncData} {N ps : List Str} (F : Fun K x qual st f fd) (S : FnScope N ps (defScope st))
    {A : Around} {outer : List Env} {s : Shared} {H : Hp} {args : Args} {us : List Value} {vs : List V} {Q : VK} {E : XK} {n : Nat} (hr : Room (k + 1) A) (e0 : Env0 P w K mg base A outer s H) (hb : BindsTo s fd args (ps.zip us)) (r : Vals vs us) (hl : vs.length = ps.length) (hn : n ≤ s.toks)
    (hbody : ∀ (cdv : Value) (s1 : Shared), Room k (A.deeper (envOfC qual (defScope st) s.heap.objs.size f cdv)) → Jx (cxOf CX0 P w K mg base N qual (defScope st) f cdv A outer s H E).nox (start N vs) H (bindL (envOfC qual (defScope st) s.heap.objs.size f cdv).kindOf (ps.zip us) fun _ => none) n s1 →
      wpAny (model P w) (cxOf CX0 P w K mg base N qual (defScope st) f cdv A outer s H E).A (execs (defBody st) (cxOf CX0 P w K mg base N qual (defScope st) f cdv A outer s H E).env) (SP (cxOf CX0 P w K mg base N qual (defScope st) f cdv A outer s H E).nox [] { nx := fun _ H' => Q .non H', rt := Q }) (cxOf CX0 P w K mg base N qual (defScope st) f cdv A outer s H E).nox.xe s1) :
    codeAny (model P w) A (.call (.ref f) args) (CR CX0 outer P w H s Q E) s := by
  obtain ⟨oc, od, kV, doc, pm, an, cdv, ct, osl, rfl, lk, hcd⟩ := F.ex
  have KX : K.In s.heap := e0.mod.kin.keeps fun b o e => (e0.bs b o e).1
  have lim : s.heap.NoLimit := e0.mod.nolimit.keeps fun b o e => (e0.bs b o e).1
  have hkind : ∀ y ∈ ps.zip us, (defScope st).names.lookup y.1 = some .local ∨ ((defScope st).names.lookup y.1 = some .cell ∧ ((cellsFrom (s.heap.objs.size + 1) (defScope st).names []).lookup y.1).isSome = true) := fun ⟨n, v⟩ hy => by
    rcases S.par n (List.of_mem_zip hy).1 with q | q
    · exact .inl q
    · exact .inr ⟨q, PySem.W.cellsFrom_some _ _ _ (.inl q)⟩
  refine codeAny_call_function hr.depth (KX _ _ lk) rfl S.co S.gen rfl (PySem.W.codeRec_of KX hcd) (hb _ _ _ _ ?_)
  refine wpAny_withToks hn (wpAny_newFunctionEnv_cells S.kind hkind fun env he s1 x => ?_)
  subst he
  intro hk
  refine ⟨lim.keeps x.toInCall.keep, codeAny_func ?_⟩
  have I : Inv (cxOf CX0 P w K mg base N qual (defScope st) f cdv A outer s H E) [] (start N vs) H s1 := inv_start S hr.hd e0 hl r x
  have J : Jx (cxOf CX0 P w K mg base N qual (defScope st) f cdv A outer s H E).nox (start N vs) H (bindL (envOfC qual (defScope st) s.heap.objs.size f cdv).kindOf (ps.zip us) fun _ => none) n s1 := ⟨I.wish _, x.toInCall.ns, hk⟩
  refine wpAny_mono (hbody cdv s1 (hr.deeper _) J) (fun fl s' hs => ?_) fun e s' hs => hs.elim
  have fin : ∀ {σ' : L2.St} {H' : Hp} {v : V} {u : Value}, Inv (cxOf CX0 P w K mg base N qual (defScope st) f cdv A outer s H E).nox [] σ' H' s' → RelV v u → Q v H' → CE outer P w H s Q u s' :=
    fun {σ' H' v u} J rv q => ⟨v, H', J.os, J.bare, J.base, J.hok, rv, q⟩
  cases fl with
  | ret u =>
    obtain ⟨v, σ', H', J, rv, q⟩ := hs
    exact fin J rv q
  | next =>
    obtain ⟨σ', H', J, q⟩ := hs
    exact fin (v := V.non) (u := Value.none) J rfl q
  | brk =>
    obtain ⟨_, _, _, q⟩ := hs
    exact False.elim q
  | cont =>
    obtain ⟨_, _, _, q⟩ := hs
    exact False.elim q
end PD
namespace PD
open PySem PySem.Spec PyProof.Rows L2
end PD
namespace PD
open PySem PySem.Spec PyProof.Rows L2
theorem Good.nmT {K F σ H ρ δ a u} (G : Good K F σ H ρ δ) (n : ¬ F.M0 a) (e : H a = some u) (t : IsT u) : ¬ Mm F σ ρ a := by
  rintro (m | ⟨i, w, e1, e2⟩)
  · exact n m
  · obtain ⟨b, o, e3, e4, r, _⟩ := G.own i w e1
    rw [e2] at e3
    cases e3
    rw [e] at e4
    cases e4
    rcases t with ⟨xs, rfl⟩ | ⟨o, xs, rfl⟩ | ⟨o, rfl⟩ <;> cases r
theorem Good.man {K F σ H ρ δ} {i : Nat} {md : Md} (G : Good K F σ H ρ δ) (h : ρ[i]? = some (.fix (.man md))) : ∃ a, σ[i]? = some (some (.ref a)) ∧ ManH K (Mm F σ ρ) H a md F.n := by
  obtain ⟨a, e, x⟩ := G.dsl i h
  exact ⟨a, e, ManH.mo (M := F.M0) (H := F.H0) x (fun a u t e n => ⟨G.frT e n, G.nmT n (G.frT e n) t⟩) (Nat.le_refl _)⟩
end PD
namespace PD
open PySem PySem.Spec PyProof.Rows L2
end PD
namespace PD
open PySem PySem.Spec PyProof.Rows L2
open Classical in
noncomputable def Fr.tup (F : Fr) (H : Hp) (N : Nat) : Fr := ⟨F.M0, F.dk, fun x => if (∃ u, H x = some u ∧ IsT u) then H x else F.H0 x, N, F.kp⟩
end PD
namespace PD
open PySem PySem.Spec PyProof.Rows L2
end PD
namespace PD
open PySem PySem.Spec PyProof.Rows L2
structure ShowOk4 (d : D) : Prop where
  s : d.showable = true
  p : d.depth ≤ 60
  z : d.shown.length ≤ sizeLine
instance (d : D) : Decidable (ShowOk4 d) := decidable_of_iff (d.showable = true ∧ d.depth ≤ 60 ∧ d.shown.length ≤ sizeLine) ⟨fun h => ⟨h.1, h.2.1, h.2.2⟩, fun h => ⟨h.1, h.2, h.3⟩⟩
end PD
namespace PD
open PySem PySem.Spec PyProof.Rows L2
end PD
namespace PD
open PySem PySem.Spec PyProof.Rows L2
end PD
namespace PD
open PySem PySem.Spec PyProof.Rows L2
open AutoSeq1 (wpAny_loadPart')
end PD
namespace PD
open PySem PySem.Spec PyProof.Rows L2
def GhH (K : PySem.W.Frag) (M : Addr → Prop) (H : Hp) (a : Addr) (g : Fx) (n : Nat) : Prop := match g with
  | .man md => ManH K M H a md n
  | .ton fd md => TonH K M H a fd md n
  | _ => False
theorem GhH.mo {K : PySem.W.Frag} {M M' : Addr → Prop} {H H' : Hp} {a : Addr} {g : Fx} {n n' : Nat} (h : GhH K M H a g n) (k : ∀ a u, IsT u → H a = some u → ¬ M a → H' a = some u ∧ ¬ M' a) (hn : n ≤ n') : GhH K M' H' a g n' := by
  cases g with
  | man md => exact ManH.mo h k hn
  | ton fd md => exact TonH.mo h k hn
  | _ => exact h
theorem GhH.mv {K : PySem.W.Frag} {M M' : Addr → Prop} {H H' : Hp} {a : Addr} {g : Fx} {n : Nat} (h : GhH K M H a g n) (m : Mv M H M' H') : GhH K M' H' a g n := h.mo (fun b u _ e nn => m b u e nn) (Nat.le_refl _)
theorem Good.ton {K F σ H ρ δ} {i : Nat} {fd : D} {md : Md} (G : Good K F σ H ρ δ) (h : ρ[i]? = some (.fix (.ton fd md))) : ∃ a, σ[i]? = some (some (.ref a)) ∧ TonH K (Mm F σ ρ) H a fd md F.n := by
  obtain ⟨a, e, x⟩ := G.dsl i h
  exact ⟨a, e, TonH.mo (M := F.M0) (H := F.H0) x (fun a u t e n => ⟨G.frT e n, G.nmT n (G.frT e n) t⟩) (Nat.le_refl _)⟩
end PD
namespace PD
open PySem PySem.Spec PyProof.Rows L2
end PD
namespace PD
open PySem PySem.Spec PyProof.Rows L2
end PD
namespace PD
open PySem PySem.Spec PyProof.Rows L2
section
variable {X : Cx} {a b c e o : Expr} {rest : List Stmt} {ma mb me mo : ME} {nc : MT} {m m' : MS} {pos : Pos}
def PTN (X : Cx) (e : Expr) (t : Nat → TT) : Prop :=
  ∀ (n : Nat) (pins : List (Addr × Obj)) (s : Shared) (σ : L2.St) (H : Hp) (Q : Bool → Hp → Prop), n ≤ s.toks → Inv X pins σ H s → t n σ H Q → wpAny (model X.prog X.w) X.A (isTrue e X.env (eval e X.env)) (TP X pins σ Q) X.xe s
def SndTN (K : PySem.W.Frag) (t : Nat → TT) (m : MT) : Prop := ∀ F σ H ρ δ d δ', Good K F σ H ρ δ → m ρ δ = some (d, δ') → ∀ Q : Bool → Hp → Prop, (∀ H', Good K F σ H' ρ δ' → Mv (Mm F σ ρ) H (Mm F σ ρ) H' → Q d H') → t F.n σ H Q
structure PDTN (X : Cx) (e : Expr) (m : MT) : Prop where
  ex : ∃ t, PTN X e t ∧ SndTN X.K t m
theorem Good.frz {K F σ H ρ δ} {i : Nat} {ds : List D} (G : Good K F σ H ρ δ) (hi : ρ[i]? = some (.own (.lst ds))) : Good K F σ H (ρ.set i (.val (.list ds))) δ ∧ Mv (Mm F σ ρ) H (Mm F σ (ρ.set i (.val (.list ds)))) H :=
  snd_frz (K := K) i snd_next F σ H ρ δ .nx (ρ.set i (.val (.list ds))) δ G (by unfold sFrz; rw [hi]; rfl) { nx := fun σ' H' => Good K F σ' H' (ρ.set i (.val (.list ds))) δ ∧ Mv (Mm F σ ρ) H (Mm F σ' (ρ.set i (.val (.list ds)))) H', rt := fun _ _ => False } fun σ' H' G' M' => ⟨G', M'⟩
end
end PD
namespace PD
open PySem PySem.Spec PyProof.Rows L2
section
variable {X : Cx} {σ : L2.St} {H : Hp} {m : Str → Option Value} {N : Nat} {s : Shared}
/-- texts whose tokens are out -/
inductive Tks (k : Nat) : List Str → List Value → Prop
  | nil : Tks k [] []
  | cons {x : Str} {t : Tok} {xs : List Str} {us : List Value} : t ≠ 0 → t < k → Tks k xs us → Tks k (x :: xs) (.str x t :: us)
theorem Tks.mono {k k' : Nat} (h : k ≤ k') : ∀ {xs us}, Tks k xs us → Tks k' xs us
  | _, _, .nil => .nil
  | _, _, .cons a b c => .cons a (Nat.lt_of_lt_of_le b h) (Tks.mono h c)
theorem Tks.get {k : Nat} : ∀ {xs us} {i : Nat} {x : Str}, Tks k xs us → xs[i]? = some x → ∃ t, us[i]? = some (.str x t) ∧ t ≠ 0 ∧ t < k
  | _, _, _, _, .nil, e => by simp at e
  | _, _, 0, _, .cons a b c, e => by cases e; exact ⟨_, rfl, a, b⟩
  | _, _, i + 1, _, .cons a b c, e => by
    obtain ⟨t, h⟩ := Tks.get (i := i) c (by simpa using e)
    exact ⟨t, by simpa using h⟩
theorem DeckAt.kept {H H' : Hp} {p : DP} {δ : Dk} (dk : DeckAt H p δ) (k : ∀ a o, H a = some o → H' a = some o) : DeckAt H' p δ := ⟨dk.ne, dk.ne2, dk.ne3, k _ _ dk.one, (fun z => k _ _ (dk.two z)), k _ _ dk.tri, dk.tab.ext k⟩
end
end PD
namespace PD
open PySem PySem.Spec PyProof.Rows L2
/-- as FnMk, a token being out already -/
structure FnMk1 (P : Program) (w : World) (K : PySem.W.Frag) (mg : Str → Option Value) (base : Heap) (CX : CXT) (k : Nat) (f : Addr) (fd : FuncData) (ps : List Str) (m : Dk → Option (Md × Dk)) : Prop where
  len : ps.length = 1
  run : ∀ (A : Around) (outer : List Env) (s : Shared) (H : Hp) (args : Args) (us : List Value) (p : DP) (δ : Dk) (md : Md) (δ' : Dk) (M : Addr → Prop) (R : V → Hp → Nat → Prop) (E : XK), Room k A → Env0 P w K mg base A outer s H → BindsTo s fd args (ps.zip us) → Vals [.ref p.1] us → 1 ≤ s.toks →
    (∀ a, M a → mtO (H a)) → M p.1 → M p.2 → M p.3 → DeckAt H p δ → m δ = some (md, δ') →
    (∀ a H' N, (∀ a o, a ≠ p.1 → a ≠ p.2 → a ≠ p.3 → H a = some o → H' a = some o) → DeckAt H' p δ' → ManH K M H' a md N → R (.ref a) H' N) →
    codeAny (model P w) A (.call (.ref f) args) (fun r s' => CR CX outer P w H s (fun v H' => R v H' s'.toks) E r s') s
end PD
namespace PD
open PySem PySem.Spec PyProof.Rows L2
structure FnB (P : Program) (w : World) (K : PySem.W.Frag) (mg : Str → Option Value) (base : Heap) (CX : CXT) (k : Nat) (f : Addr) (fd : FuncData) (ps : List Str) (sp : Sp) : Prop where
  len : ∀ vs H Q E, sp vs H Q E → vs.length = ps.length
  run : ∀ (A : Around) (outer : List Env) (s : Shared) (H : Hp) (args : Args) (us : List Value) (vs : List V) (Q : VK) (E : XK), Room k A → Env0 P w K mg base A outer s H → BindsTo s fd args (ps.zip us) → Vals vs us → sp vs H Q E →
    codeAny (model P w) A (.call (.ref f) args) (fun r s' => CR CX outer P w H s (fun v H' => 1 ≤ s'.toks ∧ Q v H') E r s') s
end PD
namespace PD
open PySem PySem.Spec PyProof.Rows L2
end PD
namespace PD
open PySem PySem.Spec PyProof.Rows L2
end PD
namespace PD
open PySem PySem.Spec PyProof.Rows L2
theorem FnMk1.mono {P : Program} {w : World} {K : PySem.W.Frag} {mg : Str → Option Value} {base : Heap} {CX : CXT} {j k : Nat} {f : Addr} {fd : FuncData} {ps : List Str} {m : Dk → Option (Md × Dk)} (F : FnMk1 P w K mg base CX j f fd ps m) (h : j ≤ k) : FnMk1 P w K mg base CX k f fd ps m :=
  ⟨F.len, fun A outer s H args us p δ md δ' M R E hr => F.run A outer s H args us p δ md δ' M R E (hr.mono h)⟩
theorem FnB.mono {P : Program} {w : World} {K : PySem.W.Frag} {mg : Str → Option Value} {base : Heap} {CX : CXT} {j k : Nat} {f : Addr} {fd : FuncData} {ps : List Str} {sp : Sp} (F : FnB P w K mg base CX j f fd ps sp) (h : j ≤ k) : FnB P w K mg base CX k f fd ps sp :=
  ⟨F.len, fun A outer s H args us vs Q E hr => F.run A outer s H args us vs Q E (hr.mono h)⟩
end PD
namespace PD
open PySem PySem.Spec PyProof.Rows L2 TL
end PD
namespace PD
open PySem PySem.Spec PyProof.Rows L2
def RepX (K : PySem.W.Frag) (M : Addr → Prop) (H : Hp) (dk : Option DP) (n : Nat) (v : V) : Sl → Prop
  | .val d => Rep K M H v d
  | .fix .deck => ∃ p, dk = some p ∧ v = .ref p.1
  | .fix (.man md) => ∃ a, v = .ref a ∧ ManH K M H a md n
  | .fix (.ton fd md) => ∃ a, v = .ref a ∧ TonH K M H a fd md n
  | _ => False
inductive RepsX (K : PySem.W.Frag) (M : Addr → Prop) (H : Hp) (dk : Option DP) (n : Nat) : List V → List Sl → Prop
  | nil : RepsX K M H dk n [] []
  | cons {v : V} {vs : List V} {s : Sl} {ss : List Sl} : RepX K M H dk n v s → RepsX K M H dk n vs ss → RepsX K M H dk n (v :: vs) (s :: ss)
theorem RepX.mv {K M H M' H' dk n v} (m : Mv M H M' H') : ∀ {s}, RepX K M H dk n v s → RepX K M' H' dk n v s := fun {s} h => by
  cases s with
  | val d => exact Rep.mv m h
  | fix k =>
    cases k with
    | deck => exact h
    | man md => obtain ⟨a, e, h⟩ := h; exact ⟨a, e, ManH.mo h (fun b u _ e nn => m b u e nn) (Nat.le_refl _)⟩
    | ton fd md => obtain ⟨a, e, h⟩ := h; exact ⟨a, e, TonH.mo h (fun b u _ e nn => m b u e nn) (Nat.le_refl _)⟩
    | _ => exact h
  | _ => exact h
theorem RepsX.mv {K M H M' H' dk n} (m : Mv M H M' H') : ∀ {vs ss}, RepsX K M H dk n vs ss → RepsX K M' H' dk n vs ss
  | _, _, .nil => .nil
  | _, _, .cons r t => .cons (r.mv m) (t.mv m)
theorem RepsX.length {K M H dk n} : ∀ {vs ss}, RepsX K M H dk n vs ss → vs.length = ss.length
  | _, _, .nil => rfl
  | _, _, .cons _ t => by simp only [List.length_cons, RepsX.length t]
theorem RepsX.get' {K M H dk n} : ∀ {vs ss} {i : Nat} {d}, RepsX K M H dk n vs ss → ss[i]? = some d → ∃ v, vs[i]? = some v ∧ RepX K M H dk n v d
  | _, _, _, _, .nil, e => by simp at e
  | _, _, 0, _, .cons r _, e => by simp at e; subst e; exact ⟨_, rfl, r⟩
  | _, _, i + 1, d, .cons _ t, e => by simpa using RepsX.get' (i := i) (d := d) t (by simpa using e)
structure FnX (P : Program) (w : World) (K : PySem.W.Frag) (mg : Str → Option Value) (base : Heap) (CX : CXT) (k : Nat) (f : Addr) (fd : FuncData) (ps : List Str) (mf : List Sl → Dk → Option (D × Dk)) : Prop where
  len : ∀ as δ r, mf as δ = some r → as.length = ps.length
  run : ∀ (A : Around) (outer : List Env) (s : Shared) (H : Hp) (args : Args) (us : List Value) (vs : List V) (as : List Sl) (δ : Dk) (r : D) (δ' : Dk) (n : Nat) (M : Addr → Prop) (dk : Option DP) (Q : VK) (E : XK), Room k A → Env0 P w K mg base A outer s H → BindsTo s fd args (ps.zip us) → Vals vs us → n ≤ s.toks →
    (∀ a, M a → mtO (H a)) → (∀ p, dk = some p → M p.1 ∧ M p.2 ∧ M p.3 ∧ DeckAt H p δ) → RepsX K M H dk n vs as → mf as δ = some (r, δ') →
    (∀ v H', (∀ a o, (∀ p, dk = some p → a ≠ p.1 ∧ a ≠ p.2 ∧ a ≠ p.3) → H a = some o → H' a = some o) → (∀ p, dk = some p → DeckAt H' p δ') → Rep K M H' v r → Q v H') → codeAny (model P w) A (.call (.ref f) args) (CR CX outer P w H s Q E) s
theorem FnX.mono {P w K mg base CX j k f fd ps mf} (F : FnX P w K mg base CX j f fd ps mf) (h : j ≤ k) : FnX P w K mg base CX k f fd ps mf :=
  ⟨F.len, fun A outer s H args us vs as δ r δ' n M dk Q E hr => F.run A outer s H args us vs as δ r δ' n M dk Q E (hr.mono h)⟩
/-- with the deck -/
def fnX (n np : Nat) (s : MS) : List Sl → Dk → Option (D × Dk) := fun as δ => if as.length = np ∧ np ≤ n then outP (s (slots n as) δ) else none
theorem good_startX {K : PySem.W.Frag} {N : List Str} {vs : List V} {as : List Sl} {M : Addr → Prop} {H : Hp} {dk : Option DP} {n : Nat} {δ : Dk} (hM : ∀ a, M a → mtO (H a)) (hD : ∀ p, dk = some p → M p.1 ∧ M p.2 ∧ M p.3 ∧ DeckAt H p δ) (R : RepsX K M H dk n vs as) :
    Good K ⟨M, dk, H, n, fun _ _ _ => False⟩ (start N vs) H (slots N.length as) δ ∧ Mm ⟨M, dk, H, n, fun _ _ _ => False⟩ (start N vs) (slots N.length as) = M := by
  have nun : ∀ (i : Nat) es, (slots N.length as)[i]? ≠ some (.own es) := fun i es h => by
    rcases slots_get h with h | h
    · obtain ⟨v, _, h⟩ := R.get' h
      exact h
    · cases h
  have eM : Mm ⟨M, dk, H, n, fun _ _ _ => False⟩ (start N vs) (slots N.length as) = M := by
    funext b
    refine propext ⟨fun z => ?_, .inl⟩
    rcases z with z | ⟨i, es, f1, _⟩
    · exact z
    · exact (nun i es f1).elim
  refine ⟨⟨?_, fun i d h => ?_, fun i es h => (nun i es h).elim, fun i j es _ _ h => (nun i es h).elim, hM, fun {k} i h => ?_, hD, fun _ _ e _ => e⟩, eM⟩
  · unfold L2.start slots
    simp only [List.length_append, List.length_map, List.length_replicate, R.length]
  · rw [eM]
    rcases slots_get h with h | h
    · obtain ⟨v, g1, g2⟩ := R.get' h
      exact ⟨v, start_get g1, g2⟩
    · cases h
  · rcases slots_get h with h | h
    · obtain ⟨v, g1, g2⟩ := R.get' h
      have e0 := start_get (N := N) g1
      cases k with
      | deck => obtain ⟨p, e, rfl⟩ := g2; exact ⟨p, e, e0⟩
      | man md => obtain ⟨a, rfl, g2⟩ := g2; exact ⟨a, e0, g2⟩
      | ton fd md => obtain ⟨a, rfl, g2⟩ := g2; exact ⟨a, e0, g2⟩
      | _ => exact g2.elim
    · cases h
section
variable {P : Program} {w : World} {K : PySem.W.Frag} {mg : Str → Option Value} {base : Heap}
theorem okX {x qual : Str} {st : Stmt} {f : Addr} {fd : FuncData} {N ps : List Str} {k : Nat} {s : MS} (F : Fun K x qual st f fd) (S : FnScope N ps (defScope st)) (hn : ps.length ≤ N.length)
    (hb : ∀ (cdv : Value) (A : Around) (outer : List Env) (s0 : Shared) (H : Hp) (E : XK), Room k (A.deeper (envOfC qual (defScope st) s0.heap.objs.size f cdv)) → PDSsN (cxOf CX0 P w K mg base N qual (defScope st) f cdv A outer s0 H E).nox (defBody st) s) :
    FnX P w K mg base CX0 (k + 1) f fd ps (fnX N.length ps.length s) := by
  refine ⟨fun as δ r h => ?_, fun A outer s0 H args us vs as δ r δ' n M dk Q E hr e0 hbt rv hn' hM hD R hmf q => ?_⟩
  · unfold fnX at h
    split at h
    · rename_i hz; exact hz.1
    · cases h
  · unfold fnX at hmf
    split at hmf
    · rename_i hz
      refine fn_enter F S (vs := vs) hr e0 hbt rv (by rw [R.length]; exact hz.1) hn' fun cdv s1 hr1 J => ?_
      obtain ⟨t, p1, s1'⟩ := (hb cdv A outer s0 H E hr1).ex
      refine p1 n [] s1 _ H _ J.t J.i ?_
      obtain ⟨G, eM⟩ := good_startX (N := N) hM hD R
      generalize hres : s (slots N.length as) δ = res at hmf
      cases res with
      | none => cases hmf
      | some p =>
        obtain ⟨fl, ρ1, δ1⟩ := p
        refine s1' ⟨M, dk, H, n, fun _ _ _ => False⟩ (start N vs) H _ δ fl ρ1 δ1 G hres _ fun σ' H' G' M' => ?_
        have an : Mv (Mm ⟨M, dk, H, n, fun _ _ _ => False⟩ σ' ρ1) H' M H' := fun a o e n => ⟨e, fun z => n (.inl z)⟩
        have kp : ∀ a o, (∀ p, dk = some p → a ≠ p.1 ∧ a ≠ p.2 ∧ a ≠ p.3) → H a = some o → H' a = some o := fun a o hd e => G'.fr a o e hd
        have kd : ∀ p, dk = some p → DeckAt H' p δ1 := fun p e => (G'.dck p e).2.2.2
        cases fl with
        | nx => cases hmf; exact q _ _ kp kd .non
        | rt d => cases hmf; exact fun v R1 => q _ _ kp kd (R1.mv an)
        | bk => cases hmf
        | ct => cases hmf
    · cases hmf
end
end PD
namespace PD
open PySem PySem.Spec PyProof.Rows L2
section
variable {X : Cx} {a b c e : Expr} {rest : List Expr} {ma mb : ME} {na nb : MT} {pos : Pos}
def PWN (X : Cx) (e : Expr) (t : Nat → TT) : Prop :=
  ∀ (whole : Sem Value) (n : Nat) (pins : List (Addr × Obj)) (s : Shared) (σ : L2.St) (H : Hp) (Q : Bool → Hp → Prop), n ≤ s.toks → Inv X pins σ H s → t n σ H Q → wpAny (model X.prog X.w) X.A (isTrue e X.env whole) (TP X pins σ Q) X.xe s
structure PDWN (X : Cx) (e : Expr) (m : MT) : Prop where
  ex : ∃ t, PWN X e t ∧ SndTN X.K t m
theorem PDWN.pt {e : Expr} {m : MT} (h : PDWN X e m) : PDTN X e m := by
  obtain ⟨t, h1, s1⟩ := h.ex
  exact ⟨t, h1 _, s1⟩
end
end PD
namespace PD
open PySem PySem.Spec PyProof.Rows L2
abbrev MR1 := List Sl → Dk → Option (Option (Fl × List Sl × Dk))
def PostExc (K : PySem.W.Frag) (F : Fr) (W : L2.St → Hp → Prop) (D : Ends) (σ : L2.St) (H : Hp) (ρ : List Sl) (r : Option (Fl × List Sl × Dk)) : Prop := match r with
  | none => ∀ σ' H' ρ' δ', Good K F σ' H' ρ' δ' → W σ' H'
  | some p => ∀ σ' H', Good K F σ' H' p.2.1 p.2.2 → Mv (Mm F σ ρ) H (Mm F σ' p.2.1) H' → match p.1 with
    | .nx => D.nx σ' H'
    | .bk => D.bk σ' H'
    | .ct => D.ct σ' H'
    | .rt d => ∀ v, Rep K (Mm F σ' p.2.1) H' v d → D.rt v H'
def SndExc (K : PySem.W.Frag) (W : L2.St → Hp → Prop) (t : TS) (m : MR1) : Prop := ∀ F σ H ρ δ r, Good K F σ H ρ δ → m ρ δ = some r → ∀ D : Ends, PostExc K F W D σ H ρ r → t D σ H
structure PDExc (X : Cx) (W : L2.St → Hp → Prop) (st : Stmt) (m : MR1) : Prop where
  ex : ∃ t, PS X st t ∧ SndExc X.K W t m
structure PDExcs (X : Cx) (W : L2.St → Hp → Prop) (sts : List Stmt) (m : MR1) : Prop where
  ex : ∃ t, PSs X sts t ∧ SndExc X.K W t m
def exLift (m : MS) : MR1 := fun ρ δ => (m ρ δ).map some
def exSeq (a b : MR1) : MR1 := fun ρ δ => (a ρ δ).bind fun r => match r with
  | none => some none
  | some (.nx, ρ', δ') => b ρ' δ'
  | some p => some (some p)
def exIf (c : MT) (a b : MR1) : MR1 := fun ρ δ => (c ρ δ).bind fun p => if p.1 = true then a ρ p.2 else b ρ p.2
def forR (g : MG) (s : MR1) : List D → MR1
  | [] => fun ρ δ => some (some (.nx, ρ, δ))
  | d :: ds => fun ρ δ => (g d ρ).bind fun ρ1 => (s ρ1 δ).bind fun r => match r with
    | none => some none
    | some (.nx, ρ', δ') => forR g s ds ρ' δ'
    | some (.ct, ρ', δ') => forR g s ds ρ' δ'
    | some (.bk, ρ', δ') => some (some (.nx, ρ', δ'))
    | some (.rt d, ρ', δ') => some (some (.rt d, ρ', δ'))
def exFor (mi : MA) (g : MG) (s : MR1) : MR1 := fun ρ δ => (mi ρ δ).bind fun p => forR g s p.1 ρ p.2
def exRaise : MR1 := fun _ _ => some none
theorem sndr_lift {K W t m} (h : SndS K t m) : SndExc K W t (exLift m) := fun F σ H ρ δ r G e D q => by
  obtain ⟨⟨fl, ρ', δ'⟩, e1, e2⟩ := Option.map_eq_some_iff.mp e
  subst e2
  exact h F σ H ρ δ fl ρ' δ' G e1 D fun σ' H' G' M' => q σ' H' G' M'
theorem sndr_seq {K W t u a b} (h : SndExc K W t a) (g : SndExc K W u b) : SndExc K W (tSeq t u) (exSeq a b) := fun F σ H ρ δ r G e D q => by
  unfold exSeq at e
  obtain ⟨r1, e1, e⟩ := Option.bind_eq_some_iff.mp e
  match r1, e1, e with
  | none, e1, e => cases e; exact h F σ H ρ δ none G e1 _ q
  | some (.nx, ρ1, δ1), e1, e =>
    refine h F σ H ρ δ _ G e1 _ fun σ1 H1 G1 M1 => g F σ1 H1 ρ1 δ1 r G1 e D ?_
    cases r with
    | none => exact q
    | some p => exact fun σ2 H2 G2 M2 => q σ2 H2 G2 (M1.trans M2)
  | some (.bk, ρ1, δ1), e1, e => cases e; exact h F σ H ρ δ _ G e1 _ fun σ1 H1 G1 M1 => q σ1 H1 G1 M1
  | some (.ct, ρ1, δ1), e1, e => cases e; exact h F σ H ρ δ _ G e1 _ fun σ1 H1 G1 M1 => q σ1 H1 G1 M1
  | some (.rt d, ρ1, δ1), e1, e => cases e; exact h F σ H ρ δ _ G e1 _ fun σ1 H1 G1 M1 => q σ1 H1 G1 M1
section
variable {X : Cx} {W : L2.St → Hp → Prop} {st : Stmt} {rest : List Stmt} {m : MS} {a b : MR1} {c e tg iter : Expr} {nc : MT} {pos : Pos} {sl : List Nat} {mg : MG} {mi : MA}
theorem pdr_of (h : PDS X st m) : PDExc X W st (exLift m) := by
  obtain ⟨t, p, s⟩ := h.ex
  exact ⟨t, p, sndr_lift s⟩
theorem pdrs_of (h : PDSs X rest m) : PDExcs X W rest (exLift m) := by
  obtain ⟨t, p, s⟩ := h.ex
  exact ⟨t, p, sndr_lift s⟩
theorem pdrs_cons (h1 : PDExc X W st a) (h2 : PDExcs X W rest b) : PDExcs X W (st :: rest) (exSeq a b) := by
  obtain ⟨t, p1, s1⟩ := h1.ex
  obtain ⟨u, p2, s2⟩ := h2.ex
  exact ⟨_, pss_cons p1 p2, sndr_seq s1 s2⟩
theorem pdrs_one (h1 : PDExc X W st a) : PDExcs X W [st] a := by
  obtain ⟨t, p1, s1⟩ := h1.ex
  exact ⟨_, pss_one p1, s1⟩
theorem pdr_if {x y : List Stmt} (hc : PDT X c nc) (ha : PDExcs X W x a) (hb : PDExcs X W y b) : PDExc X W (.If c x y pos) (exIf nc a b) := by
  obtain ⟨t, p0, s0⟩ := hc.ex
  obtain ⟨u, p1, s1⟩ := ha.ex
  obtain ⟨w, p2, s2⟩ := hb.ex
  refine ⟨_, ps_if p0 p1 p2, fun F σ H ρ δ r G e D q => ?_⟩
  obtain ⟨⟨x, δ1⟩, e1, e⟩ := Option.bind_eq_some_iff.mp e
  refine s0 F σ H ρ δ x δ1 G e1 _ fun H1 G1 M1 => ?_
  have q1 : PostExc X.K F W D σ H1 ρ r := by
    cases r with
    | none => exact q
    | some p => exact fun σ2 H2 G2 M2 => q σ2 H2 G2 (M1.trans M2)
  cases x with
  | true => exact iteT (s1 F σ H1 ρ δ1 r G1 e D q1)
  | false => exact iteF (s2 F σ H1 ρ δ1 r G1 e D q1)
theorem pdr_for {body : List Stmt} (hp : PassesOwn (model X.prog X.w) X.A X.env X.xe) (hc : X.calm = true) (hi : PDI X tg iter mi) (hg : PDG X tg sl mg) (hb : PDExcs X W body a) (hs : ∀ x, foldedSetIterable iter X.env x = pure x := by intro _; rfl) :
    PDExc X W (.For tg iter body [] pos) (exFor mi mg a) := by
  obtain ⟨wi, p1, s1⟩ := hi.ex
  obtain ⟨g, p2, s2⟩ := hg.ex
  obtain ⟨tb, p3, s3⟩ := hb.ex
  refine ⟨_, ps_for hp hc p1 p2 p3 hs, fun F σ0 H0 ρ0 δ0 r G e D q => ?_⟩
  obtain ⟨⟨ds, δ1⟩, e1, e⟩ := Option.bind_eq_some_iff.mp e
  refine s1 F σ0 H0 ρ0 δ0 ds δ1 G e1 _ fun J H1 G1 M1 Wk => ?_
  refine ⟨fun i k σ H => k = ds.length - i ∧ i ≤ ds.length ∧ ∃ ρ δ, Good X.K F σ H ρ δ ∧ Mv (Mm F σ0 ρ0) H1 (Mm F σ ρ) H ∧ forR mg a (ds.drop i) ρ δ = some r, ⟨_, rfl, Nat.zero_le _, ρ0, δ1, G1, Mv.refl _ _, e⟩, ?_⟩
  rintro i k σ H ⟨rfl, hile, ρ, δ, G2, M2, ef⟩
  by_cases hlt : i < ds.length
  · obtain ⟨go, yl⟩ := (Wk _ H M2 G2.mm i).1 hlt
    have hld : i < ds.length := hlt
    rw [List.drop_eq_getElem_cons hld] at ef
    refine .inr ⟨go, fun σ H => ∃ ρ δ, Good X.K F σ H ρ δ ∧ Mv (Mm F σ0 ρ0) H1 (Mm F σ ρ) H ∧ forR mg a (ds.drop (i + 1)) ρ δ = some r, fun σ' H' h => ⟨ds.length - (i + 1), by omega, rfl, hlt, h⟩, fun x H3 hy => ?_⟩
    obtain ⟨kp, dx, edx, rdx⟩ := yl x H3 hy
    rw [List.getElem?_eq_getElem hld] at edx
    cases edx
    replace G2 := G2.keep kp
    replace M2 := M2.trans (Mv.same kp)
    unfold forR at ef
    obtain ⟨ρ2, f1, ef⟩ := Option.bind_eq_some_iff.mp ef
    obtain ⟨r1, f2, ef⟩ := Option.bind_eq_some_iff.mp ef
    refine s2 F σ H3 ρ δ x _ ρ2 G2 rdx f1 _ fun σ2 G3 M3 _ => ?_
    refine s3 F σ2 H3 ρ2 δ r1 G3 f2 _ ?_
    match r1, ef with
    | none, ef => cases ef; exact q
    | some (.nx, ρ3, δ3), ef => exact fun σ4 H4 G4 M4 => ⟨ρ3, δ3, G4, (M2.trans M3).trans M4, ef⟩
    | some (.ct, ρ3, δ3), ef => exact fun σ4 H4 G4 M4 => ⟨ρ3, δ3, G4, (M2.trans M3).trans M4, ef⟩
    | some (.bk, ρ3, δ3), ef => cases ef; exact fun σ4 H4 G4 M4 => q σ4 H4 G4 (M1.trans ((M2.trans M3).trans M4))
    | some (.rt d, ρ3, δ3), ef => cases ef; exact fun σ4 H4 G4 M4 => q σ4 H4 G4 (M1.trans ((M2.trans M3).trans M4))
  · have hi' : i = ds.length := by omega
    subst hi'
    rw [List.drop_of_length_le (Nat.le_refl _)] at ef
    cases ef
    exact .inl ⟨(Wk _ H M2 G2.mm ds.length).2 (Nat.le_refl _), q σ H G2 (M1.trans M2)⟩
/-- raise NoFit('text'), the class without own __init__ -/
theorem pdr_raise {Wx : L2.WX} {C : Addr} {bmB : List Value} {B newId initId : String} {x s : Str} {j : Nat} {p p2 p3 : Pos} (hc : X.calm = true) (tk : Takes X Wx) (F : ExcBaseFacts B newId initId bmB) (q : PySem.W.excIn X.K C bmB newId = true) (gC : X.mg x = some (.ref C)) (kC : PySem.W.keepIn X.K (.ref C) = true) (r : Raises X (.ref C)) (hg : Gl X x := by rfl)
    (hdb : (x == ("__debug__" : Str)) = false := by decide) : PDExc X (fun σ H => Wx (.ref C) none σ H) (.Raise (some (.Call (.Name x p) [.Constant (.str s) j p2] [] p3)) none pos) exRaise := by
  refine ⟨_, ps_raise hc tk (pmk_own F q gC kC r hg hdb), fun F σ H ρ δ r G e D q => ?_⟩
  cases e
  exact q σ H ρ δ G
end
def outR (o : Option (Option (Fl × List Sl × Dk))) : Option (Option D) := o.bind fun r => match r with
  | none => some none
  | some p => (outP (some p)).map fun z => some z.1
def fnR (n np : Nat) (s : MR1) : List D → Option (Option D) := fun ds => if ds.length = np ∧ np ≤ n then outR (s (slots n (ds.map .val)) ⟨[], 0, [], none⟩) else none
def spR (K : PySem.W.Frag) (C : Addr) (m : List D → Option (Option D)) : Sp := fun vs H Q E => ∃ (M : Addr → Prop) (ds : List D) (r : Option D), (∀ a, M a → mtO (H a)) ∧ Reps K M H vs ds ∧ m ds = some r ∧ match r with
  | some z => ∀ v H', (∀ a o, H a = some o → H' a = some o) → Rep K M H' v z → Q v H'
  | none => ∀ H', (∀ a o, H a = some o → H' a = some o) → E (.ref C) none H'
section
variable {P : Program} {w : World} {K : PySem.W.Frag} {mg : Str → Option Value} {base : Heap}
theorem okR {x qual : Str} {st : Stmt} {f C : Addr} {fd : FuncData} {N ps : List Str} {k : Nat} {s : MR1} (F : Fun K x qual st f fd) (S : FnScope N ps (defScope st)) (hn : ps.length ≤ N.length)
    (hb : ∀ (cdv : Value) (A : Around) (outer : List Env) (s0 : Shared) (H : Hp) (E : XK), Room k (A.deeper (envOfC qual (defScope st) s0.heap.objs.size f cdv)) → PDExcs (cxOf (L2.CX P w) P w K mg base N qual (defScope st) f cdv A outer s0 H E) (fun _ H' => E (.ref C) none H') (defBody st) s) :
    FnOk P w K mg base (L2.CX P w) (k + 1) f fd ps (spR K C (fnR N.length ps.length s)) := by
  refine F.okX S (fun vs H Q E h => ?_) (fun cdv A outer s0 H vs Q E hr h => ?_)
  · obtain ⟨M, ds, r, hM, R, hm, q⟩ := h
    unfold fnR at hm
    split at hm
    · rename_i hz; rw [R.length]; exact hz.1
    · cases hm
  · obtain ⟨M, ds, r, hM, R, hm, q⟩ := h
    unfold fnR at hm
    split at hm
    · rename_i hz
      obtain ⟨t, p1, s1⟩ := (hb cdv A outer s0 H E hr).ex
      refine ⟨t, p1, ?_⟩
      generalize hres : s (slots N.length (ds.map Sl.val)) ⟨[], 0, [], none⟩ = res at hm
      have nun : ∀ (i : Nat) es, (slots N.length (ds.map Sl.val))[i]? ≠ some (.own es) := fun i es h => by
        rcases slots_get h with h | h
        · rw [List.getElem?_map] at h
          obtain ⟨d, _, h⟩ := Option.map_eq_some_iff.mp h
          cases h
        · cases h
      let Fr0 : Fr := ⟨M, none, H, 0, fun _ _ _ => False⟩
      have eM : Mm Fr0 (start N vs) (slots N.length (ds.map Sl.val)) = M := by
        funext a
        refine propext ⟨fun z => ?_, .inl⟩
        rcases z with z | ⟨i, es, f1, _⟩
        · exact z
        · exact (nun i es f1).elim
      have G : Good K Fr0 (start N vs) H (slots N.length (ds.map Sl.val)) ⟨[], 0, [], none⟩ := by
        refine ⟨?_, fun i d h => ?_, fun i es h => (nun i es h).elim, fun i j es _ _ h => (nun i es h).elim, hM, fun i h => ?_, fun p h => (nomatch h), fun _ _ e _ => e⟩
        · unfold L2.start slots
          simp only [List.length_append, List.length_map, List.length_replicate, R.length]
        · rw [eM]
          rcases slots_get h with h | h
          · rw [List.getElem?_map] at h
            obtain ⟨d', h1, h2⟩ := Option.map_eq_some_iff.mp h
            cases h2
            obtain ⟨v, g1, g2⟩ := R.get' h1
            exact ⟨v, start_get g1, g2⟩
          · cases h
        · rcases slots_get h with h | h
          · rw [List.getElem?_map] at h
            obtain ⟨d', h1, h2⟩ := Option.map_eq_some_iff.mp h
            cases h2
          · cases h
      cases res with
      | none => cases hm
      | some r0 =>
        refine s1 Fr0 (start N vs) H _ ⟨[], 0, [], none⟩ r0 G hres _ ?_
        cases r0 with
        | none =>
          cases hm
          exact fun σ' H' ρ' δ' G' => q H' fun a o e => G'.fr a o e fun p h => nomatch h
        | some p =>
          obtain ⟨fl, ρ1, δ1⟩ := p
          intro σ' H' G' M'
          have an : Mv (Mm Fr0 σ' ρ1) H' M H' := fun a o e n => ⟨e, fun z => n (.inl z)⟩
          have kp : ∀ a o, H a = some o → H' a = some o := fun a o e => G'.fr a o e fun p h => nomatch h
          cases fl with
          | nx => cases hm; exact q _ _ kp .non
          | rt d => cases hm; exact fun v R1 => q _ _ kp (R1.mv an)
          | bk => cases hm
          | ct => cases hm
    · cases hm
end
end PD
namespace PD
open PySem PySem.Spec PyProof.Rows L2
end PD
namespace PD
open PySem PySem.Spec PyProof.Rows L2
end PD
namespace PD
open PySem PySem.Spec PyProof.Rows L2
def pairE : D → Option (Key × D)
  | .tuple [k, v] => (keyOf k).map fun kk => (kk, v)
  | _ => none
def pairsE : List D → Option (List (Key × D))
  | [] => some []
  | d :: ds => (pairE d).bind fun p => (pairsE ds).map fun ps => p :: ps
theorem kV_of {K M H v d kk} (r : Rep K M H v d) (h : keyOf d = some kk) : v = kV kk := by
  cases r <;> first | (simp [keyOf] at h; done) | skip
  · simp [keyOf] at h; subst h; rfl
  · simp [keyOf] at h; subst h; rfl
theorem RepD.merge {K M H} : ∀ {kvs : List (Key × V)} {es : List (Key × D)} {ps : List (Key × V)} {qs : List (Key × D)}, RepD K M H kvs es → RepD K M H ps qs → RepD K M H (mergeK kvs ps) (putAll es qs)
  | _, _, _, _, R, .nil => R
  | kvs, es, _, _, R, .cons (k := k) (v := v) (ps := ps) (d := d) (es := qs) r t => by
    show RepD K M H (mergeK (putK kvs k v) ps) (putAll (putP es k d) qs)
    exact RepD.merge (R.put k r) t
theorem pairs_rep {K M H} : ∀ {vs : List V} {ds : List D} {ps : List (Key × D)}, Reps K M H vs ds → pairsE ds = some ps → ∃ (as : List Addr) (kvs : List (Key × V)), vs = as.map V.ref ∧ Paired (fun p kv => SqT K H p [kV kv.1, kv.2]) as kvs ∧ RepD K M H kvs ps
  | _, _, _, .nil, h => by cases h; exact ⟨[], [], rfl, .nil, .nil⟩
  | _, _, _, .cons r t, h => by
    unfold pairsE at h
    obtain ⟨p, e1, h⟩ := Option.bind_eq_some_iff.mp h
    obtain ⟨ps, e2, h⟩ := Option.map_eq_some_iff.mp h
    cases h
    obtain ⟨as, kvs, rfl, hp, hr⟩ := pairs_rep t e2
    unfold pairE at e1
    split at e1
    · obtain ⟨kk, e3, e4⟩ := Option.map_eq_some_iff.mp e1
      cases e4
      cases r with
      | tup ha rs =>
        obtain ⟨v, w, rfl, r1, r2⟩ := reps2 rs
        have := kV_of r1 e3
        subst this
        exact ⟨_ :: as, (kk, w) :: kvs, rfl, .cons ha.sq hp, .cons r2 hr⟩
    · cases e1
end PD
namespace PD
open PySem PySem.Spec PyProof.Rows L2
def WR (m : MR1) (ρ : List Sl) (δ : Dk) (N : Prop) (P : Fl → List Sl → Dk → Prop) : Prop := ∃ r, m ρ δ = some r ∧ match r with
  | none => N
  | some p => P p.1 p.2.1 p.2.2
section
variable {ρ : List Sl} {δ : Dk} {N : Prop} {P : Fl → List Sl → Dk → Prop}
theorem wr_lift {m : MS} (h : WS m ρ δ P) : WR (exLift m) ρ δ N P := by
  obtain ⟨f, ρ', δ', e, p⟩ := h
  exact ⟨some (f, ρ', δ'), by unfold exLift; rw [e]; rfl, p⟩
theorem wr_raise (h : N) : WR exRaise ρ δ N P := ⟨none, rfl, h⟩
theorem wr_seq {a b : MR1} (h : WR a ρ δ N (onNx P fun ρ1 δ1 => WR b ρ1 δ1 N P)) : WR (exSeq a b) ρ δ N P := by
  obtain ⟨r, e, p⟩ := h
  match r, p with
  | none, p => exact ⟨none, by unfold exSeq; rw [e]; rfl, p⟩
  | some (.nx, ρ1, δ1), p =>
    obtain ⟨r2, e2, p2⟩ := p
    exact ⟨r2, by unfold exSeq; rw [e]; exact e2, p2⟩
  | some (.rt d, ρ1, δ1), p => exact ⟨some (.rt d, ρ1, δ1), by unfold exSeq; rw [e]; rfl, p⟩
  | some (.bk, ρ1, δ1), p => exact ⟨some (.bk, ρ1, δ1), by unfold exSeq; rw [e]; rfl, p⟩
  | some (.ct, ρ1, δ1), p => exact ⟨some (.ct, ρ1, δ1), by unfold exSeq; rw [e]; rfl, p⟩
theorem wr_if {c : MT} {a b : MR1} (h : WT c ρ δ fun x δ1 => if x = true then WR a ρ δ1 N P else WR b ρ δ1 N P) : WR (exIf c a b) ρ δ N P := by
  obtain ⟨x, δ1, e, p⟩ := h
  cases x with
  | true =>
    obtain ⟨r, e2, p2⟩ := p
    exact ⟨r, by unfold exIf; rw [e]; exact e2, p2⟩
  | false =>
    rw [if_neg Bool.false_ne_true] at p
    obtain ⟨r, e2, p2⟩ := p
    exact ⟨r, by unfold exIf; rw [e]; exact e2, p2⟩
theorem wr_for {mi : MA} {g : MG} {s : MR1} (h : WA mi ρ δ fun ds δ1 => WR (forR g s ds) ρ δ1 N P) : WR (exFor mi g s) ρ δ N P := by
  obtain ⟨ds, δ1, e, r, e2, p⟩ := h
  exact ⟨r, by unfold exFor; rw [e]; exact e2, p⟩
/-- a for that may raise, by an invariant of the items that are left -/
theorem wr_forI {g : MG} {s : MR1} (I : List D → List Sl → Dk → Prop) (hs : ∀ d ds ρ δ, I (d :: ds) ρ δ → WG g d ρ fun ρ1 => WR s ρ1 δ N fun f ρ2 δ2 => match f with
    | .nx => I ds ρ2 δ2
    | .ct => I ds ρ2 δ2
    | .bk => P .nx ρ2 δ2
    | .rt d => P (.rt d) ρ2 δ2) (h0 : ∀ ρ δ, I [] ρ δ → P .nx ρ δ) : ∀ (ds : List D) (ρ : List Sl) (δ : Dk), I ds ρ δ → WR (forR g s ds) ρ δ N P
  | [], ρ, δ, h => ⟨some (.nx, ρ, δ), rfl, h0 _ _ h⟩
  | d :: ds, ρ, δ, h => by
    obtain ⟨ρ1, e1, r, e2, p⟩ := hs d ds ρ δ h
    have e3 : ∀ z, (match r with
      | none => some none
      | some (.nx, ρ', δ') => forR g s ds ρ' δ'
      | some (.ct, ρ', δ') => forR g s ds ρ' δ'
      | some (.bk, ρ', δ') => some (some (.nx, ρ', δ'))
      | some (.rt d, ρ', δ') => some (some (.rt d, ρ', δ'))) = some z → forR g s (d :: ds) ρ δ = some z := fun z hz => by
      unfold forR
      rw [e1]
      show (s ρ1 δ).bind _ = _
      rw [e2]
      exact hz
    match r, p, e3 with
    | none, p, e3 => exact ⟨none, e3 _ rfl, p⟩
    | some (.nx, ρ2, δ2), p, e3 =>
      obtain ⟨r2, f1, f2⟩ := wr_forI I hs h0 ds ρ2 δ2 p
      exact ⟨r2, e3 _ f1, f2⟩
    | some (.ct, ρ2, δ2), p, e3 =>
      obtain ⟨r2, f1, f2⟩ := wr_forI I hs h0 ds ρ2 δ2 p
      exact ⟨r2, e3 _ f1, f2⟩
    | some (.bk, ρ2, δ2), p, e3 => exact ⟨_, e3 _ rfl, p⟩
    | some (.rt d, ρ2, δ2), p, e3 => exact ⟨_, e3 _ rfl, p⟩
end
theorem wr_fnR {n np : Nat} {s : MR1} {ds : List D} {P : Option D → Prop} (h : WR s (slots n (ds.map .val)) ⟨[], 0, [], none⟩ (P none) (onRt fun d _ => P (some d))) (hl : ds.length = np ∧ np ≤ n := by exact ⟨rfl, by decide⟩) : ∃ z, fnR n np s ds = some z ∧ P z := by
  obtain ⟨r, e, p⟩ := h
  unfold fnR
  rw [if_pos hl, e]
  match r, p with
  | none, p => exact ⟨none, rfl, p⟩
  | some (.rt d, ρ, δ), p => exact ⟨some d, rfl, p⟩
  | some (.nx, ρ, δ), p => exact ⟨some .none, rfl, p⟩
  | some (.bk, ρ, δ), p => exact p.elim
  | some (.ct, ρ, δ), p => exact p.elim
end PD
namespace PD
open PySem PySem.Spec PyProof.Rows L2
end PD
namespace PD
open PySem PySem.Spec PyProof.Rows L2
abbrev envS (qual : Str) (scope : Scope) (L f : Addr) (cd : Value) (cc : Addr) : Env := PySem.W.envX qual scope L f cd [("__class__", cc)]
def cxS (CX : CXT) (P : Program) (w : World) (K : PySem.W.Frag) (mg : Str → Option Value) (base : Heap) (N : List Str) (qual : Str) (scope : Scope) (f : Addr) (cd : Value) (cc : Addr) (A : Around) (outer : List Env) (s : Shared) (H : Hp) (E : XK) : Cx where
  prog := P
  w := w
  K := K
  mg := mg
  base := base
  A := A.deeper (envS qual scope s.heap.objs.size f cd cc)
  N := N
  s_0 := s
  H_0 := H
  env := envS qual scope s.heap.objs.size f cd cc
  outer := outer
  stack := envS qual scope s.heap.objs.size f cd cc :: outer
  ex := []
  calm := true
  fn := fun _ => false
  pn := []
  xe := fun e s' => wpAny (model P w) (A.deeper (envS qual scope s.heap.objs.size f cd cc)) (leaving (envS qual scope s.heap.objs.size f cd cc) e) (fun _ s'' => CX outer H s E e s'') (fun e' s'' => CX outer H s E e' s'') s'
structure SupScope (ps : List Str) (sc : Scope) : Prop where
  kind : sc.kind = .function
  co : sc.isCoroutine = false
  gen : sc.isGenerator = false
  nd : ps.Nodup
  par : ∀ x ∈ ps, sc.names.lookup x = some .local
  nocell : ∀ y ∈ sc.names, y.2 ≠ .cell
  free : ∀ y ∈ sc.names, y.2 = .free → y.1 = "__class__"
  hasC : sc.names.lookup ("__class__" : Str) = some .free
  hasS : sc.names.lookup ("super" : Str) = some .globalImplicit
theorem look_app {y : Str} : ∀ {l r : List (Str × Value)}, (l ++ r).lookup y = (l.lookup y).or (r.lookup y)
  | [], _ => by simp [List.lookup]
  | (n, v) :: l, r => by
    rw [List.cons_append, List.lookup_cons, List.lookup_cons]
    cases (y == n) with
    | true => rfl
    | false => exact look_app
theorem look_out {y : Str} : ∀ {ps : List Str} {us : List Value}, y ∉ ps → (ps.zip us).reverse.lookup y = none
  | [], _, _ => rfl
  | _ :: _, [], _ => rfl
  | p :: ps, u :: us, h => by
    have h1 : y ≠ p := fun e => h (by rw [e]; exact List.mem_cons_self ..)
    rw [List.zip_cons_cons, List.reverse_cons, look_app, look_out fun z => h (List.mem_cons_of_mem _ z), List.lookup_cons, beq_false_of_ne h1]
    rfl
theorem zip_rev_get : ∀ {ps : List Str} {us : List Value} {i : Nat} {y : Str} {u : Value}, ps.Nodup → ps[i]? = some y → us[i]? = some u → (ps.zip us).reverse.lookup y = some u
  | [], _, _, _, _, _, h, _ => by simp at h
  | _ :: _, [], _, _, _, _, _, h => by simp at h
  | p :: ps, v :: us, 0, y, u, nd, h1, h2 => by
    cases h1
    cases h2
    rw [List.zip_cons_cons, List.reverse_cons, look_app, look_out (List.nodup_cons.mp nd).1, List.lookup_cons_self]
    rfl
  | p :: ps, v :: us, i + 1, y, u, nd, h1, h2 => by
    rw [List.zip_cons_cons, List.reverse_cons, look_app, zip_rev_get (List.nodup_cons.mp nd).2 (by simpa using h1) (by simpa using h2)]
    rfl
section
variable {CX : CXT} {P : Program} {w : World} {K : PySem.W.Frag} {mg : Str → Option Value} {base : Heap} {ps : List Str} {qual : Str} {scope : Scope} {f cc D : Addr} {cd : Value} {A : Around} {outer : List Env} {s : Shared} {H : Hp} {E : XK} {us : List Value} {vs : List V}
theorem inv_sup {cl : Value} {cld : Option Addr} {csl : Array (Option Value)} {h1 : Heap} {tk : Nat} (S : SupScope ps scope) (hcc : K.lookup cc = some ⟨cl, cld, .cell (some (.ref D)), csl⟩) (hd : A.handled = none) (e0 : Env0 P w K mg base A outer s H) (hl : vs.length = ps.length) (r : Vals vs us)
    (hns : h1.Ns s.heap.objs.size (fun x => (ps.zip us).reverse.lookup x)) (hk : ∀ b o, s.heap.get? b = some o → h1.get? b = some o) :
    Inv (cxS CX P w K mg base ps qual scope f cd cc A outer s H E) [] (L2.start ps vs) H { s with heap := h1, toks := tk } := by
  have noA : ∀ b : Addr, b ∉ (cxS CX P w K mg base ps qual scope f cd cc A outer s H E).ex := fun b z => absurd (show b ∈ ([] : List Addr) from z) (by simp)
  have hcb := e0.mod.kin _ _ hcc
  have one : ∀ {y : Str} {c : Addr}, List.lookup y [(("__class__" : Str), cc)] = some c → y = "__class__" ∧ c = cc := fun {y c} z => by
    by_cases e : y = ("__class__" : Str)
    · subst e
      rw [List.lookup_cons_self] at z
      exact ⟨rfl, (Option.some.inj z).symm⟩
    · rw [List.lookup_cons, beq_false_of_ne e] at z
      cases z
  refine ⟨⟨e0.mod, S.kind, rfl, rfl, Nat.le_refl _, fun y z c h1 h2 => ?_, fun y hy => ?_, fun y c z _ => ?_, fun _ => hd, Around.frames_deeper e0.frames, .inr ⟨rfl, rfl⟩, fun b z => absurd z (noA b), e0.bs, e0.bsz, fun b _ _ => noA b, fun b z => absurd z (noA b), e0.funs, e0.frf⟩,
    rfl, e0.bare, Un.kept hk, ⟨_, hns, fun i y v h1 h2 h3 => ?_⟩, fun y c h => ?_, e0.hok.fresh (Nat.le_refl _), fun y c h => ?_, fun p hp => absurd (show p ∈ ([] : List (Addr × Obj)) from hp) (by simp), e0.hok.kept hk, ?_⟩
  · exact (one h1).1.trans (one h2).1.symm
  · have hy : scope.names.lookup y = some .cell ∨ scope.names.lookup y = some .free := hy
    rcases hy with hy | hy
    · exact absurd rfl (S.nocell _ (PySem.mem_of_lookup hy))
    · have e : y = ("__class__" : Str) := S.free _ (PySem.mem_of_lookup hy) rfl
      subst e
      exact ⟨cc, by show List.lookup _ [(_, cc)] = _; rw [List.lookup_cons_self]⟩
  · cases z
  · have hi : i < vs.length := by
      by_cases hi : i < vs.length
      · exact hi
      · unfold L2.start at h2
        rw [List.getElem?_append_right (by simpa using hi), List.getElem?_replicate] at h2
        split at h2 <;> cases h2
    have ha : vs[i]? = some v := by
      unfold L2.start at h2
      rw [List.getElem?_append_left (by simpa using hi), List.getElem?_map] at h2
      obtain ⟨a, e1, e2⟩ := Option.map_eq_some_iff.mp h2
      cases e2
      exact e1
    obtain ⟨u, hu, rv⟩ := r.get ha
    have h1' : ps[i]? = some y := h1
    refine ⟨u, rv, .inl ⟨?_, zip_rev_get S.nd h1' hu⟩⟩
    exact S.par y (List.mem_of_getElem? h1')
  · obtain ⟨_, e⟩ := one h
    subst e
    exact ⟨_, _, hk _ _ (e0.bs _ _ hcb).1, rfl⟩
  · obtain ⟨_, e⟩ := one h
    subst e
    exact (e0.bs _ _ hcb).2
  · show (L2.start ps vs).length = ps.length
    unfold L2.start
    rw [List.length_append, List.length_map, List.length_replicate]
    omega
/-- super().__init__ called: the object is known, its args are laid anew -/
theorem kxs_go {prog : Program} {A : Around} {E : Value → Shared → Prop} {h : Heap} {g : Array GenState} {d : Drawn} {t : Nat} {os : OsState} {nm q : Str} {C N e u t0 : Addr} {bs bm bmB : List Value} {hdct : Bool} {sn : List Str} {sub : List Value} {ab : Bool} {col : Option Bool} {dd : Option Addr} {k0 k1 k2 k3 k5 : Option Value} {B newId i : String} {rest : List Value} {Q : Value → Shared → Prop}
    (FB : ExcBaseFacts B newId i bmB) (hC : h.get? C = some (excClassObj nm q C N bs bm hdct sn sub ab col dd k0 k1 k2 k3 k5 newId)) (he : h.get? e = some (PySem.HandSPX.excO C t0)) (hu : h.get? u = some (PySem.W.kxs_mw i e)) (hz : rest.length ≤ sizeLine)
    (hq : ∀ h' t1, (∀ b o, b ≠ e → h.get? b = some o → h'.get? b = some o) → h'.get? e = some (PySem.HandSPX.excO C t1) → Q .none ⟨h', g, d, t, os⟩) :
    wpAny (model prog w) A (call (.ref u) rest) Q E ⟨h, g, d, t, os⟩ := by
  refine wpAny_call (codeAny_of_tree (show wpAny _ A.in1 (callAny (.ref u) ⟨rest, []⟩) _ _ _ from ?_))
  simp only [callAny]
  refine wpAny_bind (wpAny_load hu ?_)
  have m1 : (Value.type "method-wrapper" == Value.type "method" || Value.type "method-wrapper" == Value.type "builtin_function_or_method" || Value.type "method-wrapper" == Value.type "method-wrapper") = true := by decide
  simp only [PySem.W.kxs_mw, m1, if_true]
  refine PySem.W.KFB.if_so (by decide) (wpAny_bind (PySem.W.check_bound_init FB.toExcCallFacts hC he rfl (wpAny_bind (wpAny_pure (wpAny_pure ⟨plainId_quiet FB.init.plain _, codeAny_builtin FB.initEntry ?_⟩)))))
  exact PySem.W.exc_init_tree (cls := .ref C) (t0 := t0) (dv := none) (c2 := .none) (c3 := .none) (b4 := .bool false) he hz fun h' k e' _ => hq h' _ k e'
/-- the def's promise: first super().__init__(arg), then the rest -/
theorem okSup {k : Nat} {name : Str} {params : Arguments} {rest : List Stmt} {arg : Expr} {dV kV doc pm ct oc cl : Value} {an od cld : Option Addr} {osl csl : Array (Option Value)} {cda C : Addr} {oC : Obj} {cvs : Array Value} {file : Str} {tf : Tok} {ar : Arg} {cdD : ClassData} {sp : Sp} {p0 p1 p2 ap pos : Pos}
    (lk : K.lookup f = some ⟨oc, od, .func (PySem.W.fnX name qual params (.Expr (.Call (.Attribute (.Call (.Name "super" p0) [] [] p1) "__init__" ap) [arg] [] pos) p2 :: rest) scope [("__class__", cc)] dV kV doc pm an (.ref cda) ct), osl⟩) (hcd : PySem.W.codeIn K (.ref cda) qual = true) (S : SupScope ps scope)
    (hp : (params.posonlyargs ++ params.args).head? = some ar) (hps : ps[0]? = some ar.arg) (hcode : K.lookup cda = some oC) (hco : oC.data = .fields cvs) (hvs : cvs[2]? = some (.str file tf)) (hfile : ((P.main.file : Str) == file) = true) (htop : (P.main.scope.names.lookup ("super" : Str)).isSome = false)
    (hcc : K.lookup cc = some ⟨cl, cld, .cell (some (.ref D)), csl⟩) (hD : PySem.W.clsIn K D = some cdD) (hsub : PySem.W.mroIn K C (.ref D) = some true) (hmg : mg "super" = none) (T : OexC K C)
    (hsup : PySem.W.ks_superIn K C D "__init__" = some (some (.builtin "ValueError.__init__"))) (hB : PySem.W.subIn K (.ref C) (.type "ValueError") = some true) (hop : PySem.W.nsIn K PySem.cStatics "thirdparty.any" = some none)
    (len : ∀ vs H Q E, sp vs H Q E → vs.length = ps.length)
    (hbody : ∀ (A : Around) (outer : List Env) (s : Shared) (H : Hp) (vs : List V) (Q : VK) (E : XK), Room k (A.deeper (envS qual scope s.heap.objs.size f (.ref cda) cc)) → sp vs H Q E →
      ∃ (a : Addr) (ws : List V) (ta : TE) (t : TS), vs = .ref a :: ws ∧ H a = some (exo a C none) ∧ PE (cxS CX P w K mg base ps qual scope f (.ref cda) cc A outer s H E) arg ta ∧ PSs (cxS CX P w K mg base ps qual scope f (.ref cda) cc A outer s H E) rest t ∧
        ta (L2.start ps vs) H fun _ H1 => H1 a = some (exo a C none) ∧ t { nx := fun _ H' => Q .non H', rt := Q } (L2.start ps vs) H1)
    {pl : Sem Bool} (hev : ∀ L : Addr, eval (.Call (.Attribute (.Call (.Name "super" p0) [] [] p1) "__init__" ap) [arg] [] pos) (envS qual scope L f (.ref cda) cc) = (do
      let o ← attributeBase (.Call (.Name "super" p0) [] [] p1) "__init__" (envS qual scope L f (.ref cda) cc) (eval (.Call (.Name "super" p0) [] [] p1) (envS qual scope L f (.ref cda) cc))
      standAt ap.atName
      let (g, first) ← holding [o] (getMethod o "__init__" pl)
      callWith pos g first (backTo pos (starEach [arg] (envS qual scope L f (.ref cda) cc))) []) := by intro _; rfl)
    (hst : ∀ L : Addr, starEach [arg] (envS qual scope L f (.ref cda) cc) = (false, eval arg (envS qual scope L f (.ref cda) cc)) :: [] := by intro _; rfl) (hsw : ∀ L : Addr, swapsWith (.Call (.Attribute (.Call (.Name "super" p0) [] [] p1) "__init__" ap) [arg] [] pos) none p2.line (envS qual scope L f (.ref cda) cc) = pure false := by intro _; rfl) :
    FnOk P w K mg base CX (k + 1) f (PySem.W.fnX name qual params (.Expr (.Call (.Attribute (.Call (.Name "super" p0) [] [] p1) "__init__" ap) [arg] [] pos) p2 :: rest) scope [("__class__", cc)] dV kV doc pm an (.ref cda) ct) ps sp := by
  refine ⟨len, fun A outer s H args us vs Q E hr e0 hb r hsp => ?_⟩
  have hl := len _ _ _ _ hsp
  have KX : K.In s.heap := e0.mod.kin.keeps fun b o e => (e0.bs b o e).1
  have lim : s.heap.NoLimit := e0.mod.nolimit.keeps fun b o e => (e0.bs b o e).1
  have hloc : ∀ y ∈ ps.zip us, scope.names.lookup y.1 = some .local := fun ⟨n, v⟩ hy => S.par n (List.of_mem_zip hy).1
  refine codeAny_call_function hr.depth (KX _ _ lk) rfl S.co S.gen rfl (PySem.W.codeRec_of KX hcd) (hb _ _ _ _ (wpAny_newFunctionEnv S.nocell hloc (fun h1 hns hsb => ?_) S.kind))
  have keep : ∀ b o, s.heap.get? b = some o → h1.get? b = some o := fun b o e => hsb.extBut b o (Nat.ne_of_lt (Heap.lt_size e)) (Heap.get?_push_of_some _ e)
  refine ⟨lim.keeps keep, ks_codeAny_funcAt ?_⟩
  obtain ⟨a, ws, ta, t, rfl, ea, pta, pt, hq⟩ := hbody A outer s H vs Q E (hr.deeper _) hsp
  have I := inv_sup (CX := CX) (E := E) (qual := qual) (f := f) (cd := .ref cda) (A := A) (outer := outer) (tk := s.toks + (ps.zip us).length) S hcc hr.hd e0 hl r hns keep
  have us0 : us[0]? = some (.ref a) := by
    cases r with
    | cons r0 _ =>
      cases r0
      rfl
  have selfAt : (ps.zip us).reverse.lookup ar.arg = some (.ref a) := zip_rev_get S.nd hps us0
  change _root_.PySem.wpAt (model P w) (A.deeper (envS qual scope s.heap.objs.size f (.ref cda) cc)) (.func _ (envS qual scope s.heap.objs.size f (.ref cda) cc)) (execs _ (envS qual scope s.heap.objs.size f (.ref cda) cc)) _ _ _
  have X1 : K.In h1 := KX.keeps keep
  obtain ⟨oD, hD1, hD2⟩ : ∃ oD, h1.get? D = some oD ∧ oD.data = .cls cdD := by
    unfold PySem.W.clsIn at hD
    split at hD
    · rename_i ho
      cases hD
      exact ⟨_, X1 _ _ ho, rfl⟩
    · cases hD
  obtain ⟨t1, hx⟩ := exo_at I.hok ea
  obtain ⟨mb, hb1, hb2⟩ := I.mod.blt
  obtain ⟨nm, q, N, bs, bm, sn, sub, ab, col, dd, k0, k1, k2, k3, k5, hC, hbm⟩ := T.cls
  have hcl : PySem.W.clsIn K C = some { name := nm, bases := bs, mro := .ref C :: bm, ns := N, qualname := q, hasDict := true, slotNames := sn, subclasses := sub, abstract := ab, collection := col, hasDel := false } := by unfold PySem.W.clsIn; rw [hC] <;> rfl
  refine ks_wpAt_execs_cons (ks_wpAt_Expr_any (ks_wpAt_MethodCall (ks_wpAt_super_base S.hasS S.hasC (by decide) rfl (X1 _ _ lk) rfl hp rfl (X1 _ _ hcode) hco hvs hfile htop ?_) (hev _)) I.quiet (hsw _))
  refine PySem.W.ks_loadName_global S.kind S.hasS (Calls.loadGlobal_builtin (I.mod.glob.keeps I.bk) hmg (hb1.keeps I.bk) ((hb2 _ (by decide)).trans PyProof.Rows.Boot.«super») ⟨rfl, ?_⟩)
  refine wpAny_loadName_free S.kind S.hasC rfl ⟨_, X1 _ _ hcc, rfl⟩ (wpAny_loadName_local S.kind (S.par _ (List.mem_of_getElem? hps)) hns selfAt (ks_wpAny_isType_cls hD1 hD2 ⟨rfl, ?_⟩))
  refine ks_wpAny_call_super hD1 hD2 hx rfl (fun c z => by cases z) (PySem.W.looks_mroIn X1 hsub) fun h2 e2 keep2 => ?_
  have X2 : K.In h2 := X1.keeps keep2
  have I2 := I.kept (t' := s.toks + (ps.zip us).length) keep2
  have hx2 := keep2 _ _ hx
  have hxC : a ≠ C := fun z => by
    have y := X2 _ _ hC
    rw [← z, hx2] at y
    cases y
  have hm : PySem.W.alongIn K "__init__" (((Value.ref C :: bm).dropWhile (· != .ref D)).drop 1) = some (some (.builtin "ValueError.__init__")) := by
    unfold PySem.W.ks_superIn at hsup
    rw [hcl] at hsup
    exact hsup
  refine PySem.W.kxs_getMethod PySem.W.kxs_ValueError e2 (PySem.W.looks_opaque X2 hop) (l₀ := .ref C :: bm) (fun A Q E s k q => wpAny_bind ((PySem.W.looks_clsIn X2 hcl) A _ E s k (wpAny_pure q))) rfl X2 hm ((PySem.W.InstAt.type (⟨hx2, rfl, rfl, trivial⟩ : PySem.W.InstAt h2 a _ C none)).andThen (PySem.W.looks_subIn X2 hB)) hxC (by decide) ?_
  have I3 := I2.kept (t' := s.toks + (ps.zip us).length + 1) (h' := h2.push (PySem.W.kxs_mw "ValueError.__init__" a)) fun b u e => Heap.get?_push_of_some _ e
  have hmw : (h2.push (PySem.W.kxs_mw "ValueError.__init__" a)).get? h2.objs.size = some (PySem.W.kxs_mw "ValueError.__init__" a) := Heap.get?_push_size _ rfl
  have I4 := I3.pinned (fp := [h2.objs.size]) (fun b hb => by
      have e : b = h2.objs.size := by simpa using hb
      subst e
      exact I2.fpOk (Nat.le_refl _) (I2.hok.fresh (Nat.le_refl _))) (fun b hb => by
      have e : b = h2.objs.size := by simpa using hb
      subst e
      exact ⟨_, hmw, fun v z => nomatch z⟩)
  show wpAny _ _ (callWith pos (.ref h2.objs.size) [] (backTo pos (starEach [arg] (envS qual scope s.heap.objs.size f (.ref cda) cc))) []) _ _ _
  rw [hst]
  refine PySem.W.kxs_callWith (i := "ValueError.__init__") (x := a) rfl (Calls.evalArgs_plain (Calls.spliced_cons (thn (pta.run _ _ _ _ _ I4 hq) fun v s5 h5 => ?_)))
  obtain ⟨x, H5, I5, r5, e5, q5⟩ := h5
  have hu : s5.heap.get? h2.objs.size = some (PySem.W.kxs_mw "ValueError.__init__" a) := (I5.pin (h2.objs.size, _) (List.mem_append_right _ (List.mem_append_right _ (mem_pinsAt (List.mem_singleton.mpr rfl) hmw)))).1
  refine Calls.spliced_nil ⟨hu, ?_⟩
  obtain ⟨t5, hx5⟩ := exo_at I5.hok e5
  have hC5 := I5.kIn _ _ hC
  obtain ⟨hp5, g5, d5, tk5, os5⟩ := s5
  refine kxs_go F.excBase_ValueError hC5 hx5 hu (show 1 ≤ sizeLine by decide) fun h' t1 k he' => ?_
  have J := I5.write (t' := tk5) (x := a) (e := a) (o := exo a C none) (by rw [e5]; exact True.intro) (.inl rfl) k ⟨_, he'⟩ (exo_ok he')
  have eu : upd H5 a (exo a C none) = H5 := by
    funext b
    by_cases hb : b = a
    · rw [hb, upd_same, e5]
    · rw [upd_ne hb]
  rw [eu] at J
  refine wpAt_of_wpAny (wpAny_mono (pt.run _ _ _ _ _ J q5) (fun fl s' hs => ?_) fun _ _ hs => hs)
  cases fl with
  | ret u =>
    obtain ⟨v, σ', H', J', rv, q⟩ := hs
    exact ⟨v, H', J'.os, J'.bare, J'.base, J'.hok, rv, q⟩
  | next =>
    obtain ⟨σ', H', J', q⟩ := hs
    exact ⟨V.non, H', J'.os, J'.bare, J'.base, J'.hok, rfl, q⟩
  | brk => exact False.elim (by obtain ⟨_, _, _, q⟩ := hs; exact q)
  | cont => exact False.elim (by obtain ⟨_, _, _, q⟩ := hs; exact q)
end
end PD
namespace PD
open PySem PySem.Spec PyProof.Rows L2
def clsBody (s : Stmt) : List Stmt := match s with
  | .ClassDef _ _ _ b _ _ _ _ _ _ _ => b
  | _ => []
def fmtV (v : V) : Prop := ∃ i : Int, v = .int i ∧ i.natAbs.log2 < 1920
def spI (C : Addr) (names : List Str) : Sp := fun vs H Q _ => ∃ (a : Addr) (ws : List V), vs = .ref a :: ws ∧ ws.length = names.length ∧ (∀ v ∈ ws, fmtV v) ∧ H a = some (exo a C none) ∧
  ∀ d H', H d = none → d ≠ a → H' a = some (exo a C (some d)) → H' d = some (exd d (names.zip ws).reverse) → (∀ b, b ≠ a → b ≠ d → H' b = H b) → Q .non H'
/-- where an own class with an __init__ of its own lies, and what is asked of it -/
structure IniF (P : Program) (K : PySem.W.Frag) (C xI : Addr) (qual : Str) (st : Stmt) (n0 : Str) (fd : FuncData) : Prop where
  ex : ∃ (oc cl dV kV doc pm ct : Value) (an od cld : Option Addr) (cc cda : Addr) (osl csl : Array (Option Value)) (oC : Obj) (cvs : Array Value) (file : Str) (tf : Tok) (cd : ClassData),
    fd = PySem.W.fnX "__init__" qual (defArgs st) (defBody st) (defScope st) [("__class__", cc)] dV kV doc pm an (.ref cda) ct ∧ K.lookup xI = some ⟨oc, od, .func fd, osl⟩ ∧ PySem.W.codeIn K (.ref cda) qual = true ∧
    K.lookup cda = some oC ∧ oC.data = .fields cvs ∧ cvs[2]? = some (.str file tf) ∧ ((P.main.file : Str) == file) = true ∧ K.lookup cc = some ⟨cl, cld, .cell (some (.ref C)), csl⟩ ∧ PySem.W.clsIn K C = some cd
  htop : (P.main.scope.names.lookup ("super" : Str)).isSome = false
  har : ∃ ar, ((defArgs st).posonlyargs ++ (defArgs st).args).head? = some ar ∧ ar.arg = n0
  hsub : PySem.W.mroIn K C (.ref C) = some true
  T : OexC K C
  hsup : PySem.W.ks_superIn K C C "__init__" = some (some (.builtin "ValueError.__init__"))
  hB : PySem.W.subIn K (.ref C) (.type "ValueError") = some true
  hop : PySem.W.nsIn K PySem.cStatics "thirdparty.any" = some none
  ini : PySem.W.findIn K (.ref C) "__init__" = some (some (.ref xI))
  tyI : PySem.W.typeIn K (.ref xI) = some (.type "function")
section
variable {P : Program} {w : World} {K : PySem.W.Frag} {mg : Str → Option Value} {base : Heap} {C xI : Addr} {qual : Str} {st : Stmt} {fd : FuncData} {CX : CXT}
/-- the __init__'s promise, in one rule -/
theorem okIni {k : Nat} {n0 : Str} {ps names : List Str} {arg : Expr} {rest : List Stmt} {p0 p1 p2 ap pos : Pos} (I : IniF P K C xI qual st n0 fd) (S : SupScope (n0 :: ps) (defScope st)) (hmg : mg "super" = none) (hn : names.length = ps.length)
    (hb : defBody st = .Expr (.Call (.Attribute (.Call (.Name "super" p0) [] [] p1) "__init__" ap) [arg] [] pos) p2 :: rest)
    (hbody : ∀ (cc cda : Addr) (A : Around) (outer : List Env) (s : Shared) (H : Hp) (vs : List V) (Q : VK) (E : XK), Room k (A.deeper (envS qual (defScope st) s.heap.objs.size xI (.ref cda) cc)) → spI C names vs H Q E →
      ∃ (a : Addr) (ws : List V) (ta : TE) (t : TS), vs = .ref a :: ws ∧ H a = some (exo a C none) ∧ PE (cxS CX P w K mg base (n0 :: ps) qual (defScope st) xI (.ref cda) cc A outer s H E) arg ta ∧ PSs (cxS CX P w K mg base (n0 :: ps) qual (defScope st) xI (.ref cda) cc A outer s H E) rest t ∧
        ta (L2.start (n0 :: ps) vs) H fun _ H1 => H1 a = some (exo a C none) ∧ t { nx := fun _ H' => Q .non H', rt := Q } (L2.start (n0 :: ps) vs) H1)
    {pl : Sem Bool} (hev : ∀ (L cc cda : Addr), eval (.Call (.Attribute (.Call (.Name "super" p0) [] [] p1) "__init__" ap) [arg] [] pos) (envS qual (defScope st) L xI (.ref cda) cc) = (do
      let o ← attributeBase (.Call (.Name "super" p0) [] [] p1) "__init__" (envS qual (defScope st) L xI (.ref cda) cc) (eval (.Call (.Name "super" p0) [] [] p1) (envS qual (defScope st) L xI (.ref cda) cc))
      standAt ap.atName
      let (g, first) ← holding [o] (getMethod o "__init__" pl)
      callWith pos g first (backTo pos (starEach [arg] (envS qual (defScope st) L xI (.ref cda) cc))) []) := by intro _ _ _; rfl)
    (hst : ∀ (L cc cda : Addr), starEach [arg] (envS qual (defScope st) L xI (.ref cda) cc) = (false, eval arg (envS qual (defScope st) L xI (.ref cda) cc)) :: [] := by intro _ _ _; rfl)
    (hsw : ∀ (L cc cda : Addr), swapsWith (.Call (.Attribute (.Call (.Name "super" p0) [] [] p1) "__init__" ap) [arg] [] pos) none p2.line (envS qual (defScope st) L xI (.ref cda) cc) = pure false := by intro _ _ _; rfl) :
    FnOk P w K mg base CX (k + 1) xI fd (n0 :: ps) (spI C names) := by
  obtain ⟨oc, cl, dV, kV, doc, pm, ct, an, od, cld, cc, cda, osl, csl, oC, cvs, file, tf, cd, rfl, lk, hcd, hcode, hco, hvs, hfile, hcc, hD⟩ := I.ex
  obtain ⟨ar, hp, har⟩ := I.har
  rw [hb] at lk ⊢
  exact okSup lk hcd S hp (by rw [har]; rfl) hcode hco hvs hfile I.htop hcc hD I.hsub hmg I.T I.hsup I.hB I.hop (fun vs H Q E h => by
      obtain ⟨a, ws, rfl, hl, _⟩ := h
      rw [List.length_cons, List.length_cons, hl, hn]) (hbody cc cda) (fun L => hev L cc cda) (fun L => hst L cc cda) (fun L => hsw L cc cda)
/-- f'..{x!r}' -/
def tF1 (s1 : Str) : TE := fun σ H Q => tJs [tC (.str s1), tFmtR (tVar 1)] Str.empty σ H fun out H1 => Q (.str out) H1
theorem len_app (x y : Str) : (x ++ y).length = x.length + y.length := Array.size_append
theorem semI1 {X : Cx} {arg : Expr} {rest : List Stmt} {f1 s1 n0 n1 : Str} {vs : List V} {H : Hp} {Q : VK} {E : XK} (pa : PE X arg (tF1 s1)) (pr : PSs X rest (tOst X.K f1 (tVar 0) (tVar 1))) (T : OexC X.K C)
    (h1 : PySem.W.findIn X.K (.ref C) f1 = some none) (hl : s1.length ≤ 10000) (h : spI C [f1] vs H Q E) :
    ∃ (a : Addr) (ws : List V) (ta : TE) (t : TS), vs = .ref a :: ws ∧ H a = some (exo a C none) ∧ PE X arg ta ∧ PSs X rest t ∧ ta (L2.start [n0, n1] vs) H fun _ H1 => H1 a = some (exo a C none) ∧ t { nx := fun _ H' => Q .non H', rt := Q } (L2.start [n0, n1] vs) H1 := by
  obtain ⟨a, ws, rfl, hw, hf, ea, q⟩ := h
  match ws, hw with
  | [v1], _ =>
    obtain ⟨i1, rfl, b1⟩ := hf v1 (by simp)
    have l1 := PyProof.Rows.int_text_len_1921 b1
    have l0 : Str.empty.length = 0 := rfl
    have zb : 20000 ≤ sizeLine := by decide
    refine ⟨a, _, _, _, rfl, ea, pa, pr, ?_⟩
    refine ⟨s1, rfl, by rw [len_app]; omega, _, rfl, .inr ⟨i1, rfl, b1, Str.ofString (toString i1), rfl, by rw [len_app, len_app]; omega, ?_⟩⟩
    refine ⟨ea, ⟨_, rfl, _, rfl, a, C, rfl, T, h1, .inl ⟨ea, fun d hd hda => ?_⟩⟩⟩
    refine q d _ hd hda upd_same ?_ fun b hb1 hb2 => ?_
    · rw [upd_ne hda, upd_same]
      rfl
    · rw [upd_ne hb1, upd_ne hb2]
end
end PD
namespace PD
open PySem PySem.Spec PyProof.Rows L2
def intOk : D → Bool
  | .int i => decide (i.natAbs.log2 < 1920)
  | _ => false
end PD
namespace PD
open PySem PySem.Spec PyProof.Rows
end PD
namespace PD
open PySem PySem.Spec PyProof.Rows L2 LamX NdefX
end PD
namespace PD
open PySem PySem.Spec PyProof.Rows L2 LamX NdefX
end PD
namespace PD
open PySem PySem.Spec PyProof.Rows L2 LamX NdefX
end PD
namespace PD
open PySem PySem.Spec PyProof.Rows L2
structure FnXT (P : Program) (w : World) (K : PySem.W.Frag) (mg : Str → Option Value) (base : Heap) (CX : CXT) (k : Nat) (f : Addr) (fd : FuncData) (ps : List Str) (TP : Addr) (Tq : Str) (mf : List Sl → Dk → Option (D × Dk)) : Prop where
  len : ∀ as δ r, mf as δ = some r → as.length = ps.length
  run : ∀ (A : Around) (outer : List Env) (s : Shared) (H : Hp) (args : Args) (us : List Value) (vs : List V) (as : List Sl) (δ : Dk) (r : D) (δ' : Dk) (n : Nat) (M : Addr → Prop) (dk : Option DP) (Q : VK) (E : XK), Room k A → Env0 P w K mg base A outer s H → BindsTo s fd args (ps.zip us) → Vals vs us → n ≤ s.toks →
    (∀ a, M a → mtO (H a)) → (∀ p, dk = some p → M p.1 ∧ M p.2 ∧ M p.3 ∧ DeckAt H p δ) → (∃ p, dk = some p ∧ p.t = some Tq ∧ p.2 = TP) → RepsX K M H dk n vs as → mf as δ = some (r, δ') →
    (∀ v H', (∀ a o, (∀ p, dk = some p → a ≠ p.1 ∧ a ≠ p.2 ∧ a ≠ p.3) → H a = some o → H' a = some o) → (∀ p, dk = some p → DeckAt H' p δ') → Rep K M H' v r → Q v H') → codeAny (model P w) A (.call (.ref f) args) (CR CX outer P w H s Q E) s
theorem FnXT.mono {P w K mg base CX j k f fd ps TP Tq mf} (F : FnXT P w K mg base CX j f fd ps TP Tq mf) (h : j ≤ k) : FnXT P w K mg base CX k f fd ps TP Tq mf :=
  ⟨F.len, fun A outer s H args us vs as δ r δ' n M dk Q E hr => F.run A outer s H args us vs as δ r δ' n M dk Q E (hr.mono h)⟩
theorem Good.mark {K : PySem.W.Frag} {F : Fr} {σ : L2.St} {H : Hp} {ρ : List Sl} {δ : Dk} {j : Nat} {k : Fx} (G : Good K F σ H ρ δ) (hj : ρ[j]? = some .no) (x : FxR K F k σ[j]?) : Good K F σ H (ρ.set j (.fix k)) δ ∧ ∀ b, Mm F σ (ρ.set j (.fix k)) b ↔ Mm F σ ρ b := by
  have jl : j < ρ.length := by
    rcases Nat.lt_or_ge j ρ.length with z | z
    · exact z
    · rw [List.getElem?_eq_none z] at hj; cases hj
  have get : ∀ (i : Nat) sl, (ρ.set j (.fix k))[i]? = some sl → (i = j ∧ sl = .fix k) ∨ (i ≠ j ∧ ρ[i]? = some sl) := fun i sl h => by
    by_cases hi : j = i
    · subst hi
      rw [List.getElem?_set_self jl] at h
      cases h
      exact .inl ⟨rfl, rfl⟩
    · rw [List.getElem?_set_ne hi] at h
      exact .inr ⟨fun z => hi z.symm, h⟩
  have eM : ∀ b, Mm F σ (ρ.set j (.fix k)) b ↔ Mm F σ ρ b := fun b => by
    constructor
    · rintro (z | ⟨i, w, g1, g2⟩)
      · exact .inl z
      · rcases get i _ g1 with ⟨_, z⟩ | ⟨_, g1⟩
        · cases z
        · exact .inr ⟨i, w, g1, g2⟩
    · rintro (z | ⟨i, w, g1, g2⟩)
      · exact .inl z
      · refine .inr ⟨i, w, ?_, g2⟩
        rw [List.getElem?_set_ne (fun z => by rw [← z, hj] at g1; cases g1)]
        exact g1
  have mv : Mv (Mm F σ ρ) H (Mm F σ (ρ.set j (.fix k))) H := fun b o e n => ⟨e, fun z => n ((eM b).mp z)⟩
  refine ⟨⟨by rw [List.length_set]; exact G.len, fun i d h => ?_, fun i w h => ?_, fun i i' ds es a h1 h2 h3 h4 => ?_, G.m0, fun {k'} i h => ?_, G.dck, G.fr⟩, eM⟩
  · rcases get i _ h with ⟨_, z⟩ | ⟨_, h⟩
    · cases z
    · obtain ⟨v, e1, r⟩ := G.val i d h
      exact ⟨v, e1, r.mv mv⟩
  · rcases get i _ h with ⟨_, z⟩ | ⟨_, h⟩
    · cases z
    · obtain ⟨a, o, e1, e2, r, n⟩ := G.own i w h
      exact ⟨a, o, e1, e2, r.mv mv, n⟩
  · rcases get i _ h1 with ⟨_, z⟩ | ⟨_, h1⟩
    · cases z
    · rcases get i' _ h2 with ⟨_, z⟩ | ⟨_, h2⟩
      · cases z
      · exact G.inj i i' ds es a h1 h2 h3 h4
  · rcases get i _ h with ⟨hi, z⟩ | ⟨_, h⟩
    · cases z
      rw [hi]
      exact x
    · exact G.dsl i h
end PD
namespace PD
open PySem PySem.Spec PyProof.Rows L2
end PD
namespace PD
open PySem PySem.Spec PyProof.Rows L2
end PD
namespace PD
open PySem PySem.Spec PyProof.Rows L2
end PD
namespace PD
open PySem PySem.Spec PyProof.Rows L2
end PD
namespace PD
open PySem PySem.Spec PyProof.Rows L2
end PD
namespace PD
open PySem PySem.Spec PyProof.Rows L2
/-- a value that may be an object, or a tuple of objects -/
inductive OV where
  | dat (d : D) | ob (i : Nat) | obs (is : List Nat)
/-- what a field holds: a value; a list or a dict of its own -/
inductive Fv where
  | val (v : OV) | lst (n : Nat) (ds : List D) | lob (n : Nat) (is : List Nat) | dic (n : Nat) (es : List (D × D))
structure Ob where
  c : Nat
  fs : List (Str × Fv)
/-- the objects; how many own containers were made for their fields -/
structure Os where
  o : List Ob
  n : Nat
def Os.put (ω : Os) (k : Nat) (x : Ob) : Os := ⟨ω.o.set k x, ω.n⟩
def Os.add (ω : Os) (x : Ob) : Os := ⟨ω.o ++ [x], ω.n⟩
/-- where the objects stand: each one's instance, its dict; and their own containers (those too that are let go) -/
structure OW where
  A : List (Addr × Addr)
  C : List (Addr × Nat × Str)
def rg (W : OW) (a : Addr) : Prop := (∃ p ∈ W.A, a = p.1 ∨ a = p.2) ∨ ∃ q ∈ W.C, a = q.1
/-- what the slots keep now -/
def capK (σ : L2.St) (ρ : List Sl) : Bool → List Nat → V → Prop := fun b js v => ∃ i : Nat, ρ[i]? = some (.fix (.kp b js)) ∧ σ[i]? = some (some v)
/-- the frame with the objects: they may change, and what they are now is what they were; so what the slots keep -/
noncomputable def FO (F : Fr) (W : OW) (H : Hp) (σ : L2.St) (ρ : List Sl) : Fr := ⟨fun a => F.M0 a ∨ rg W a, F.dk, fun a => open Classical in if rg W a then H a else F.H0 a, F.n, capK σ ρ⟩
theorem FO_in {F : Fr} {W : OW} {H : Hp} {σ : L2.St} {ρ : List Sl} {a : Addr} (h : rg W a) : (FO F W H σ ρ).H0 a = H a := by
  unfold FO
  exact if_pos h
theorem FO_out {F : Fr} {W : OW} {H : Hp} {σ : L2.St} {ρ : List Sl} {a : Addr} (h : ¬ rg W a) : (FO F W H σ ρ).H0 a = F.H0 a := by
  unfold FO
  exact if_neg h
/-- a frame that differs only in what is kept -/
theorem Good.kpc {K : PySem.W.Frag} {F F' : Fr} {σ : L2.St} {H : Hp} {ρ : List Sl} {δ : Dk} (G : Good K F σ H ρ δ) (h1 : F'.M0 = F.M0) (h2 : F'.dk = F.dk) (h3 : F'.H0 = F.H0) (h4 : F'.n = F.n) (h5 : ∀ (i : Nat) b js x, ρ[i]? = some (.fix (.kp b js)) → σ[i]? = some (some x) → F.kp b js x → F'.kp b js x) : Good K F' σ H ρ δ := by
  obtain ⟨a1, a2, a3, a4, a5⟩ := F
  obtain ⟨b1, b2, b3, b4, b5⟩ := F'
  cases h1; cases h2; cases h3; cases h4
  refine ⟨G.len, G.val, G.own, G.inj, G.m0, fun {k} i e => ?_, G.dck, G.fr⟩
  have x := G.dsl i e
  cases k with
  | kp b js => obtain ⟨v, e1, q⟩ := x; exact ⟨v, e1, h5 i b js v e e1 q⟩
  | deck => exact x
  | fn a => exact x
  | left => exact x
  | man md => exact x
  | ton fd md => exact x
  | sm => exact x
  | tb P q => exact x
/-- no object is a cell of the deck -/
def NoDk (F : Fr) (W : OW) : Prop := ∀ p, F.dk = some p → ¬ rg W p.1 ∧ ¬ rg W p.2 ∧ ¬ rg W p.3
/-- from one store to another: it grows by what was not there, all else stays -/
structure Gro (W : OW) (H : Hp) (W' : OW) (H' : Hp) : Prop where
  up : ∀ a, rg W a → rg W' a
  new : ∀ a, rg W' a → ¬ rg W a → H a = none
  keep : ∀ a o, ¬ rg W' a → H a = some o → H' a = some o
  mt : ∀ a, rg W' a → mtO (H' a)
theorem TabD.gro {W W' : OW} {H H' : Hp} {p : DP} {δ : Dk} (h : TabD H p δ) (k : Gro W H W' H') (n : ∀ ps, H p.2 = some (.tbl ps) → ¬ rg W p.2) (hm : ∀ a, rg W a → mtO (H a)) : TabD H' p δ := ⟨fun T e => by
  obtain ⟨ps, h1, h2, h3⟩ := h.s T e
  have n2 : ¬ rg W' p.2 := fun z => by
    have := k.new _ z (n ps h1)
    rw [h1] at this; cases this
  refine ⟨ps, k.keep _ _ n2 h1, h2, fun pos cv hc => ?_⟩
  obtain ⟨c, e1, e2⟩ := h3 pos cv hc
  refine ⟨c, e1, k.keep _ _ (fun z => ?_) e2⟩
  by_cases y : rg W c
  · have := hm c y
    rw [e2] at this
    exact this
  · have := k.new _ z y
    rw [e2] at this
    exact absurd this (by simp), fun z ez => by
  obtain ⟨c1, c2, c3⟩ := h.c z ez
  refine ⟨c1, c2, k.keep _ _ (fun x => ?_) c3⟩
  by_cases y : rg W z.1
  · have := hm _ y
    rw [c3] at this
    exact this
  · have := k.new _ x y
    rw [c3] at this
    exact absurd this (by simp), h.n⟩
theorem Good.reo {K : PySem.W.Frag} {F : Fr} {W W' : OW} {σ : L2.St} {H H' : Hp} {ρ : List Sl} {δ : Dk} (G : Good K (FO F W H σ ρ) σ H ρ δ) (k : Gro W H W' H') (hd : NoDk F W) : Good K (FO F W' H' σ ρ) σ H' ρ δ ∧ Mv (Mm (FO F W H σ ρ) σ ρ) H (Mm (FO F W' H' σ ρ) σ ρ) H' := by
  have out : ∀ a o, H a = some o → ¬ rg W a → ¬ rg W' a := fun a o e n z => by
    have := k.new a z n
    rw [e] at this; cases this
  have mv : Mv (Mm (FO F W H σ ρ) σ ρ) H (Mm (FO F W' H' σ ρ) σ ρ) H' := fun a o e n => by
    have n1 : ¬ rg W a := fun z => n (.inl (.inr z))
    have n2 := out a o e n1
    refine ⟨k.keep a o n2 e, fun z => ?_⟩
    rcases z with (z | z) | z
    · exact n (.inl (.inl z))
    · exact n2 z
    · exact n (.inr z)
  have dk3 : ∀ p, F.dk = some p → ¬ rg W' p.1 ∧ ¬ rg W' p.2 ∧ ¬ rg W' p.3 := fun p e => by
    obtain ⟨_, _, _, D⟩ := G.dck p e
    obtain ⟨n1, n2, n3⟩ := hd p e
    refine ⟨out _ _ D.one n1, ?_, out _ _ D.tri n3⟩
    obtain ⟨u, eu, _⟩ := D.is2
    exact out _ _ eu n2
  refine ⟨⟨G.len, fun i d e => ?_, fun i w e => ?_, G.inj, fun a ha => ?_, fun {x} i e => ?_, fun p e => ?_, fun a o e n => ?_⟩, mv⟩
  · obtain ⟨v, e1, r⟩ := G.val i d e
    exact ⟨v, e1, r.mv mv⟩
  · obtain ⟨a, o, e1, e2, r, n, fr⟩ := G.own i w e
    have n1 : ¬ rg W a := fun z => n (.inr z)
    have n2 := out a o e2 n1
    refine ⟨a, o, e1, k.keep a o n2 e2, r.mv mv, fun z => z.elim (fun z => n (.inl z)) n2, fr.imp (fun z => ?_) id⟩
    rw [FO_out n1] at z
    rw [FO_out n2]
    exact z
  · rcases ha with ha | ha
    · have m := G.m0 a (.inl ha)
      by_cases z : rg W' a
      · exact k.mt a z
      · exact m.keep fun o e => k.keep a o z e
    · exact k.mt a ha
  · refine (G.dsl i e).mo rfl (fun a u t e1 n1 => ?_) (Nat.le_refl _)
    have n2 : ¬ rg W a := fun z => n1 (.inr z)
    rw [FO_out n2] at e1
    have hH : H a = some u := by
      refine G.fr a u (by rw [FO_out n2]; exact e1) fun p hp => ?_
      obtain ⟨m1, m2, m3, _⟩ := G.dck p hp
      exact ⟨fun z => n1 (by rw [z]; exact m1), fun z => n1 (by rw [z]; exact m2), fun z => n1 (by rw [z]; exact m3)⟩
    have n3 := out a u hH n2
    exact ⟨by rw [FO_out n3]; exact e1, fun z => z.elim (fun z => n1 (.inl z)) n3⟩
  · obtain ⟨m1, m2, m3, D⟩ := G.dck p e
    obtain ⟨n1, n2, n3⟩ := dk3 p e
    refine ⟨m1.imp id fun z => absurd z (hd p e).1, m2.imp id fun z => absurd z (hd p e).2.1, m3.imp id fun z => absurd z (hd p e).2.2, D.ne, D.ne2, D.ne3, k.keep _ _ n1 D.one, fun z => k.keep _ _ n2 (D.two z), k.keep _ _ n3 D.tri, D.tab.gro k (fun _ _ => (hd p e).2.1) fun a z => G.m0 a (.inr z)⟩
  · by_cases z : rg W' a
    · rw [FO_in z] at e
      exact e
    · have z0 : ¬ rg W a := fun y => z (k.up a y)
      rw [FO_out z] at e
      exact k.keep a o z (G.fr a o (by rw [FO_out z0]; exact e) n)
end PD
namespace PD
open PySem PySem.Spec PyProof.Rows L2
/-- what a kept slot holds -/
def kv : Bool → List Nat → OV
  | false, [k] => .ob k
  | _, js => .obs js
abbrev Sl.ob (k : Nat) : Sl := .fix (.kp false [k])
abbrev Sl.obs (js : List Nat) : Sl := .fix (.kp true js)
/-- the objects' instances, one by one -/
def ObsR (W : OW) : List V → List Nat → Prop
  | [], [] => True
  | v :: vs, j :: js => (∃ p, W.A[j]? = some p ∧ v = .ref p.1) ∧ ObsR W vs js
  | _, _ => False
def OVR (K : PySem.W.Frag) (M : Addr → Prop) (H : Hp) (W : OW) (v : V) : OV → Prop
  | .dat d => Rep K M H v d
  | .ob j => ∃ p, W.A[j]? = some p ∧ v = .ref p.1
  | .obs js => ∃ a xs, v = .ref a ∧ AT K M H a xs ∧ ObsR W xs js
/-- what the field f of the i-th object holds -/
def FvR (K : PySem.W.Frag) (M : Addr → Prop) (H : Hp) (W : OW) (i : Nat) (f : Str) (v : V) : Fv → Prop
  | .val x => OVR K M H W v x
  | .lst n ds => ∃ a xs, v = .ref a ∧ W.C[n]? = some (a, i, f) ∧ H a = some (.lst xs) ∧ Reps K M H xs ds
  | .lob n js => ∃ a xs, v = .ref a ∧ W.C[n]? = some (a, i, f) ∧ H a = some (.lst xs) ∧ ObsR W xs js
  | .dic n es => ∃ a kvs, v = .ref a ∧ W.C[n]? = some (a, i, f) ∧ H a = some (.dK kvs) ∧ RepK K M H kvs es
def FsR (K : PySem.W.Frag) (M : Addr → Prop) (H : Hp) (W : OW) (i : Nat) : List (Str × V) → List (Str × Fv) → Prop
  | [], [] => True
  | x :: xs, y :: ys => (x.1 = y.1 ∧ FvR K M H W i x.1 x.2 y.2) ∧ FsR K M H W i xs ys
  | _, _ => False
structure ExtW (W W' : OW) : Prop where
  a : ∀ (i : Nat) p, W.A[i]? = some p → W'.A[i]? = some p
  c : ∀ (i : Nat) q, W.C[i]? = some q → W'.C[i]? = some q
theorem ExtW.refl (W : OW) : ExtW W W := ⟨fun _ _ h => h, fun _ _ h => h⟩
theorem ExtW.trans {W W1 W2 : OW} (a : ExtW W W1) (b : ExtW W1 W2) : ExtW W W2 := ⟨fun i p h => b.a i p (a.a i p h), fun i p h => b.c i p (a.c i p h)⟩
theorem ObsR.ext {W W' : OW} (e : ExtW W W') : ∀ {vs js}, ObsR W vs js → ObsR W' vs js
  | [], [], _ => trivial
  | v :: vs, j :: js, h => ⟨h.1.elim fun p q => ⟨p, e.a _ _ q.1, q.2⟩, ObsR.ext e h.2⟩
  | [], _ :: _, h => h.elim
  | _ :: _, [], h => h.elim
theorem OVR.mv {K M H W M' H' W' v x} (h : Mv M H M' H') (e : ExtW W W') (r : OVR K M H W v x) : OVR K M' H' W' v x := by
  cases x with
  | dat d => exact Rep.mv h r
  | ob j => obtain ⟨p, a, b⟩ := r; exact ⟨p, e.a _ _ a, b⟩
  | obs js => obtain ⟨a, xs, q, t, o⟩ := r; exact ⟨a, xs, q, t.mv h, o.ext e⟩
theorem FvR.mv {K M H W M' H' W'} {i : Nat} {f : Str} {v x} (h : Mv M H M' H') (e : ExtW W W') (hc : ∀ (n : Nat) a o, W.C[n]? = some (a, i, f) → H a = some o → H' a = some o) (r : FvR K M H W i f v x) : FvR K M' H' W' i f v x := by
  cases x with
  | val x => exact OVR.mv h e r
  | lst n ds => obtain ⟨a, xs, q, t, o, u⟩ := r; exact ⟨a, xs, q, e.c _ _ t, hc _ _ _ t o, u.mv h⟩
  | lob n js => obtain ⟨a, xs, q, t, o, u⟩ := r; exact ⟨a, xs, q, e.c _ _ t, hc _ _ _ t o, u.ext e⟩
  | dic n es => obtain ⟨a, xs, q, t, o, u⟩ := r; exact ⟨a, xs, q, e.c _ _ t, hc _ _ _ t o, u.mv h⟩
theorem FsR.mvS {K M H W M' H' W'} {i : Nat} (h : Mv M H M' H') (e : ExtW W W') : ∀ {xs ys}, (∀ f ∈ ys.map (·.1), ∀ (n : Nat) a o, W.C[n]? = some (a, i, f) → H a = some o → H' a = some o) → FsR K M H W i xs ys → FsR K M' H' W' i xs ys
  | [], [], _, _ => trivial
  | x :: xs, y :: ys, hc, r => ⟨⟨r.1.1, r.1.2.mv h e (hc x.1 (by rw [List.map_cons, r.1.1]; exact List.mem_cons_self))⟩, FsR.mvS h e (fun f hf => hc f (List.mem_cons_of_mem _ hf)) r.2⟩
  | [], _ :: _, _, h => h.elim
  | _ :: _, [], _, h => h.elim
theorem FsR.mv {K M H W M' H' W'} {i : Nat} (h : Mv M H M' H') (e : ExtW W W') (hc : ∀ f (n : Nat) a o, W.C[n]? = some (a, i, f) → H a = some o → H' a = some o) {xs ys} (r : FsR K M H W i xs ys) : FsR K M' H' W' i xs ys := FsR.mvS h e (fun f _ => hc f) r
theorem FsR.len {K M H W} {i : Nat} : ∀ {xs ys}, FsR K M H W i xs ys → xs.length = ys.length
  | [], [], _ => rfl
  | x :: xs, y :: ys, r => by rw [List.length_cons, List.length_cons, FsR.len r.2]
  | [], _ :: _, h => h.elim
  | _ :: _, [], h => h.elim
theorem FsR.look {K M H W} {i : Nat} {f : Str} : ∀ {xs ys}, FsR K M H W i xs ys → ∀ {y}, ys.lookup f = some y → ∃ v, xs.lookup f = some v ∧ FvR K M H W i f v y
  | [], [], _, _, e => by cases e
  | x :: xs, y :: ys, r, z, e => by
    obtain ⟨x1, x2⟩ := x
    obtain ⟨y1, y2⟩ := y
    obtain ⟨⟨e1, r1⟩, r2⟩ := r
    have e1 : x1 = y1 := e1
    subst e1
    rw [List.lookup_cons] at e ⊢
    by_cases hf : f = x1
    · subst hf
      rw [beq_self_eq_true] at e ⊢
      cases e
      exact ⟨x2, rfl, r1⟩
    · rw [show (f == x1) = false from beq_eq_false_iff_ne.mpr hf] at e ⊢
      exact FsR.look r2 e
  | [], _ :: _, h, _, _ => h.elim
  | _ :: _, [], h, _, _ => h.elim
/-- a def's frame, with the objects that were there -/
structure FrO where
  F : Fr
  W0 : OW
def Mo (F : FrO) (W : OW) (σ : L2.St) (ρ : List Sl) : Addr → Prop := fun a => (F.F.M0 a ∨ rg W a) ∨ ∃ (i : Nat) (w : Ow), ρ[i]? = some (.own w) ∧ σ[i]? = some (some (.ref a))
structure GoodO (K : PySem.W.Frag) (cl : Nat → Addr) (F : FrO) (W : OW) (σ : L2.St) (H : Hp) (ρ : List Sl) (δ : Dk) (ω : Os) : Prop where
  g : Good K (FO F.F W H σ ρ) σ H ρ δ
  al : W.A.length = ω.o.length
  cn : W.C.length = ω.n
  ic : ∀ (m n : Nat) q r, W.C[m]? = some q → W.C[n]? = some r → q.1 = r.1 → m = n
  inj : ∀ (i j : Nat) p q, W.A[i]? = some p → W.A[j]? = some q → p.1 = q.1 → i = j
  ob : ∀ (i : Nat) o p, ω.o[i]? = some o → W.A[i]? = some p → ∃ fs, H p.1 = some (.ins (cl o.c) p.2 fs) ∧ FsR K (Mo F W σ ρ) H W i fs o.fs
  od : ∀ p ∈ W.A, H p.2 = some (.own p.1)
  nd : NoDk F.F W
  sl : ∀ (i : Nat) b js, ρ[i]? = some (.fix (.kp b js)) → ∃ v, σ[i]? = some (some v) ∧ OVR K (Mo F W σ ρ) H W v (kv b js)
  fre : ∀ a, rg W a → rg F.W0 a ∨ F.F.H0 a = none
  ext : ExtW F.W0 W
  dj : ∀ p ∈ W.A, ∀ q ∈ W.C, q.1 ≠ p.1 ∧ q.1 ≠ p.2
  up : ∀ a, rg F.W0 a → rg W a
theorem GoodO.rgm {K cl F W σ H ρ δ ω} (G : GoodO K cl F W σ H ρ δ ω) {a : Addr} (h : rg W a) : mtO (H a) := G.g.m0 a (.inr h)
/-- a step of the data leaves the objects -/
theorem FO_same {F : Fr} {W : OW} {H H' : Hp} {σ : L2.St} {ρ : List Sl} (h : ∀ a, rg W a → H' a = H a) : (FO F W H' σ ρ).H0 = (FO F W H σ ρ).H0 := by
  unfold FO
  funext a
  dsimp only
  by_cases z : rg W a
  · rw [if_pos z, if_pos z, h a z]
  · rw [if_neg z, if_neg z]
theorem GoodO.stay {K cl F W σ H ρ δ ω} (G : GoodO K cl F W σ H ρ δ ω) {H' : Hp} {σ' : L2.St} {ρ' : List Sl} {δ' : Dk} (g : Good K (FO F.F W H σ ρ) σ' H' ρ' δ') : ∀ a, rg W a → H' a = H a := fun a z => by
  have m := G.rgm z
  cases e : H a with
  | none => exact absurd e m.ne
  | some o =>
    refine g.fr a o (by rw [FO_in z, e]) fun p hp => ?_
    obtain ⟨n1, n2, n3⟩ := G.nd p hp
    exact ⟨fun y => n1 (by rw [← y]; exact z), fun y => n2 (by rw [← y]; exact z), fun y => n3 (by rw [← y]; exact z)⟩
/-- the objects after a step that leaves them, where the slots may have been set -/
theorem GoodO.data {K cl F W σ H ρ δ ω} (G : GoodO K cl F W σ H ρ δ ω) {H' : Hp} {σ' : L2.St} {ρ' : List Sl} {δ' : Dk} (g : Good K (FO F.F W H σ ρ) σ' H' ρ' δ') (mv : Mv (Mo F W σ ρ) H (Mo F W σ' ρ') H') : GoodO K cl F W σ' H' ρ' δ' ω := by
  have st := G.stay g
  refine ⟨g.kpc rfl rfl (FO_same (σ := σ') (ρ := ρ') st) rfl fun i b js x h1 h2 _ => ⟨i, h1, h2⟩, G.al, G.cn, G.ic, G.inj, fun i o p e1 e2 => ?_, fun p hp => ?_, G.nd, fun i b js e => ?_, G.fre, G.ext, G.dj, G.up⟩
  · obtain ⟨fs, h1, h2⟩ := G.ob i o p e1 e2
    exact ⟨fs, by rw [st _ (.inl ⟨p, List.mem_of_getElem? e2, .inl rfl⟩)]; exact h1, h2.mv mv (ExtW.refl W) fun f n a o t q => by rw [st a (.inr ⟨_, List.mem_of_getElem? t, rfl⟩)]; exact q⟩
  · rw [st _ (.inl ⟨p, hp, .inr rfl⟩)]; exact G.od p hp
  · obtain ⟨x, e1, i0, e2, e3⟩ := g.dsl i e
    obtain ⟨v, e4, r⟩ := G.sl i0 b js e2
    rw [e3] at e4
    cases e4
    exact ⟨x, e1, r.mv mv (ExtW.refl W)⟩
end PD
namespace PD
open PySem PySem.Spec PyProof.Rows L2
/-- the classes: of objects, of exceptions with their fields -/
structure OPar where
  cl : Nat → Addr
  xc : Nat → Addr
  xn : Nat → List Str
structure Xv where
  c : Nat
  fs : List D
def XvR (P : OPar) (K : PySem.W.Frag) (M : Addr → Prop) (H : Hp) (c : Value) (d : Option Addr) (x : Xv) : Prop :=
  c = .ref (P.xc x.c) ∧ ((P.xn x.c = [] ∧ d = none ∧ x.fs = []) ∨ ∃ a vs, d = some a ∧ H a = some (.xd ((P.xn x.c).zip vs).reverse) ∧ vs.length = (P.xn x.c).length ∧ Reps K M H vs x.fs)
/-- how an expression ends: with a value, or an exception -/
abbrev Rs (α : Type) := Xv ⊕ α
abbrev MEo := List Sl → Dk → Os → Option (Rs OV × Dk × Os)
abbrev MAo := List Sl → Dk → Os → Option (Rs (List OV) × Dk × Os)
abbrev MTo := List Sl → Dk → Os → Option (Rs Bool × Dk × Os)
def OVsR (K : PySem.W.Frag) (M : Addr → Prop) (H : Hp) (W : OW) : List V → List OV → Prop
  | [], [] => True
  | v :: vs, x :: xs => OVR K M H W v x ∧ OVsR K M H W vs xs
  | _, _ => False
theorem OVsR.mv {K M H W M' H' W'} (h : Mv M H M' H') (e : ExtW W W') : ∀ {vs xs}, OVsR K M H W vs xs → OVsR K M' H' W' vs xs
  | [], [], _ => trivial
  | v :: vs, x :: xs, r => ⟨r.1.mv h e, OVsR.mv h e r.2⟩
  | [], _ :: _, h => h.elim
  | _ :: _, [], h => h.elim
theorem OVsR.dat {K M H W} : ∀ {vs : List V} {ds : List D}, Reps K M H vs ds → OVsR K M H W vs (ds.map .dat)
  | _, _, .nil => trivial
  | _, _, .cons r t => ⟨r, OVsR.dat t⟩
/-- an exception has come out: the objects as they are, whatever the slots -/
def Out (P : OPar) (K : PySem.W.Frag) (F : FrO) (W : OW) (σ : L2.St) (H : Hp) (ρ : List Sl) (δ' : Dk) (ω' : Os) (x : Xv) (WX : L2.WX) : Prop :=
  ∀ c d W' H', GoodO K P.cl F W' σ H' ρ δ' ω' → Mv (Mo F W σ ρ) H (Mo F W' σ ρ) H' → ExtW W W' → XvR P K (Mo F W' σ ρ) H' c d x → WX c d σ H'
def SndO (P : OPar) (K : PySem.W.Frag) (t : L2.WX → TE) (m : MEo) : Prop := ∀ WX F W σ H ρ δ ω r δ' ω', GoodO K P.cl F W σ H ρ δ ω → m ρ δ ω = some (r, δ', ω') → ∀ Q : VK,
  (match r with
    | .inl x => Out P K F W σ H ρ δ' ω' x WX
    | .inr x => ∀ v W' H', GoodO K P.cl F W' σ H' ρ δ' ω' → Mv (Mo F W σ ρ) H (Mo F W' σ ρ) H' → ExtW W W' → OVR K (Mo F W' σ ρ) H' W' v x → Q v H') → t WX σ H Q
def SndTO (P : OPar) (K : PySem.W.Frag) (t : L2.WX → TT) (m : MTo) : Prop := ∀ WX F W σ H ρ δ ω r δ' ω', GoodO K P.cl F W σ H ρ δ ω → m ρ δ ω = some (r, δ', ω') → ∀ Q : Bool → Hp → Prop,
  (match r with
    | .inl x => Out P K F W σ H ρ δ' ω' x WX
    | .inr x => ∀ W' H', GoodO K P.cl F W' σ H' ρ δ' ω' → Mv (Mo F W σ ρ) H (Mo F W' σ ρ) H' → ExtW W W' → Q x H') → t WX σ H Q
def SndAO (P : OPar) (K : PySem.W.Frag) (t : L2.WX → TA) (m : MAo) : Prop := ∀ WX F W σ H ρ δ ω r δ' ω', GoodO K P.cl F W σ H ρ δ ω → m ρ δ ω = some (r, δ', ω') → ∀ Q : List V → Hp → Prop,
  (match r with
    | .inl x => Out P K F W σ H ρ δ' ω' x WX
    | .inr x => ∀ v W' H', GoodO K P.cl F W' σ H' ρ δ' ω' → Mv (Mo F W σ ρ) H (Mo F W' σ ρ) H' → ExtW W W' → OVsR K (Mo F W' σ ρ) H' W' v x → Q v H') → t WX σ H Q
/-- in whatever wish for exceptions -/
def InW (X : Cx) (p : L2.WX → Cx → Prop) : Prop := ∀ (WX : L2.WX) (pn : List (Addr × Obj)) (xe : Value → Shared → Prop), Takes (X.tr pn xe) WX → PassesOwn (model X.prog X.w) X.A X.env xe → p WX (X.tr pn xe)
structure PDo (P : OPar) (X : Cx) (e : Expr) (m : MEo) : Prop where
  ex : ∃ t, InW X (fun WX Y => PE Y e (t WX)) ∧ SndO P X.K t m
structure PDTo (P : OPar) (X : Cx) (e : Expr) (m : MTo) : Prop where
  ex : ∃ t, InW X (fun WX Y => PT Y e (t WX)) ∧ SndTO P X.K t m
structure PDAo (P : OPar) (X : Cx) (es : List Expr) (m : MAo) : Prop where
  ex : ∃ t, InW X (fun WX Y => PA Y es (t WX)) ∧ SndAO P X.K t m
def liftE (m : ME) : MEo := fun ρ δ ω => (m ρ δ).map fun p => (.inr (.dat p.1), p.2, ω)
def liftT (m : MT) : MTo := fun ρ δ ω => (m ρ δ).map fun p => (.inr p.1, p.2, ω)
def liftA (m : MA) : MAo := fun ρ δ ω => (m ρ δ).map fun p => (.inr (p.1.map .dat), p.2, ω)
section
variable {P : OPar} {X : Cx} {e : Expr} {es : List Expr}
theorem pd_meet {m : ME} (h : ∀ (pn : List (Addr × Obj)) (xe : Value → Shared → Prop), PD (X.tr pn xe) e m) : ∃ t, (∀ (pn : List (Addr × Obj)) (xe : Value → Shared → Prop), PE (X.tr pn xe) e t) ∧ Snd X.K t m :=
  ⟨fun σ H Q => ∀ pn xe, (h pn xe).ex.choose σ H Q, fun pn xe => ⟨fun pins s σ H Q I q => (h pn xe).ex.choose_spec.1.run pins s σ H Q I (q pn xe)⟩, fun F σ H ρ δ d δ' G e Q q pn xe => (h pn xe).ex.choose_spec.2 F σ H ρ δ d δ' G e Q q⟩
theorem pda_meet2 {r : MA} (h : ∀ (pn : List (Addr × Obj)) (xe : Value → Shared → Prop), PDA (X.tr pn xe) es r) : ∃ t, (∀ (pn : List (Addr × Obj)) (xe : Value → Shared → Prop), PA (X.tr pn xe) es t) ∧ SndA X.K t r :=
  ⟨fun σ H Q => ∀ pn xe, (h pn xe).ex.choose σ H Q, fun pn xe => ⟨fun pos pins s σ H Q I q => (h pn xe).ex.choose_spec.1.run pos pins s σ H Q I (q pn xe)⟩, fun F σ H ρ δ d δ' G e Q q pn xe => (h pn xe).ex.choose_spec.2 F σ H ρ δ d δ' G e Q q⟩
theorem pdt_meet {m : MT} (h : ∀ (pn : List (Addr × Obj)) (xe : Value → Shared → Prop), PDT (X.tr pn xe) e m) : ∃ t, (∀ (pn : List (Addr × Obj)) (xe : Value → Shared → Prop), PT (X.tr pn xe) e t) ∧ SndT X.K t m :=
  ⟨fun σ H Q => ∀ pn xe, (h pn xe).ex.choose σ H Q, fun pn xe => ⟨fun pins s σ H Q I q => (h pn xe).ex.choose_spec.1.run pins s σ H Q I (q pn xe)⟩, fun F σ H ρ δ d δ' G e Q q pn xe => (h pn xe).ex.choose_spec.2 F σ H ρ δ d δ' G e Q q⟩
theorem GoodO.lift {K : PySem.W.Frag} {cl : Nat → Addr} {F : FrO} {W : OW} {σ : L2.St} {H H' : Hp} {ρ : List Sl} {δ δ' : Dk} {ω : Os} (G : GoodO K cl F W σ H ρ δ ω) (g : Good K (FO F.F W H σ ρ) σ H' ρ δ') (mv : Mv (Mo F W σ ρ) H (Mo F W σ ρ) H') : GoodO K cl F W σ H' ρ δ' ω :=
  G.data g mv
theorem pdo_of {m : ME} (h : ∀ (pn : List (Addr × Obj)) (xe : Value → Shared → Prop), PD (X.tr pn xe) e m) : PDo P X e (liftE m) := by
  obtain ⟨t, p, s⟩ := pd_meet h
  refine ⟨fun _ => t, fun _ pn xe _ _ => p pn xe, fun WX F W σ H ρ δ ω r δ' ω' G e Q q => ?_⟩
  obtain ⟨⟨d, δ1⟩, e1, e⟩ := Option.map_eq_some_iff.mp e
  cases e
  exact s (FO F.F W H σ ρ) σ H ρ δ d δ1 G.g e1 Q fun v H' G' M' R' => q v W H' (G.lift G' M') M' (ExtW.refl W) R'
theorem pdto_of {m : MT} (h : ∀ (pn : List (Addr × Obj)) (xe : Value → Shared → Prop), PDT (X.tr pn xe) e m) : PDTo P X e (liftT m) := by
  obtain ⟨t, p, s⟩ := pdt_meet h
  refine ⟨fun _ => t, fun _ pn xe _ _ => p pn xe, fun WX F W σ H ρ δ ω r δ' ω' G e Q q => ?_⟩
  obtain ⟨⟨d, δ1⟩, e1, e⟩ := Option.map_eq_some_iff.mp e
  cases e
  exact s (FO F.F W H σ ρ) σ H ρ δ d δ1 G.g e1 Q fun H' G' M' => q W H' (G.lift G' M') M' (ExtW.refl W)
theorem pdao_of {m : MA} (h : ∀ (pn : List (Addr × Obj)) (xe : Value → Shared → Prop), PDA (X.tr pn xe) es m) : PDAo P X es (liftA m) := by
  obtain ⟨t, p, s⟩ := pda_meet2 h
  refine ⟨fun _ => t, fun _ pn xe _ _ => p pn xe, fun WX F W σ H ρ δ ω r δ' ω' G e Q q => ?_⟩
  obtain ⟨⟨d, δ1⟩, e1, e⟩ := Option.map_eq_some_iff.mp e
  cases e
  exact s (FO F.F W H σ ρ) σ H ρ δ d δ1 G.g e1 Q fun v H' G' M' R' => q v W H' (G.lift G' M') M' (ExtW.refl W) (OVsR.dat R')
def mVarO (i : Nat) : MEo := fun ρ δ ω => match ρ[i]? with
  | some (.fix (.kp b js)) => some (.inr (kv b js), δ, ω)
  | some (.val d) => some (.inr (.dat d), δ, ω)
  | _ => none
theorem pdo_var (i : Nat) {x : Str} {pos : Pos} (hN : X.N[i]? = some x := by rfl) (hv : Vis X.env.scope x := by first | exact Or.inl rfl | exact Or.inr (Or.inl rfl) | exact Or.inr (Or.inr rfl)) (hd : (x == ("__debug__" : Str)) = false := by decide)
    (hcd : (x == ("__classdict__" : Str)) = false := by decide) : PDo P X (.Name x pos) (mVarO i) := by
  refine ⟨fun _ => tVar i, fun _ pn xe _ _ => pe_var hN hv hd hcd, fun WX F W σ H ρ δ ω r δ' ω' G e Q q => ?_⟩
  unfold mVarO at e
  split at e
  · rename_i b js hk
    cases e
    obtain ⟨v, e1, e2⟩ := G.sl i b js hk
    exact ⟨v, e1, q v W H G (Mv.refl _ _) (ExtW.refl W) e2⟩
  · rename_i d hk
    cases e
    obtain ⟨v, e1, e2⟩ := G.g.val i d hk
    exact ⟨v, e1, q _ W H G (Mv.refl _ _) (ExtW.refl W) e2⟩
  · cases e
/-- e.f, a value -/
def mFld (c : Nat) (f : Str) (m : MEo) : MEo := fun ρ δ ω => (m ρ δ ω).bind fun p => match p with
  | (.inl x, δ1, ω1) => some (.inl x, δ1, ω1)
  | (.inr (.ob k), δ1, ω1) => (ω1.o[k]?).bind fun o => if o.c = c then (o.fs.lookup f).bind fun y => match y with
      | .val x => some (.inr x, δ1, ω1)
      | _ => none
    else none
  | _ => none
theorem pdo_fld {c : Nat} {f : Str} {pos : Pos} {m : MEo} (hc : Cls X.K (P.cl c)) (hf : NoAttr X.K (P.cl c) f) (h : PDo P X e m) (hb : attributeBase e f X.env (eval e X.env) = eval e X.env := by rfl) : PDo P X (.Attribute e f pos) (mFld c f m) := by
  obtain ⟨t, p, s⟩ := h.ex
  refine ⟨fun WX => tFld X.K (t WX) f, fun WX pn xe tk po => pe_fld (p WX pn xe tk po) hb, fun WX F W σ H ρ δ ω r δ' ω' G e Q q => ?_⟩
  unfold mFld at e
  obtain ⟨⟨r1, δ1, ω1⟩, e1, e⟩ := Option.bind_eq_some_iff.mp e
  match r1, e1, e with
  | .inl x, e1, e =>
    cases e
    exact s WX F W σ H ρ δ ω _ _ _ G e1 _ q
  | .inr (.ob k), e1, e =>
    refine s WX F W σ H ρ δ ω _ _ _ G e1 _ fun v W1 H1 G1 M1 E1 R1 => ?_
    obtain ⟨pk, a1, rfl⟩ := R1
    obtain ⟨o, o1, e⟩ := Option.bind_eq_some_iff.mp e
    split at e
    · rename_i hoc
      obtain ⟨y, y1, e⟩ := Option.bind_eq_some_iff.mp e
      obtain ⟨fs, f1, f2⟩ := G1.ob k o pk o1 a1
      obtain ⟨v, v1, v2⟩ := f2.look y1
      cases y with
      | val x =>
        cases e
        exact ⟨pk.1, P.cl c, pk.2, fs, v, rfl, by rw [← hoc]; exact f1, hc, hf, v1, q v W1 H1 G1 M1 E1 v2⟩
      | lst n ds => cases e
      | lob n js => cases e
      | dic n es => cases e
    · cases e
  | .inr (.dat d), e1, e => cases e
  | .inr (.obs js), e1, e => cases e
end
end PD
namespace PD
open PySem PySem.Spec PyProof.Rows L2
def bO {α β : Type} (p : Option (Rs α × Dk × Os)) (k : α → Dk → Os → Option (Rs β × Dk × Os)) : Option (Rs β × Dk × Os) := p.bind fun q => match q.1 with
  | .inl x => some (.inl x, q.2.1, q.2.2)
  | .inr v => k v q.2.1 q.2.2
theorem bO_some {α β : Type} {p : Option (Rs α × Dk × Os)} {k : α → Dk → Os → Option (Rs β × Dk × Os)} {r : Rs β × Dk × Os} (h : bO p k = some r) : (∃ x δ1 ω1, p = some (.inl x, δ1, ω1) ∧ r = (.inl x, δ1, ω1)) ∨ ∃ v δ1 ω1, p = some (.inr v, δ1, ω1) ∧ k v δ1 ω1 = some r := by
  unfold bO at h
  obtain ⟨⟨q, δ1, ω1⟩, e, h⟩ := Option.bind_eq_some_iff.mp h
  cases q with
  | inl x => cases h; exact .inl ⟨x, δ1, ω1, e, rfl⟩
  | inr v => exact .inr ⟨v, δ1, ω1, e, h⟩
theorem bO_inr {α β : Type} {p : Option (Rs α × Dk × Os)} {k : α → Dk → Os → Option (Rs β × Dk × Os)} {v : α} {δ1 : Dk} {ω1 : Os} (h : p = some (.inr v, δ1, ω1)) : bO p k = k v δ1 ω1 := by
  rw [h]; rfl
theorem bO_inl {α β : Type} {p : Option (Rs α × Dk × Os)} {k : α → Dk → Os → Option (Rs β × Dk × Os)} {x : Xv} {δ1 : Dk} {ω1 : Os} (h : p = some (.inl x, δ1, ω1)) : bO p k = some (.inl x, δ1, ω1) := by
  rw [h]; rfl
/-- an exception later on is one from the start -/
theorem Out.mv {P K F W σ H ρ δ' ω' x WX W1 H1} (q : Out P K F W σ H ρ δ' ω' x WX) (M : Mv (Mo F W σ ρ) H (Mo F W1 σ ρ) H1) (E : ExtW W W1) : Out P K F W1 σ H1 ρ δ' ω' x WX :=
  fun c d W2 H2 G2 M2 E2 R => q c d W2 H2 G2 (M.trans M2) (E.trans E2) R
def datO : OV → Option D
  | .dat d => some d
  | _ => none
theorem datO_some {v : OV} {d : D} (h : datO v = some d) : v = .dat d := by
  cases v <;> cases h
  rfl
section
variable {P : OPar} {X : Cx} {a b c e : Expr} {es : List Expr} {ma mb mc : MEo} {pos : Pos}
def mBinO (f : D → D → Option D) (a b : MEo) : MEo := fun ρ δ ω => bO (a ρ δ ω) fun x δ1 ω1 => bO (b ρ δ1 ω1) fun y δ2 ω2 => (datO x).bind fun x => (datO y).bind fun y => (f x y).map fun z => (.inr (.dat z), δ2, ω2)
def OpW (X : Cx) (g : Value → Value → Sem Value) (f : D → D → Option D) : Prop := ∃ r, (∀ (pn : List (Addr × Obj)) (xe : Value → Shared → Prop), OpR (X.tr pn xe) g r) ∧ OpS X.K r f
theorem sndo_bin {K : PySem.W.Frag} {r : R2} {f : D → D → Option D} {ta tb : L2.WX → TE} {ma mb : MEo} (o : OpS K r f) (ha : SndO P K ta ma) (hb : SndO P K tb mb) : SndO P K (fun WX => tOp r (ta WX) (tb WX)) (mBinO f ma mb) := fun WX F W σ H ρ δ ω rr δ' ω' G e Q q => by
  rcases bO_some e with ⟨x, δ1, ω1, e1, e⟩ | ⟨x, δ1, ω1, e1, e⟩
  · cases e
    exact ha WX F W σ H ρ δ ω _ _ _ G e1 _ q
  · refine ha WX F W σ H ρ δ ω _ _ _ G e1 _ fun v W1 H1 G1 M1 E1 R1 => ?_
    rcases bO_some e with ⟨y, δ2, ω2, e2, e⟩ | ⟨y, δ2, ω2, e2, e⟩
    · cases e
      exact hb WX F W1 σ H1 ρ δ1 ω1 _ _ _ G1 e2 _ (Out.mv q M1 E1)
    · refine hb WX F W1 σ H1 ρ δ1 ω1 _ _ _ G1 e2 _ fun u W2 H2 G2 M2 E2 R2 => ?_
      obtain ⟨d, hd, e⟩ := Option.bind_eq_some_iff.mp e
      obtain ⟨d', hd', e⟩ := Option.bind_eq_some_iff.mp e
      obtain ⟨z, e3, e⟩ := Option.map_eq_some_iff.mp e
      cases e
      have h1 := datO_some hd
      have h2 := datO_some hd'
      subst h1 h2
      refine o (FO F.F W2 H2 σ ρ) σ H2 ρ _ v u d d' z G2.g (Rep.mv M2 R1) R2 e3 Q fun w H3 k R3 => ?_
      exact q w W2 H3 (G2.lift (G2.g.keep k) (Mv.same k)) ((M1.trans M2).trans (Mv.same k)) (E1.trans E2) R3
theorem cmp_meet {op : CmpOp} {f : D → D → Option D} (h : ∀ (pn : List (Addr × Obj)) (xe : Value → Shared → Prop), CmpS (X.tr pn xe) op f) : OpW X (compareOp op) f :=
  ⟨fun x y H Q => ∀ pn xe, (h pn xe).ex.choose x y H Q, fun pn xe => fun pins s σ H x y v u Q I rx ry q => (h pn xe).ex.choose_spec.1 pins s σ H x y v u Q I rx ry (q pn xe), fun F σ H ρ δ x y d e z G rx ry hz Q q pn xe => (h pn xe).ex.choose_spec.2 F σ H ρ δ x y d e z G rx ry hz Q q⟩
theorem pdo_cmp {op : CmpOp} {f : D → D → Option D} (o : OpW X (compareOp op) f) (ha : PDo P X a ma) (hb : PDo P X b mb) (hm : behindInMarks op b = false) : PDo P X (.Compare a [op] [b] pos) (mBinO f ma mb) := by
  obtain ⟨r, o1, o2⟩ := o
  obtain ⟨ta, h1, s1⟩ := ha.ex
  obtain ⟨tb, h2, s2⟩ := hb.ex
  exact ⟨_, fun WX pn xe tk po => pe_cmpR (o1 pn xe) (h1 WX pn xe tk po) (h2 WX pn xe tk po) hm, sndo_bin o2 s1 s2⟩
/-- what an expression's end asks, by how it ended -/
def PostO (P : OPar) (K : PySem.W.Frag) (F : FrO) (σ : L2.St) (ρ : List Sl) (δ' : Dk) (ω' : Os) (WX : L2.WX) (Q : VK) (W : OW) (H : Hp) : Rs OV → Prop
  | .inl x => Out P K F W σ H ρ δ' ω' x WX
  | .inr x => ∀ v W' H', GoodO K P.cl F W' σ H' ρ δ' ω' → Mv (Mo F W σ ρ) H (Mo F W' σ ρ) H' → ExtW W W' → OVR K (Mo F W' σ ρ) H' W' v x → Q v H'
def mBO (m : MEo) : MTo := fun ρ δ ω => bO (m ρ δ ω) fun x δ1 ω1 => match x with
  | .dat (.bool b) => some (.inr b, δ1, ω1)
  | _ => none
theorem pdto_cmp {op : CmpOp} {f : D → D → Option D} (o : OpW X (compareOp op) f) (ha : PDo P X a ma) (hb : PDo P X b mb) (hm : behindInMarks op b = false) : PDTo P X (.Compare a [op] [b] pos) (mBO (mBinO f ma mb)) := by
  obtain ⟨r, o1, o2⟩ := o
  obtain ⟨ta, h1, s1⟩ := ha.ex
  obtain ⟨tb, h2, s2⟩ := hb.ex
  refine ⟨_, fun WX pn xe tk po => pt_cmpR (o1 pn xe) (h1 WX pn xe tk po) (h2 WX pn xe tk po) hm, fun WX F W σ H ρ δ ω rr δ' ω' G e Q q => ?_⟩
  rcases bO_some e with ⟨x, δ1, ω1, e1, e⟩ | ⟨x, δ1, ω1, e1, e⟩
  · cases e
    exact sndo_bin o2 s1 s2 WX F W σ H ρ δ ω _ _ _ G e1 _ q
  · refine sndo_bin o2 s1 s2 WX F W σ H ρ δ ω _ _ _ G e1 _ fun v W1 H1 G1 M1 E1 R1 => ?_
    split at e
    · cases e
      cases R1
      exact ⟨_, rfl, q W1 H1 G1 M1 E1⟩
    · cases e
def mTruO (m : MEo) : MTo := fun ρ δ ω => bO (m ρ δ ω) fun x δ1 ω1 => (datO x).bind fun d => (truD d).map fun b => (.inr b, δ1, ω1)
theorem pdto_tru (ha : PDo P X a ma) (he : ∀ whole, isTrue a X.env whole = (do let v ← whole; standAt a.pos; holding [v] (truthy v)) := by intro _; rfl) : PDTo P X a (mTruO ma) := by
  obtain ⟨ta, h1, s1⟩ := ha.ex
  refine ⟨fun WX σ H Q => ta WX σ H fun x H' => ∃ k, TruV X.K x H' k ∧ Q k H', fun WX pn xe tk po => pt_truth (h1 WX pn xe tk po) he, fun WX F W σ H ρ δ ω rr δ' ω' G e Q q => ?_⟩
  rcases bO_some e with ⟨x, δ1, ω1, e1, e⟩ | ⟨x, δ1, ω1, e1, e⟩
  · cases e
    exact s1 WX F W σ H ρ δ ω _ _ _ G e1 _ q
  · refine s1 WX F W σ H ρ δ ω _ _ _ G e1 _ fun v W1 H1 G1 M1 E1 R1 => ?_
    obtain ⟨d, hd, e⟩ := Option.bind_eq_some_iff.mp e
    obtain ⟨z, e3, e⟩ := Option.map_eq_some_iff.mp e
    cases e
    have h1 := datO_some hd
    subst h1
    have R1 : Rep X.K (Mo F W1 σ ρ) H1 v d := R1
    exact ⟨_, R1.tru e3, q W1 H1 G1 M1 E1⟩
def oNil : MAo := fun _ δ ω => some (.inr [], δ, ω)
def oCons (m : MEo) (r : MAo) : MAo := fun ρ δ ω => bO (m ρ δ ω) fun x δ1 ω1 => bO (r ρ δ1 ω1) fun xs δ2 ω2 => some (.inr (x :: xs), δ2, ω2)
theorem pdao_nil : PDAo P X [] oNil := ⟨fun _ => tNil, fun _ _ _ _ _ => pa_nil, fun WX F W σ H ρ δ ω rr δ' ω' G e Q q => by
  cases e
  exact q [] W H G (Mv.refl _ _) (ExtW.refl W) trivial⟩
theorem pdao_cons {r : MAo} (ha : PDo P X e ma) (hs : PDAo P X es r) (hst : starEach (e :: es) X.env = (false, eval e X.env) :: starEach es X.env := by rfl) : PDAo P X (e :: es) (oCons ma r) := by
  obtain ⟨ta, h1, s1⟩ := ha.ex
  obtain ⟨tb, h2, s2⟩ := hs.ex
  refine ⟨_, fun WX pn xe tk po => pa_cons (h1 WX pn xe tk po) (h2 WX pn xe tk po) hst, fun WX F W σ H ρ δ ω rr δ' ω' G e Q q => ?_⟩
  rcases bO_some e with ⟨x, δ1, ω1, e1, e⟩ | ⟨x, δ1, ω1, e1, e⟩
  · cases e
    exact s1 WX F W σ H ρ δ ω _ _ _ G e1 _ q
  · refine s1 WX F W σ H ρ δ ω _ _ _ G e1 _ fun v W1 H1 G1 M1 E1 R1 => ?_
    rcases bO_some e with ⟨y, δ2, ω2, e2, e⟩ | ⟨y, δ2, ω2, e2, e⟩
    · cases e
      exact s2 WX F W1 σ H1 ρ δ1 ω1 _ _ _ G1 e2 _ (Out.mv q M1 E1)
    · cases e
      refine s2 WX F W1 σ H1 ρ δ1 ω1 _ _ _ G1 e2 _ fun vs W2 H2 G2 M2 E2 R2 => ?_
      exact q (v :: vs) W2 H2 G2 (M1.trans M2) (E1.trans E2) ⟨R1.mv M2 E2, R2⟩
end
end PD
namespace PD
open PySem PySem.Spec PyProof.Rows L2
inductive FlO where
  | nx | rt (v : OV) | bk | ct
abbrev MSo := List Sl → Dk → Os → Option (Rs FlO × List Sl × Dk × Os)
/-- what is asked where a statement ends so -/
def PoS (P : OPar) (K : PySem.W.Frag) (F : FrO) (WX : L2.WX) (D : Ends) (σ : L2.St) (W : OW) (H : Hp) (ρ : List Sl) : Rs FlO → Prop
  | .inl x => ∀ c d, XvR P K (Mo F W σ ρ) H c d x → WX c d σ H
  | .inr .nx => D.nx σ H
  | .inr .bk => D.bk σ H
  | .inr .ct => D.ct σ H
  | .inr (.rt x) => ∀ v, OVR K (Mo F W σ ρ) H W v x → D.rt v H
def SndStO (P : OPar) (K : PySem.W.Frag) (t : L2.WX → TS) (m : MSo) : Prop := ∀ WX F W σ H ρ δ ω r ρ' δ' ω', GoodO K P.cl F W σ H ρ δ ω → m ρ δ ω = some (r, ρ', δ', ω') → ∀ D : Ends,
  (∀ σ' W' H', GoodO K P.cl F W' σ' H' ρ' δ' ω' → Mv (Mo F W σ ρ) H (Mo F W' σ' ρ') H' → ExtW W W' → PoS P K F WX D σ' W' H' ρ' r) → t WX D σ H
structure PDSo (P : OPar) (X : Cx) (st : Stmt) (m : MSo) : Prop where
  ex : ∃ t, InW X (fun WX Y => PS Y st (t WX)) ∧ SndStO P X.K t m
structure PDSso (P : OPar) (X : Cx) (sts : List Stmt) (m : MSo) : Prop where
  ex : ∃ t, InW X (fun WX Y => PSs Y sts (t WX)) ∧ SndStO P X.K t m
def flO : Fl → FlO
  | .nx => .nx
  | .rt d => .rt (.dat d)
  | .bk => .bk
  | .ct => .ct
def liftS (m : MS) : MSo := fun ρ δ ω => (m ρ δ).map fun p => (.inr (flO p.1), p.2.1, p.2.2, ω)
theorem snd_liftS {P : OPar} {K : PySem.W.Frag} {t : TS} {m : MS} (s : SndS K t m) : SndStO P K (fun _ => t) (liftS m) := fun WX F W σ H ρ δ ω r ρ' δ' ω' G e D q => by
  obtain ⟨⟨fl, ρ1, δ1⟩, e1, e⟩ := Option.map_eq_some_iff.mp e
  cases e
  refine s (FO F.F W H σ ρ) σ H ρ δ fl _ _ G.g e1 D fun σ' H' G' M' => ?_
  have z := q σ' W H' (G.data G' M') M' (ExtW.refl W)
  cases fl with
  | nx => exact z
  | bk => exact z
  | ct => exact z
  | rt d => exact fun v R => z v R
section
variable {P : OPar} {X : Cx} {st : Stmt} {rest : List Stmt} {m m' : MSo} {a b c e tg : Expr} {es : List Expr} {ma mb : MEo} {nc : MTo} {pos : Pos}
theorem pdq_of {m : MS} (h : ∀ (pn : List (Addr × Obj)) (xe : Value → Shared → Prop), PassesOwn (model X.prog X.w) X.A X.env xe → PDS (X.tr pn xe) st m) : PDSo P X st (liftS m) :=
  ⟨fun _ D σ H => ∀ pn xe po, (h pn xe po).ex.choose D σ H, fun WX pn xe _ po => ⟨fun pins s σ H D I q => (h pn xe po).ex.choose_spec.1.run pins s σ H D I (q pn xe po)⟩,
    snd_liftS fun F σ H ρ δ fl ρ' δ' G e D q pn xe po => (h pn xe po).ex.choose_spec.2 F σ H ρ δ fl ρ' δ' G e D q⟩
def qNext : MSo := fun ρ δ ω => some (.inr .nx, ρ, δ, ω)
def qSeq (a b : MSo) : MSo := fun ρ δ ω => (a ρ δ ω).bind fun p => match p.1 with
  | .inr .nx => b p.2.1 p.2.2.1 p.2.2.2
  | _ => some p
theorem PoS.mv {P K F WX D σ' W' H' ρ' r} (h : PoS P K F WX D σ' W' H' ρ' r) : PoS P K F WX D σ' W' H' ρ' r := h
theorem sndo_seq {K : PySem.W.Frag} {t u : L2.WX → TS} {a b : MSo} (h : SndStO P K t a) (g : SndStO P K u b) : SndStO P K (fun WX => tSeq (t WX) (u WX)) (qSeq a b) := fun WX F W σ H ρ δ ω r ρ' δ' ω' G e D q => by
  obtain ⟨⟨r1, ρ1, δ1, ω1⟩, e1, e⟩ := Option.bind_eq_some_iff.mp e
  match r1, e1, e with
  | .inl x, e1, e => cases e; exact h WX F W σ H ρ δ ω _ _ _ _ G e1 _ fun σ1 W1 H1 G1 M1 E1 => q σ1 W1 H1 G1 M1 E1
  | .inr .nx, e1, e => exact h WX F W σ H ρ δ ω _ _ _ _ G e1 _ fun σ1 W1 H1 G1 M1 E1 => g WX F W1 σ1 H1 ρ1 δ1 ω1 r ρ' δ' ω' G1 e D fun σ2 W2 H2 G2 M2 E2 => q σ2 W2 H2 G2 (M1.trans M2) (E1.trans E2)
  | .inr .bk, e1, e => cases e; exact h WX F W σ H ρ δ ω _ _ _ _ G e1 _ fun σ1 W1 H1 G1 M1 E1 => q σ1 W1 H1 G1 M1 E1
  | .inr .ct, e1, e => cases e; exact h WX F W σ H ρ δ ω _ _ _ _ G e1 _ fun σ1 W1 H1 G1 M1 E1 => q σ1 W1 H1 G1 M1 E1
  | .inr (.rt d), e1, e => cases e; exact h WX F W σ H ρ δ ω _ _ _ _ G e1 _ fun σ1 W1 H1 G1 M1 E1 => q σ1 W1 H1 G1 M1 E1
theorem pdqs_nil : PDSso P X [] qNext := ⟨fun _ => tNext, fun _ _ _ _ _ => pss_nil, fun WX F W σ H ρ δ ω r ρ' δ' ω' G e D q => by
  cases e
  exact q σ W H G (Mv.refl _ _) (ExtW.refl W)⟩
theorem pdqs_cons (h1 : PDSo P X st m) (h2 : PDSso P X rest m') : PDSso P X (st :: rest) (qSeq m m') := by
  obtain ⟨t, p1, s1⟩ := h1.ex
  obtain ⟨u, p2, s2⟩ := h2.ex
  exact ⟨_, fun WX pn xe tk po => pss_cons (p1 WX pn xe tk po) (p2 WX pn xe tk po), sndo_seq s1 s2⟩
theorem pdqs_one (h1 : PDSo P X st m) : PDSso P X [st] m := by
  obtain ⟨t, p1, s1⟩ := h1.ex
  exact ⟨_, fun WX pn xe tk po => pss_one (p1 WX pn xe tk po), s1⟩
def slO : OV → Sl
  | .dat d => .val d
  | .ob k => .fix (.kp false [k])
  | .obs js => .fix (.kp true js)
theorem Mm_setK {F : Fr} {σ : L2.St} {ρ : List Sl} {i : Nat} {v : V} {k : Fx} {a : Addr} (h : Mm F (σ.set i (some v)) (ρ.set i (.fix k)) a) : Mm F σ ρ a := by
  rcases h with h | ⟨j, ds, e1, e2⟩
  · exact .inl h
  · by_cases hj : i = j
    · subst hj
      by_cases hl : i < ρ.length
      · rw [List.getElem?_set_self hl] at e1; cases e1
      · rw [List.getElem?_eq_none (by simpa using hl)] at e1; cases e1
    · rw [List.getElem?_set_ne hj] at e1 e2
      exact .inr ⟨j, ds, e1, e2⟩
theorem Good.setK {K : PySem.W.Frag} {F : Fr} {σ : L2.St} {H : Hp} {ρ : List Sl} {δ : Dk} {v : V} {b : Bool} {js : List Nat} (G : Good K F σ H ρ δ) (i : Nat) (r : F.kp b js v) : Good K F (σ.set i (some v)) H (ρ.set i (.fix (.kp b js))) δ ∧ Mv (Mm F σ ρ) H (Mm F (σ.set i (some v)) (ρ.set i (.fix (.kp b js)))) H := by
  have mv : Mv (Mm F σ ρ) H (Mm F (σ.set i (some v)) (ρ.set i (.fix (.kp b js)))) H := fun a o e n => ⟨e, fun z => n (Mm_setK z)⟩
  have un : ∀ (j : Nat) ds, (ρ.set i (.fix (.kp b js)))[j]? = some (.own ds) → i ≠ j ∧ ρ[j]? = some (.own ds) := fun j ds e => by
    by_cases hj : i = j
    · subst hj
      by_cases hl : i < ρ.length
      · rw [List.getElem?_set_self hl] at e; cases e
      · rw [List.getElem?_eq_none (by simpa using hl)] at e; cases e
    · rw [List.getElem?_set_ne hj] at e
      exact ⟨hj, e⟩
  refine ⟨⟨by rw [List.length_set, List.length_set]; exact G.len, fun j e h => ?_, fun j ds e => ?_, fun j k ds es a e1 e2 e3 e4 => ?_, G.m0, fun j e => ?_, G.dck, G.fr⟩, mv⟩
  · by_cases hj : i = j
    · subst hj
      by_cases hl : i < ρ.length
      · rw [List.getElem?_set_self hl] at h; cases h
      · rw [List.getElem?_eq_none (by simpa using hl)] at h; cases h
    · rw [List.getElem?_set_ne hj] at h ⊢
      obtain ⟨w, e1, r1⟩ := G.val j e h
      exact ⟨w, e1, r1.mv mv⟩
  · obtain ⟨hj, e⟩ := un j ds e
    obtain ⟨a, xs, e1, e2, r1, n⟩ := G.own j ds e
    exact ⟨a, xs, by rw [List.getElem?_set_ne hj]; exact e1, e2, r1.mv mv, n⟩
  · obtain ⟨hj, e1⟩ := un j ds e1
    obtain ⟨hk, e2⟩ := un k es e2
    rw [List.getElem?_set_ne hj] at e3
    rw [List.getElem?_set_ne hk] at e4
    exact G.inj j k ds es a e1 e2 e3 e4
  · by_cases hj : i = j
    · subst hj
      by_cases hl : i < ρ.length
      · rw [List.getElem?_set_self hl] at e
        cases e
        exact ⟨v, List.getElem?_set_self (by rw [G.len]; exact hl), r⟩
      · rw [List.getElem?_eq_none (by simpa using hl)] at e; cases e
    · rw [List.getElem?_set_ne hj] at e ⊢
      exact G.dsl j e
theorem GoodO.setKp {K cl F W σ H ρ δ ω} {v : V} {b : Bool} {js : List Nat} (G : GoodO K cl F W σ H ρ δ ω) (i : Nat) (r : OVR K (Mo F W σ ρ) H W v (kv b js)) : GoodO K cl F W (σ.set i (some v)) H (ρ.set i (.fix (.kp b js))) δ ω ∧ Mv (Mo F W σ ρ) H (Mo F W (σ.set i (some v)) (ρ.set i (.fix (.kp b js)))) H := by
  let F1 : Fr := { FO F.F W H σ ρ with kp := fun b' js' x => capK σ ρ b' js' x ∨ (b' = b ∧ js' = js ∧ x = v) }
  have G1 : Good K F1 σ H ρ δ := G.g.kpc rfl rfl rfl rfl fun i b js x h1 h2 _ => .inl ⟨i, h1, h2⟩
  obtain ⟨G2, mv⟩ := G1.setK (v := v) (b := b) (js := js) i (.inr ⟨rfl, rfl, rfl⟩)
  have mv : Mv (Mo F W σ ρ) H (Mo F W (σ.set i (some v)) (ρ.set i (.fix (.kp b js)))) H := mv
  refine ⟨⟨G2.kpc (F' := FO F.F W H _ _) rfl rfl rfl rfl fun i b js x h1 h2 _ => ⟨i, h1, h2⟩, G.al, G.cn, G.ic, G.inj, fun j o p e1 e2 => ?_, G.od, G.nd, fun j b' js' e => ?_, G.fre, G.ext, G.dj, G.up⟩, mv⟩
  · obtain ⟨fs, h1, h2⟩ := G.ob j o p e1 e2
    exact ⟨fs, h1, h2.mv mv (ExtW.refl W) fun f n a o t q => q⟩
  · by_cases hj : i = j
    · subst hj
      by_cases hl : i < ρ.length
      · rw [List.getElem?_set_self hl] at e
        cases e
        exact ⟨v, List.getElem?_set_self (by rw [G.g.len]; exact hl), r.mv mv (ExtW.refl W)⟩
      · rw [List.getElem?_eq_none (by simpa using hl)] at e; cases e
    · rw [List.getElem?_set_ne hj] at e ⊢
      obtain ⟨w, e1, r1⟩ := G.sl j b' js' e
      exact ⟨w, e1, r1.mv mv (ExtW.refl W)⟩
theorem GoodO.set {K cl F W σ H ρ δ ω} {v : V} {x : OV} (G : GoodO K cl F W σ H ρ δ ω) (i : Nat) (r : OVR K (Mo F W σ ρ) H W v x) : GoodO K cl F W (σ.set i (some v)) H (ρ.set i (slO x)) δ ω ∧ Mv (Mo F W σ ρ) H (Mo F W (σ.set i (some v)) (ρ.set i (slO x))) H := by
  cases x with
  | dat d =>
    obtain ⟨g, mv⟩ := G.g.set i (v := v) (d := d) r
    exact ⟨G.data g mv, mv⟩
  | ob k => exact G.setKp (b := false) (js := [k]) i r
  | obs js => exact G.setKp (b := true) (js := js) i r
def qAsg (i : Nat) (me : MEo) : MSo := fun ρ δ ω => (me ρ δ ω).map fun p => match p.1 with
  | .inl x => (.inl x, ρ, p.2)
  | .inr x => (.inr .nx, ρ.set i (slO x), p.2)
theorem pdq_asg (i : Nat) {x : Str} {p0 : Pos} (he : PDo P X a ma) (hN : X.N.Nodup) (hi : X.N[i]? = some x := by rfl) (hx : Loc X.env.scope x := by first | exact Or.inl rfl | exact Or.inr rfl) (hf : X.fn x = true ∨ X.env.scope.names.lookup x = some .local := by first | exact .inl rfl | exact .inr rfl | assumption)
    (hs : swapsWithSole [.Name x p0] a pos.line X.env = pure false := by rfl) (hw : swappedStores [.Name x p0] a X.env = pure none := by rfl) (h1 : (assignEach [.Name x p0] X.env).map (·.2) = [assign (.Name x p0) X.env] := by rfl) : PDSo P X (.Assign [.Name x p0] a pos) (qAsg i ma) := by
  obtain ⟨t, p1, s1⟩ := he.ex
  refine ⟨_, fun WX pn xe tk po => ps_asg (p1 WX pn xe tk po) (pg_name (X := X.tr pn xe) (i := i) hN hi hx hf) hs hw h1, fun WX F W σ H ρ δ ω r ρ' δ' ω' G e D q => ?_⟩
  obtain ⟨⟨r1, δ1, ω1⟩, e1, e⟩ := Option.map_eq_some_iff.mp e
  cases r1 with
  | inl x =>
    cases e
    exact s1 WX F W σ H ρ δ ω _ _ _ G e1 _ fun c d W' H' G' M' E' R' => q σ W' H' G' M' E' c d R'
  | inr x =>
    cases e
    refine s1 WX F W σ H ρ δ ω _ _ _ G e1 _ fun v W1 H1 G1 M1 E1 R1 => ?_
    obtain ⟨G2, M2⟩ := G1.set i R1
    exact q _ W1 H1 G2 (M1.trans M2) E1
def qRet (me : MEo) : MSo := fun ρ δ ω => (me ρ δ ω).map fun p => match p.1 with
  | .inl x => (.inl x, ρ, p.2)
  | .inr x => (.inr (.rt x), ρ, p.2)
theorem pdq_ret (he : PDo P X a ma) : PDSo P X (.Return (some a) pos) (qRet ma) := by
  obtain ⟨t, p1, s1⟩ := he.ex
  refine ⟨_, fun WX pn xe tk po => ps_ret (p1 WX pn xe tk po), fun WX F W σ H ρ δ ω r ρ' δ' ω' G e D q => ?_⟩
  obtain ⟨⟨r1, δ1, ω1⟩, e1, e⟩ := Option.map_eq_some_iff.mp e
  cases r1 with
  | inl x =>
    cases e
    exact s1 WX F W σ H ρ δ ω _ _ _ G e1 _ fun c d W' H' G' M' E' R' => q σ W' H' G' M' E' c d R'
  | inr x =>
    cases e
    exact s1 WX F W σ H ρ δ ω _ _ _ G e1 _ fun v W1 H1 G1 M1 E1 R1 => q σ W1 H1 G1 M1 E1 v R1
def qExpr (me : MEo) : MSo := fun ρ δ ω => (me ρ δ ω).map fun p => match p.1 with
  | .inl x => (.inl x, ρ, p.2)
  | .inr x => (.inr .nx, ρ, p.2)
theorem pdq_expr (he : PDo P X a ma) (hs : swapsWith a none pos.line X.env = pure false := by rfl) : PDSo P X (.Expr a pos) (qExpr ma) := by
  obtain ⟨t, p1, s1⟩ := he.ex
  refine ⟨_, fun WX pn xe tk po => ps_expr (p1 WX pn xe tk po) hs, fun WX F W σ H ρ δ ω r ρ' δ' ω' G e D q => ?_⟩
  obtain ⟨⟨r1, δ1, ω1⟩, e1, e⟩ := Option.map_eq_some_iff.mp e
  cases r1 with
  | inl x =>
    cases e
    exact s1 WX F W σ H ρ δ ω _ _ _ G e1 _ fun c d W' H' G' M' E' R' => q σ W' H' G' M' E' c d R'
  | inr x =>
    cases e
    exact s1 WX F W σ H ρ δ ω _ _ _ G e1 _ fun v W1 H1 G1 M1 E1 R1 => q σ W1 H1 G1 M1 E1
def qIf (nc : MTo) (a b : MSo) : MSo := fun ρ δ ω => (nc ρ δ ω).bind fun p => match p.1 with
  | .inl x => some (.inl x, ρ, p.2)
  | .inr true => a ρ p.2.1 p.2.2
  | .inr false => b ρ p.2.1 p.2.2
theorem pdq_if {x y : List Stmt} (hc : PDTo P X c nc) (ha : PDSso P X x m) (hb : PDSso P X y m') : PDSo P X (.If c x y pos) (qIf nc m m') := by
  obtain ⟨t, p0, s0⟩ := hc.ex
  obtain ⟨u, p1, s1⟩ := ha.ex
  obtain ⟨w, p2, s2⟩ := hb.ex
  refine ⟨_, fun WX pn xe tk po => ps_if (p0 WX pn xe tk po) (p1 WX pn xe tk po) (p2 WX pn xe tk po), fun WX F W σ H ρ δ ω r ρ' δ' ω' G e D q => ?_⟩
  obtain ⟨⟨r1, δ1, ω1⟩, e1, e⟩ := Option.bind_eq_some_iff.mp e
  match r1, e1, e with
  | .inl x, e1, e =>
    cases e
    exact s0 WX F W σ H ρ δ ω _ _ _ G e1 _ fun c d W' H' G' M' E' R' => q σ W' H' G' M' E' c d R'
  | .inr true, e1, e =>
    exact s0 WX F W σ H ρ δ ω _ _ _ G e1 _ fun W1 H1 G1 M1 E1 => iteT (s1 WX F W1 σ H1 ρ δ1 ω1 _ _ _ _ G1 e D fun σ2 W2 H2 G2 M2 E2 => q σ2 W2 H2 G2 (M1.trans M2) (E1.trans E2))
  | .inr false, e1, e =>
    exact s0 WX F W σ H ρ δ ω _ _ _ G e1 _ fun W1 H1 G1 M1 E1 => iteF (s2 WX F W1 σ H1 ρ δ1 ω1 _ _ _ _ G1 e D fun σ2 W2 H2 G2 M2 E2 => q σ2 W2 H2 G2 (M1.trans M2) (E1.trans E2))
end
end PD
namespace PD
open PySem PySem.Spec PyProof.Rows L2
def putV (f : Str) (y : Fv) : List (Str × Fv) → List (Str × Fv)
  | [] => [(f, y)]
  | (g, x) :: r => if g = f then (g, y) :: r else (g, x) :: putV f y r
theorem FsR.put {K M H W} {i : Nat} {f : Str} {v : V} {y : Fv} (q : FvR K M H W i f v y) : ∀ {xs ys}, FsR K M H W i xs ys → FsR K M H W i (putF f v xs) (putV f y ys)
  | [], [], _ => ⟨⟨rfl, q⟩, trivial⟩
  | x :: xs, y' :: ys, r => by
    obtain ⟨x1, x2⟩ := x
    obtain ⟨y1, y2⟩ := y'
    obtain ⟨⟨e1, r1⟩, r2⟩ := r
    have e1 : x1 = y1 := e1
    subst e1
    unfold putF putV
    by_cases hf : x1 = f
    · subst hf
      rw [if_pos rfl, if_pos rfl]
      exact ⟨⟨rfl, q⟩, r2⟩
    · rw [if_neg hf, if_neg hf]
      exact ⟨⟨rfl, r1⟩, FsR.put q r2⟩
  | [], _ :: _, h => h.elim
  | _ :: _, [], h => h.elim
theorem GoodO.fld {K : PySem.W.Frag} {cl : Nat → Addr} {F : FrO} {W : OW} {σ : L2.St} {H : Hp} {ρ : List Sl} {δ : Dk} {ω : Os} {k : Nat} {f : Str} {x : OV} {v : V} {o : Ob} {p : Addr × Addr} {fs : List (Str × V)} (G : GoodO K cl F W σ H ρ δ ω) (ho : ω.o[k]? = some o) (hp : W.A[k]? = some p) (hH : H p.1 = some (.ins (cl o.c) p.2 fs)) (hfs : FsR K (Mo F W σ ρ) H W k fs o.fs) (r : OVR K (Mo F W σ ρ) H W v x) :
    GoodO K cl F W σ (upd H p.1 (.ins (cl o.c) p.2 (putF f v fs))) ρ δ (ω.put k ⟨o.c, putV f (.val x) o.fs⟩) ∧ Mv (Mo F W σ ρ) H (Mo F W σ ρ) (upd H p.1 (.ins (cl o.c) p.2 (putF f v fs))) := by
  have hm : p ∈ W.A := List.mem_of_getElem? hp
  have hrg : rg W p.1 := .inl ⟨p, hm, .inl rfl⟩
  have gro : Gro W H W (upd H p.1 (.ins (cl o.c) p.2 (putF f v fs))) := by
    refine ⟨fun _ h => h, fun a h n => absurd h n, fun a u n e => ?_, fun a ha => ?_⟩
    · rw [upd_ne fun z => n (by rw [z]; exact hrg)]; exact e
    · by_cases z : a = p.1
      · rw [z, upd_same]; exact trivial
      · rw [upd_ne z]; exact G.rgm ha
  obtain ⟨g, mv⟩ := Good.reo G.g gro G.nd
  have mv : Mv (Mo F W σ ρ) H (Mo F W σ ρ) (upd H p.1 (.ins (cl o.c) p.2 (putF f v fs))) := mv
  have hl : k < ω.o.length := (List.getElem?_eq_some_iff.mp ho).1
  have hc : ∀ (i : Nat) (f' : Str) (n : Nat) a u, W.C[n]? = some (a, i, f') → H a = some u → upd H p.1 (.ins (cl o.c) p.2 (putF f v fs)) a = some u := fun i f' n a u t q => by
    rw [upd_ne (G.dj p hm _ (List.mem_of_getElem? t)).1]; exact q
  refine ⟨⟨g, by show _ = (ω.o.set _ _).length; rw [List.length_set]; exact G.al, G.cn, G.ic, G.inj, fun i o' p' e1 e2 => ?_, fun q hq => ?_, G.nd, fun i b js e => ?_, G.fre, G.ext, G.dj, G.up⟩, mv⟩
  · have e1 : (ω.o.set k ⟨o.c, putV f (.val x) o.fs⟩)[i]? = some o' := e1
    by_cases hi : k = i
    · subst hi
      rw [List.getElem?_set_self hl] at e1
      cases e1
      rw [hp] at e2
      cases e2
      exact ⟨_, upd_same, FsR.put (y := .val x) (r.mv mv (ExtW.refl W)) (hfs.mv mv (ExtW.refl W) (hc k))⟩
    · rw [List.getElem?_set_ne hi] at e1
      obtain ⟨fs', h1, h2⟩ := G.ob i o' p' e1 e2
      refine ⟨fs', ?_, h2.mv mv (ExtW.refl W) (hc i)⟩
      rw [upd_ne fun z => hi (G.inj k i p p' hp e2 z.symm)]; exact h1
  · rw [upd_ne fun z => ?_]
    · exact G.od q hq
    · have := G.od q hq
      rw [z, hH] at this
      cases this
  · obtain ⟨w, e1, r1⟩ := G.sl i b js e
    exact ⟨w, e1, r1.mv mv (ExtW.refl W)⟩
section
variable {P : OPar} {X : Cx} {a b : Expr} {ma mb : MEo} {pos pos' : Pos}
def qSetF (c : Nat) (f : Str) (mo mv : MEo) : MSo := fun ρ δ ω => (mv ρ δ ω).bind fun p => match p with
  | (.inl x, δ1, ω1) => some (.inl x, ρ, δ1, ω1)
  | (.inr x, δ1, ω1) => (mo ρ δ1 ω1).bind fun q => match q with
    | (.inl x, δ2, ω2) => some (.inl x, ρ, δ2, ω2)
    | (.inr (.ob k), δ2, ω2) => (ω2.o[k]?).bind fun o => if o.c = c ∧ o.fs.length < 1000 then some (.inr .nx, ρ, δ2, ω2.put k ⟨o.c, putV f (.val x) o.fs⟩) else none
    | _ => none
theorem pdq_fld {c : Nat} {f : Str} (hc : Cls X.K (P.cl c)) (hf : NoAttr X.K (P.cl c) f) (ha : PDo P X a ma) (hb : PDo P X b mb) (hs : swapsWith b (some (.Attribute a f pos')) pos.line X.env = pure false := by rfl) : PDSo P X (.Assign [.Attribute a f pos'] b pos) (qSetF c f ma mb) := by
  obtain ⟨ta, p1, s1⟩ := ha.ex
  obtain ⟨tb, p2, s2⟩ := hb.ex
  refine ⟨fun WX => sFld X.K (ta WX) (tb WX) f, fun WX pn xe tk po => ps_fld (p1 WX pn xe tk po) (p2 WX pn xe tk po) hs, fun WX F W σ H ρ δ ω r ρ' δ' ω' G e D q => ?_⟩
  obtain ⟨⟨r1, δ1, ω1⟩, e1, e⟩ := Option.bind_eq_some_iff.mp e
  cases r1 with
  | inl x =>
    cases e
    exact s2 WX F W σ H ρ δ ω _ _ _ G e1 _ fun c d W' H' G' M' E' R' => q σ W' H' G' M' E' c d R'
  | inr x =>
    refine s2 WX F W σ H ρ δ ω _ _ _ G e1 _ fun v W1 H1 G1 M1 E1 R1 => ?_
    obtain ⟨⟨r2, δ2, ω2⟩, e2, e⟩ := Option.bind_eq_some_iff.mp e
    match r2, e2, e with
    | .inl y, e2, e =>
      cases e
      exact s1 WX F W1 σ H1 ρ δ1 ω1 _ _ _ G1 e2 _ fun c d W' H' G' M' E' R' => q σ W' H' G' (M1.trans M') (E1.trans E') c d R'
    | .inr (.ob k), e2, e =>
      refine s1 WX F W1 σ H1 ρ δ1 ω1 _ _ _ G1 e2 _ fun u W2 H2 G2 M2 E2 R2 => ?_
      obtain ⟨o, o1, e⟩ := Option.bind_eq_some_iff.mp e
      obtain ⟨p, a1, rfl⟩ := R2
      split at e
      · rename_i hz
        cases e
        obtain ⟨hoc, hlen⟩ := hz
        obtain ⟨fs, f1, f2⟩ := G2.ob k o p o1 a1
        obtain ⟨G3, M3⟩ := G2.fld (f := f) o1 a1 f1 f2 (R1.mv M2 E2)
        refine ⟨p.1, P.cl o.c, p.2, fs, rfl, f1, by rw [hoc]; exact hc, by rw [hoc]; exact hf, by rw [f2.len]; exact hlen, ?_⟩
        exact q σ W2 _ G3 ((M1.trans M2).trans M3) (E1.trans E2)
      · cases e
    | .inr (.dat d), e2, e => cases e
    | .inr (.obs js), e2, e => cases e
end
end PD
namespace PD
open PySem PySem.Spec PyProof.Rows L2
abbrev FnO := List OV → Os → Option (Rs OV × Os)
def δ0 : Dk := ⟨[], 0, [], none⟩
/-- the objects alone, no slots, no deck -/
def spO (P : OPar) (K : PySem.W.Frag) (m : FnO) : Sp := fun vs H Q E => ∃ (F : FrO) (W : OW) (xs : List OV) (ω : Os) (r : Rs OV) (ω' : Os), F.F.dk = none ∧ GoodO K P.cl F W [] H [] δ0 ω ∧ OVsR K (Mo F W [] []) H W vs xs ∧ m xs ω = some (r, ω') ∧
  match r with
  | .inl x => ∀ c d W' H', GoodO K P.cl F W' [] H' [] δ0 ω' → XvR P K (Mo F W' [] []) H' c d x → E c d H'
  | .inr y => ∀ v W' H', GoodO K P.cl F W' [] H' [] δ0 ω' → OVR K (Mo F W' [] []) H' W' v y → Q v H'
theorem Mo_nil {F : FrO} {W : OW} {a : Addr} (h : Mo F W [] [] a) : F.F.M0 a ∨ rg W a := by
  rcases h with h | ⟨i, w, h, _⟩
  · exact h
  · cases h
theorem GoodO.drop {K cl F W σ H ρ δ ω} (G : GoodO K cl F W σ H ρ δ ω) (hdk : F.F.dk = none) : GoodO K cl F W [] H [] δ0 ω ∧ Mv (Mo F W σ ρ) H (Mo F W [] []) H := by
  have mv : Mv (Mo F W σ ρ) H (Mo F W [] []) H := fun a o e n => ⟨e, fun z => n (.inl (Mo_nil z))⟩
  have hd : (FO F.F W H [] []).dk = none := hdk
  refine ⟨⟨⟨rfl, fun i d h => (nomatch h), fun i w h => (nomatch h), fun i j ds es a h => (nomatch h), G.g.m0, fun i h => (nomatch h), fun p h => (nomatch hd.symm.trans h), fun a o e n => G.g.fr a o e n⟩, G.al, G.cn, G.ic, G.inj, fun i o p e1 e2 => ?_, G.od, G.nd, fun i b js e => (nomatch e), G.fre, G.ext, G.dj, G.up⟩, mv⟩
  obtain ⟨fs, h1, h2⟩ := G.ob i o p e1 e2
  exact ⟨fs, h1, h2.mv mv (ExtW.refl W) fun f n a u t q => q⟩
theorem OVsR.length {K M H W} : ∀ {vs : List V} {xs : List OV}, OVsR K M H W vs xs → vs.length = xs.length
  | [], [], _ => rfl
  | v :: vs, x :: xs, r => by rw [List.length_cons, List.length_cons, OVsR.length r.2]
  | [], _ :: _, h => h.elim
  | _ :: _, [], h => h.elim
theorem OVsR.get {K M H W} : ∀ {vs : List V} {xs : List OV}, OVsR K M H W vs xs → ∀ {i : Nat} {x}, xs[i]? = some x → ∃ v, vs[i]? = some v ∧ OVR K M H W v x
  | v :: vs, x :: xs, r, 0, _, e => by cases e; exact ⟨v, rfl, r.1⟩
  | v :: vs, x :: xs, r, i + 1, y, e => by
    rw [List.getElem?_cons_succ] at e ⊢
    exact OVsR.get r.2 e
  | [], _ :: _, h, _, _, _ => h.elim
  | _ :: _, [], h, _, _, _ => h.elim
  | [], [], _, _, _, e => by cases e
theorem slO_own {x : OV} {w : Ow} (h : slO x = .own w) : False := by cases x <;> cases h
theorem slO_val {x : OV} {d : D} (h : slO x = .val d) : x = .dat d := by cases x <;> cases h; rfl
theorem slO_fix {x : OV} {k : Fx} (h : slO x = .fix k) : ∃ b js, k = .kp b js ∧ kv b js = x := by
  cases x with
  | dat d => cases h
  | ob k => cases h; exact ⟨_, _, rfl, rfl⟩
  | obs js => cases h; exact ⟨_, _, rfl, rfl⟩
/-- at a def's entry -/
theorem GoodO.enter {K cl F W H ω} {N : List Str} {vs : List V} {xs : List OV} (G : GoodO K cl F W [] H [] δ0 ω) (hdk : F.F.dk = none) (R : OVsR K (Mo F W [] []) H W vs xs) : GoodO K cl F W (start N vs) H (slots N.length (xs.map slO)) δ0 ω ∧ Mv (Mo F W [] []) H (Mo F W (start N vs) (slots N.length (xs.map slO))) H := by
  have sl : ∀ {i : Nat} {s : Sl}, (slots N.length (xs.map slO))[i]? = some s → (∃ x, xs[i]? = some x ∧ s = slO x) ∨ s = .no := fun {i s} h => by
    rcases slots_get h with h | h
    · rw [List.getElem?_map] at h
      obtain ⟨x, h1, h2⟩ := Option.map_eq_some_iff.mp h
      exact .inl ⟨x, h1, h2.symm⟩
    · exact .inr h
  have mv : Mv (Mo F W [] []) H (Mo F W (start N vs) (slots N.length (xs.map slO))) H := fun a o e n => ⟨e, fun z => by
    rcases z with z | ⟨i, w, z, _⟩
    · exact n (.inl z)
    · rcases sl z with ⟨x, _, h⟩ | h
      · exact slO_own h.symm
      · cases h⟩
  have hd : (FO F.F W H (start N vs) (slots N.length (xs.map slO))).dk = none := hdk
  refine ⟨⟨⟨?_, fun i d h => ?_, fun i w h => ?_, fun i j ds es a h => ?_, G.g.m0, fun {k} i h => ?_, fun p h => (nomatch hd.symm.trans h), fun a o e n => G.g.fr a o e n⟩, G.al, G.cn, G.ic, G.inj, fun i o p e1 e2 => ?_, G.od, G.nd, fun i b js e => ?_, G.fre, G.ext, G.dj, G.up⟩, mv⟩
  · unfold L2.start slots
    simp only [List.length_append, List.length_map, List.length_replicate, R.length]
  · rcases sl h with ⟨x, h1, h2⟩ | h2
    · obtain rfl := slO_val h2.symm
      obtain ⟨v, g1, g2⟩ := R.get h1
      exact ⟨v, start_get g1, Rep.mv mv g2⟩
    · cases h2
  · rcases sl h with ⟨x, _, h⟩ | h
    · exact (slO_own h.symm).elim
    · cases h
  · rcases sl h with ⟨x, _, h⟩ | h
    · exact (slO_own h.symm).elim
    · cases h
  · rcases sl h with ⟨x, h1, h2⟩ | h2
    · obtain ⟨b, js, rfl, e⟩ := slO_fix h2.symm
      obtain ⟨v, g1, g2⟩ := R.get h1
      exact ⟨v, start_get g1, i, h, start_get g1⟩
    · cases h2
  · obtain ⟨fs, h1, h2⟩ := G.ob i o p e1 e2
    exact ⟨fs, h1, h2.mv mv (ExtW.refl W) fun f n a u t q => q⟩
  · rcases sl e with ⟨x, h1, h2⟩ | h2
    · obtain ⟨b', js', hk, e'⟩ := slO_fix h2.symm
      cases hk
      obtain ⟨v, g1, g2⟩ := R.get h1
      exact ⟨v, start_get g1, by rw [e']; exact g2.mv mv (ExtW.refl W)⟩
    · cases h2
theorem XvR.sub {P : OPar} {K : PySem.W.Frag} {M M' : Addr → Prop} {H : Hp} {c : Value} {d : Option Addr} {x : Xv} (h : Mv M H M' H) (r : XvR P K M H c d x) : XvR P K M' H c d x := by
  obtain ⟨r1, r2⟩ := r
  refine ⟨r1, r2.imp id fun r2 => ?_⟩
  obtain ⟨a, vs, e1, e2, e3, e4⟩ := r2
  exact ⟨a, vs, e1, e2, e3, e4.mv h⟩
def outO (o : Option (Rs FlO × List Sl × Dk × Os)) : Option (Rs OV × Os) := o.bind fun p => match p.1 with
  | .inl x => some (.inl x, p.2.2.2)
  | .inr .nx => some (.inr (.dat .none), p.2.2.2)
  | .inr (.rt v) => some (.inr v, p.2.2.2)
  | _ => none
def fnO (n np : Nat) (s : MSo) : FnO := fun xs ω => if xs.length = np ∧ np ≤ n then outO (s (slots n (xs.map slO)) δ0 ω) else none
section
variable {P : Program} {w : World} {K : PySem.W.Frag} {mg : Str → Option Value} {base : Heap}
theorem okXo {x qual : Str} {st : Stmt} {f : Addr} {fd : FuncData} {N ps : List Str} {k : Nat} {sp : Sp} (F : Fun K x qual st f fd) (S : FnScope N ps (defScope st)) (len : ∀ vs H Q E, sp vs H Q E → vs.length = ps.length)
    (body : ∀ (cdv : Value) (A : Around) (outer : List Env) (s : Shared) (H : Hp) (vs : List V) (Q : VK) (E : XK), Room k (A.deeper (envOfC qual (defScope st) s.heap.objs.size f cdv)) → sp vs H Q E →
      ∃ t, PSs (cxOf (L2.CX P w) P w K mg base N qual (defScope st) f cdv A outer s H E) (defBody st) t ∧ t { nx := fun _ H' => Q .non H', rt := Q } (start N vs) H) : FnOk P w K mg base (L2.CX P w) (k + 1) f fd ps sp := by
  have hF := F.ex
  obtain ⟨oc, od, kV, doc, pm, an, cdv, ct, osl, rfl, lk, hcd⟩ := hF
  exact fn_of lk hcd S len fun A outer s H vs Q E hr z => body cdv A outer s H vs Q E hr z
theorem okO {PP : OPar} {x qual : Str} {st : Stmt} {f : Addr} {fd : FuncData} {N ps : List Str} {k : Nat} {s : MSo} (F : Fun K x qual st f fd) (S : FnScope N ps (defScope st)) (hn : ps.length ≤ N.length)
    (hb : ∀ (cdv : Value) (A : Around) (outer : List Env) (s0 : Shared) (H : Hp) (E : XK), Room k (A.deeper (envOfC qual (defScope st) s0.heap.objs.size f cdv)) → PDSso PP (cxOf (L2.CX P w) P w K mg base N qual (defScope st) f cdv A outer s0 H E) (defBody st) s) :
    FnOk P w K mg base (L2.CX P w) (k + 1) f fd ps (spO PP K (fnO N.length ps.length s)) := by
  refine okXo F S (fun vs H Q E h => ?_) (fun cdv A outer s0 H vs Q E hr h => ?_)
  · obtain ⟨F, W, xs, ω, r, ω', _, _, R, hm, _⟩ := h
    unfold fnO at hm
    split at hm
    · rename_i hz; rw [R.length]; exact hz.1
    · cases hm
  · obtain ⟨F, W, xs, ω, r, ω', hdk, G, R, hm, q⟩ := h
    unfold fnO at hm
    split at hm
    · obtain ⟨t, p1, s1⟩ := (hb cdv A outer s0 H E hr).ex
      obtain ⟨⟨r1, ρ1, δ1, ω1⟩, e1, hm⟩ := Option.bind_eq_some_iff.mp hm
      obtain ⟨G1, M1⟩ := G.enter (N := N) hdk R
      refine ⟨t (fun c d _ H' => E c d H'), p1 _ _ _ (takes_of rfl rfl rfl rfl) (passes_of rfl), s1 _ F W _ H _ _ ω _ _ _ _ G1 e1 _ fun σ' W' H' G' M' E' => ?_⟩
      obtain ⟨G2, M2⟩ := G'.drop hdk
      match r1, hm with
      | .inl x, hm =>
        cases hm
        exact fun c d R' => q c d W' H' G2 (R'.sub M2)
      | .inr .nx, hm => cases hm; exact q _ W' H' G2 .non
      | .inr (.rt v), hm => cases hm; exact fun u R' => q u W' H' G2 (R'.mv M2 (ExtW.refl W'))
      | .inr .bk, hm => cases hm
      | .inr .ct, hm => cases hm
    · cases hm
end
theorem GoodO.mm {K cl F W σ H ρ δ ω} (G : GoodO K cl F W σ H ρ δ ω) : ∀ a, Mo F W σ ρ a → mtO (H a) := G.g.mm
/-- what the callee sees -/
def callF (F : FrO) (W : OW) (σ : L2.St) (H : Hp) (ρ : List Sl) : FrO := ⟨⟨Mo F W σ ρ, none, H, F.F.n, fun _ _ _ => False⟩, W⟩
theorem GoodO.call {K cl F W σ H ρ δ ω} (G : GoodO K cl F W σ H ρ δ ω) : GoodO K cl (callF F W σ H ρ) W [] H [] δ0 ω ∧ Mv (Mo F W σ ρ) H (Mo (callF F W σ H ρ) W [] []) H := by
  have sub : ∀ a, Mo (callF F W σ H ρ) W [] [] a → Mo F W σ ρ a := fun a z => (Mo_nil z).elim id fun z => .inl (.inr z)
  have mv : Mv (Mo F W σ ρ) H (Mo (callF F W σ H ρ) W [] []) H := fun a o e n => ⟨e, fun z => n (sub a z)⟩
  refine ⟨⟨⟨rfl, fun i d h => (nomatch h), fun i w h => (nomatch h), fun i j ds es a h => (nomatch h), fun a h => G.mm a (sub a (.inl h)), fun i h => (nomatch h), fun p h => (nomatch h), fun a o e n => ?_⟩, G.al, G.cn, G.ic, G.inj, fun i o p e1 e2 => ?_, G.od, fun p h => (nomatch h), fun i b js e => (nomatch e), fun a h => .inl h, ExtW.refl W, G.dj, fun a h => h⟩, mv⟩
  · by_cases z : rg W a
    · rw [FO_in z] at e; exact e
    · rw [FO_out z] at e; exact e
  · obtain ⟨fs, h1, h2⟩ := G.ob i o p e1 e2
    exact ⟨fs, h1, h2.mv mv (ExtW.refl W) fun f n a u t q => q⟩
theorem GoodO.back {K cl F W σ H ρ δ ω W' H' ω'} (G : GoodO K cl F W σ H ρ δ ω) (C : GoodO K cl (callF F W σ H ρ) W' [] H' [] δ0 ω') : GoodO K cl F W' σ H' ρ δ ω' ∧ Mv (Mo F W σ ρ) H (Mo F W' σ ρ) H' ∧ ExtW W W' ∧ Mv (Mo (callF F W σ H ρ) W' [] []) H' (Mo F W' σ ρ) H' := by
  have new : ∀ a, rg W' a → ¬ rg W a → H a = none := fun a h n => (C.fre a h).resolve_left n
  have keep : ∀ a o, ¬ rg W' a → H a = some o → H' a = some o := fun a o n e => C.g.fr a o (by rw [FO_out n]; exact e) fun p h => (nomatch h)
  obtain ⟨g, mv⟩ := Good.reo G.g (W' := W') (H' := H') ⟨C.up, new, keep, fun a h => C.rgm h⟩ G.nd
  have mv : Mv (Mo F W σ ρ) H (Mo F W' σ ρ) H' := mv
  have mb : Mv (Mo (callF F W σ H ρ) W' [] []) H' (Mo F W' σ ρ) H' := fun a o e n => ⟨e, fun z => n (by
    rcases z with (z | z) | z
    · exact .inl (.inl (.inl (.inl z)))
    · exact .inl (.inr z)
    · exact .inl (.inl (.inr z)))⟩
  have cell : ∀ a, ¬ rg W a → (∃ o, H a = some o) → ¬ rg W' a := fun a n ⟨o, e⟩ z => by
    have := new a z n
    rw [e] at this; cases this
  have ext : ExtW W W' := C.ext
  have dkc : ∀ p, F.F.dk = some p → ¬ rg W p.1 ∧ ¬ rg W p.2 ∧ ¬ rg W p.3 ∧ (∃ o, H p.1 = some o) ∧ (∃ o, H p.2 = some o) ∧ ∃ o, H p.3 = some o := fun p e => by
    obtain ⟨n1, n2, n3⟩ := G.nd p e
    obtain ⟨_, _, _, D⟩ := G.g.dck p e
    obtain ⟨u, eu, _⟩ := D.is2
    exact ⟨n1, n2, n3, ⟨_, D.one⟩, ⟨u, eu⟩, ⟨_, D.tri⟩⟩
  refine ⟨⟨g, C.al, C.cn, C.ic, C.inj, fun i o p e1 e2 => ?_, C.od, fun p e => ?_, fun i b js e => ?_, fun a h => ?_, G.ext.trans ext, C.dj, fun a h => C.up a (G.up a h)⟩, mv, ext, mb⟩
  · obtain ⟨fs, h1, h2⟩ := C.ob i o p e1 e2
    exact ⟨fs, h1, h2.mv mb (ExtW.refl W') fun f n a u t q => q⟩
  · obtain ⟨n1, n2, n3, c1, c2, c3⟩ := dkc p e
    exact ⟨cell _ n1 c1, cell _ n2 c2, cell _ n3 c3⟩
  · obtain ⟨v, e1, r⟩ := G.sl i b js e
    exact ⟨v, e1, r.mv mv ext⟩
  · by_cases z : rg W a
    · exact G.fre a z
    · refine .inr ?_
      have e0 := new a h z
      cases e : F.F.H0 a with
      | none => rfl
      | some o =>
        have := G.g.fr a o (by rw [FO_out z]; exact e) fun p hp => by
          obtain ⟨_, _, _, ⟨_, c1⟩, ⟨_, c2⟩, ⟨_, c3⟩⟩ := dkc p hp
          exact ⟨fun y => (by rw [y, c1] at e0; cases e0), fun y => (by rw [y, c2] at e0; cases e0), fun y => (by rw [y, c3] at e0; cases e0)⟩
        rw [e0] at this; cases this
section
variable {P : OPar} {X : Cx} {e : Expr} {es : List Expr} {r : MAo} {pos : Pos}
/-- the call itself, once its arguments stand -/
theorem spo_run {K : PySem.W.Frag} {m : FnO} {WX : L2.WX} {F : FrO} {W : OW} {σ : L2.St} {H : Hp} {ρ : List Sl} {δ : Dk} {ω ω' : Os} {vs : List V} {xs : List OV} {rr : Rs OV} {Q : VK} (G : GoodO K P.cl F W σ H ρ δ ω) (R : OVsR K (Mo F W σ ρ) H W vs xs) (e : m xs ω = some (rr, ω')) (q : PostO P K F σ ρ δ ω' WX Q W H rr) : spO P K m vs H Q (L2.WE WX σ) := by
  obtain ⟨C, M1⟩ := G.call
  refine ⟨callF F W σ H ρ, W, xs, ω, rr, ω', rfl, C, R.mv M1 (ExtW.refl W), e, ?_⟩
  cases rr with
  | inl x =>
    intro c d W' H' C' R'
    obtain ⟨G2, M2, E2, B2⟩ := G.back C'
    exact q c d W' H' G2 M2 E2 (R'.sub B2)
  | inr y =>
    intro v W' H' C' R'
    obtain ⟨G2, M2, E2, B2⟩ := G.back C'
    exact q v W' H' G2 M2 E2 (R'.mv B2 (ExtW.refl W'))
end
end PD
namespace L2
open PySem PySem.Spec PyProof.Rows
section
variable {X : Cx} {CX : CXT} {k : Nat} {f C : Addr} {fd : FuncData} {ps : List Str} {sp : Sp} {E : St → XK} {m : Str} {pos apos : Pos} {e o : Expr} {es : List Expr} {ta : TE} {t : TA}
/-- o.m(e, ..), that may raise -/
def tMethQ (C : Addr) (m : Str) (sp : Sp) (E : St → XK) (ta : TE) (t : TA) : TE := fun σ H Q => ta σ H fun x H1 => ∃ a dx fs, x = .ref a ∧ H1 a = some (.ins C dx fs) ∧ fs.lookup m = none ∧ t σ H1 fun vs H2 => sp (x :: vs) H2 Q (E σ)
theorem pe_methQ {pl : Sem Bool} (he : PE X o ta) (c : Cls X.K C) (hm : Meth X.K C m f) (F : FnOk X.prog X.w X.K X.mg X.base CX k f fd ps sp) (hr : Room k X.A) (hb : Binds X.K fd ps []) (hx : ∀ σ, PassesAt CX X σ (E σ)) (ha : PA X (e :: es) t)
    (hst : starEach (e :: es) X.env = (false, eval e X.env) :: starEach es X.env := by rfl) (hpl : (backTo pos (starEach es X.env)).any (·.1) = false := by rfl)
    (ht : eval (.Call (.Attribute o m apos) (e :: es) [] pos) X.env = (do
      let ov ← eval o X.env
      standAt apos.atName
      let (f, first) ← holding [ov] (getMethod ov m pl)
      callWith pos f first (backTo pos (starEach (e :: es) X.env)) (backToKw pos (keywordEach [] X.env))) := by rfl) :
    PE X (.Call (.Attribute o m apos) (e :: es) [] pos) (tMethQ C m sp E ta t) := by
  refine ⟨fun pins s σ H Q I h => ?_⟩
  refine PySem.W.methodCall_KW (pl := pl) (thn (he.run pins s σ H _ I h) fun u s1 ⟨x, H1, I1, rx, a, dx, fs, ex, ea, l, q⟩ => ?_) ht
  subst ex
  obtain rfl : u = Value.ref a := rx
  refine getmeth_ok I1 ea c hm l ?_
  refine PySem.W.callWith_K (first := [.ref a]) (h₀ := X.base) I.ok.mod.kin hm.kp (thn (ha.run pos pins s1 σ H1 _ I1 q) fun us s2 ⟨vs, H2, I2, r, q2⟩ => ⟨I2.kIn, ?_⟩) hst hpl
  exact run_fnS (us := .ref a :: us) (vs := .ref a :: vs) F hr hb (hx σ) I2 (.cons rfl r) q2
theorem pe_methQ0 {pl : Sem Bool} (he : PE X o ta) (c : Cls X.K C) (hm : Meth X.K C m f) (F : FnOk X.prog X.w X.K X.mg X.base CX k f fd ps sp) (hr : Room k X.A) (hb : Binds X.K fd ps []) (hx : ∀ σ, PassesAt CX X σ (E σ))
    (ht : eval (.Call (.Attribute o m apos) [] [] pos) X.env = (do
      let ov ← eval o X.env
      standAt apos.atName
      let (f, first) ← holding [ov] (getMethod ov m pl)
      callWith pos f first (backTo pos (starEach [] X.env)) (backToKw pos (keywordEach [] X.env))) := by rfl) :
    PE X (.Call (.Attribute o m apos) [] [] pos) (tMethQ C m sp E ta tNil) := by
  refine ⟨fun pins s σ H Q I h => ?_⟩
  refine PySem.W.methodCall_KW (pl := pl) (thn (he.run pins s σ H _ I h) fun u s1 ⟨x, H1, I1, rx, a, dx, fs, ex, ea, l, q⟩ => ?_) ht
  subst ex
  obtain rfl : u = Value.ref a := rx
  refine getmeth_ok I1 ea c hm l ?_
  exact PySem.W.callWith_K0 (first := [.ref a]) I1.kIn hm.kp (run_fnS (us := [.ref a]) (vs := [.ref a]) F hr hb (hx σ) I1 (.cons rfl .nil) q)
end
end L2
namespace PD
open PySem PySem.Spec PyProof.Rows L2
section
variable {P : OPar} {X : Cx} {o e : Expr} {es : List Expr} {mo : MEo} {r : MAo} {pos apos : Pos}
def mMethO (c : Nat) (nm : Str) (m : FnO) (mo : MEo) (r : MAo) : MEo := fun ρ δ ω => (mo ρ δ ω).bind fun p => match p with
  | (.inl x, δ1, ω1) => some (.inl x, δ1, ω1)
  | (.inr (.ob k), δ1, ω1) => (ω1.o[k]?).bind fun o => if o.c = c ∧ (o.fs.map (·.1)).contains nm = false then (r ρ δ1 ω1).bind fun q => match q with
      | (.inl x, δ2, ω2) => some (.inl x, δ2, ω2)
      | (.inr xs, δ2, ω2) => (m (.ob k :: xs) ω2).map fun z => (z.1, δ2, z.2)
    else none
  | _ => none
theorem FsR.no {K M H W} {i : Nat} {f : Str} : ∀ {xs ys}, FsR K M H W i xs ys → (ys.map (·.1)).contains f = false → xs.lookup f = none
  | [], [], _, _ => rfl
  | x :: xs, y :: ys, r, h => by
    obtain ⟨x1, x2⟩ := x
    obtain ⟨y1, y2⟩ := y
    obtain ⟨⟨e1, r1⟩, r2⟩ := r
    have e1 : x1 = y1 := e1
    subst e1
    rw [List.map_cons, List.contains_cons, Bool.or_eq_false_iff] at h
    have h1 : (f == x1) = false := h.1
    rw [List.lookup_cons, h1]
    exact FsR.no r2 h.2
  | [], _ :: _, h, _ => h.elim
  | _ :: _, [], h, _ => h.elim
theorem sndo_meth {c : Nat} {nm : Str} {m : FnO} {to : L2.WX → TE} {ta : L2.WX → TA} (so : SndO P X.K to mo) (sa : SndAO P X.K ta r) : SndO P X.K (fun WX => tMethQ (P.cl c) nm (spO P X.K m) (L2.WE WX) (to WX) (ta WX)) (mMethO c nm m mo r) := fun WX F W σ H ρ δ ω rr δ' ω' G e Q q => by
  obtain ⟨⟨r1, δ1, ω1⟩, e1, e⟩ := Option.bind_eq_some_iff.mp e
  match r1, e1, e with
  | .inl x, e1, e =>
    cases e
    exact so WX F W σ H ρ δ ω _ _ _ G e1 _ q
  | .inr (.ob k), e1, e =>
    refine so WX F W σ H ρ δ ω _ _ _ G e1 _ fun v W1 H1 G1 M1 E1 R1 => ?_
    obtain ⟨p, a1, rfl⟩ := R1
    obtain ⟨o, o1, e⟩ := Option.bind_eq_some_iff.mp e
    split at e
    · rename_i hz
      obtain ⟨hoc, hno⟩ := hz
      obtain ⟨fs, f1, f2⟩ := G1.ob k o p o1 a1
      refine ⟨p.1, p.2, fs, rfl, by rw [← hoc]; exact f1, f2.no hno, ?_⟩
      obtain ⟨⟨r2, δ2, ω2⟩, e2, e⟩ := Option.bind_eq_some_iff.mp e
      cases r2 with
      | inl x =>
        cases e
        exact sa WX F W1 σ H1 ρ δ1 ω1 _ _ _ G1 e2 _ (Out.mv q M1 E1)
      | inr xs =>
        obtain ⟨⟨z, ω3⟩, e3, e⟩ := Option.map_eq_some_iff.mp e
        cases e
        refine sa WX F W1 σ H1 ρ δ1 ω1 _ _ _ G1 e2 _ fun vs W2 H2 G2 M2 E2 R2 => ?_
        refine spo_run (P := P) (WX := WX) (xs := .ob k :: xs) G2 ⟨⟨p, E2.a _ _ a1, rfl⟩, R2⟩ e3 ?_
        cases z with
        | inl x => exact Out.mv q (M1.trans M2) (E1.trans E2)
        | inr y => exact fun v W' H' G' M' E' R' => q v W' H' G' ((M1.trans M2).trans M') ((E1.trans E2).trans E') R'
    · cases e
  | .inr (.dat d), e1, e => cases e
  | .inr (.obs js), e1, e => cases e
theorem pdo_meth {pl : Sem Bool} {c : Nat} {nm : Str} {f : Addr} {fd : FuncData} {ps : List Str} {k : Nat} {m : FnO} (hc : Cls X.K (P.cl c)) (hm : Meth X.K (P.cl c) nm f) (Fn : FnOk X.prog X.w X.K X.mg X.base (L2.CX X.prog X.w) k f fd ps (spO P X.K m)) (hr : Room k X.A) (hb : Binds X.K fd ps [])
    (ho : PDo P X o mo) (ha : PDAo P X (e :: es) r) (hst : starEach (e :: es) X.env = (false, eval e X.env) :: starEach es X.env := by rfl) (hpl : (backTo pos (starEach es X.env)).any (·.1) = false := by rfl)
    (ht : eval (.Call (.Attribute o nm apos) (e :: es) [] pos) X.env = (do
      let ov ← eval o X.env
      standAt apos.atName
      let (f, first) ← holding [ov] (getMethod ov nm pl)
      callWith pos f first (backTo pos (starEach (e :: es) X.env)) (backToKw pos (keywordEach [] X.env))) := by rfl) : PDo P X (.Call (.Attribute o nm apos) (e :: es) [] pos) (mMethO c nm m mo r) := by
  obtain ⟨to, po', so⟩ := ho.ex
  obtain ⟨ta, pa, sa⟩ := ha.ex
  exact ⟨_, fun WX pn xe tk po => pe_methQ (X := X.tr pn xe) (pl := pl) (po' WX pn xe tk po) hc hm Fn hr hb (fun σ => passAt tk σ) (pa WX pn xe tk po) hst hpl ht, sndo_meth so sa⟩
theorem pdo_meth0 {pl : Sem Bool} {c : Nat} {nm : Str} {f : Addr} {fd : FuncData} {ps : List Str} {k : Nat} {m : FnO} (hc : Cls X.K (P.cl c)) (hm : Meth X.K (P.cl c) nm f) (Fn : FnOk X.prog X.w X.K X.mg X.base (L2.CX X.prog X.w) k f fd ps (spO P X.K m)) (hr : Room k X.A) (hb : Binds X.K fd ps [])
    (ho : PDo P X o mo)
    (ht : eval (.Call (.Attribute o nm apos) [] [] pos) X.env = (do
      let ov ← eval o X.env
      standAt apos.atName
      let (f, first) ← holding [ov] (getMethod ov nm pl)
      callWith pos f first (backTo pos (starEach [] X.env)) (backToKw pos (keywordEach [] X.env))) := by rfl) : PDo P X (.Call (.Attribute o nm apos) [] [] pos) (mMethO c nm m mo oNil) := by
  obtain ⟨to, po', so⟩ := ho.ex
  obtain ⟨ta, pa, sa⟩ := (pdao_nil (P := P) (X := X)).ex
  refine ⟨fun WX => tMethQ (P.cl c) nm (spO P X.K m) (L2.WE WX) (to WX) tNil, fun WX pn xe tk po => pe_methQ0 (X := X.tr pn xe) (pl := pl) (po' WX pn xe tk po) hc hm Fn hr hb (fun σ => passAt tk σ) ht, sndo_meth (ta := fun _ => tNil) so fun WX F W σ H ρ δ ω r δ' ω' G e Q q => ?_⟩
  cases e
  exact q [] W H G (Mv.refl _ _) (ExtW.refl W) trivial
def OW.add (W : OW) (p : Addr × Addr) : OW := ⟨W.A ++ [p], W.C⟩
theorem rg_add {W : OW} {p : Addr × Addr} {a : Addr} : rg (W.add p) a ↔ rg W a ∨ a = p.1 ∨ a = p.2 := by
  constructor
  · rintro (⟨q, hq, h⟩ | h)
    · rcases List.mem_append.mp hq with hq | hq
      · exact .inl (.inl ⟨q, hq, h⟩)
      · obtain rfl := List.mem_singleton.mp hq
        exact .inr h
    · exact .inl (.inr h)
  · rintro ((⟨q, hq, h⟩ | h) | h)
    · exact .inl ⟨q, List.mem_append_left _ hq, h⟩
    · exact .inr h
    · exact .inl ⟨p, List.mem_append_right _ (List.mem_singleton.mpr rfl), h⟩
theorem GoodO.made {K cl F W σ H ρ δ ω} (G : GoodO K cl F W σ H ρ δ ω) {x dx : Addr} (c : Nat) (h1 : H x = none) (h2 : H dx = none) (h3 : dx ≠ x) : GoodO K cl F (W.add (x, dx)) σ (upd (upd H dx (.own x)) x (.ins (cl c) dx [])) ρ δ (ω.add ⟨c, []⟩) ∧ Mv (Mo F W σ ρ) H (Mo F (W.add (x, dx)) σ ρ) (upd (upd H dx (.own x)) x (.ins (cl c) dx [])) ∧ ExtW W (W.add (x, dx)) := by
  have ne : ∀ a, (∃ o, H a = some o) → a ≠ x ∧ a ≠ dx := fun a ⟨o, e⟩ => ⟨fun z => (by rw [z, h1] at e; cases e), fun z => (by rw [z, h2] at e; cases e)⟩
  have kp : ∀ a o, H a = some o → upd (upd H dx (.own x)) x (.ins (cl c) dx []) a = some o := fun a o e => by
    obtain ⟨n1, n2⟩ := ne a ⟨o, e⟩
    rw [upd_ne n1, upd_ne n2]; exact e
  have some_of : ∀ a, rg W a → ∃ o, H a = some o := fun a h => by
    cases e : H a with
    | none => exact absurd e (G.rgm h).ne
    | some o => exact ⟨o, rfl⟩
  have gro : Gro W H (W.add (x, dx)) (upd (upd H dx (.own x)) x (.ins (cl c) dx [])) := by
    refine ⟨fun a h => rg_add.mpr (.inl h), fun a h n => ?_, fun a o _ e => kp a o e, fun a h => ?_⟩
    · rcases rg_add.mp h with h | h | h
      · exact absurd h n
      · rw [h]; exact h1
      · rw [h]; exact h2
    · rcases rg_add.mp h with h | h | h
      · exact (G.rgm h).keep (kp a)
      · rw [h]
        show mtO (upd (upd H dx (.own x)) x (.ins (cl c) dx []) x)
        rw [upd_same]; trivial
      · rw [h]
        show mtO (upd (upd H dx (.own x)) x (.ins (cl c) dx []) dx)
        rw [upd_ne h3, upd_same]; trivial
  obtain ⟨g, mv⟩ := Good.reo G.g gro G.nd
  have mv : Mv (Mo F W σ ρ) H (Mo F (W.add (x, dx)) σ ρ) (upd (upd H dx (.own x)) x (.ins (cl c) dx [])) := mv
  have ext : ExtW W (W.add (x, dx)) := ⟨fun i p h => by
    have hl := (List.getElem?_eq_some_iff.mp h).1
    show (W.A ++ [(x, dx)])[i]? = some p
    rw [List.getElem?_append_left hl]; exact h, fun _ _ h => h⟩
  have spl : ∀ (i : Nat) (p : Addr × Addr), (W.add (x, dx)).A[i]? = some p → W.A[i]? = some p ∨ (i = W.A.length ∧ p = (x, dx)) := fun i p h => by
    have h : (W.A ++ [(x, dx)])[i]? = some p := h
    rcases Nat.lt_or_ge i W.A.length with hl | hl
    · rw [List.getElem?_append_left hl] at h; exact .inl h
    · rw [List.getElem?_append_right hl] at h
      refine .inr ?_
      match hi : i - W.A.length, h with
      | 0, h => cases h; exact ⟨by omega, rfl⟩
      | n + 1, h => cases h
  have cellA : ∀ p ∈ W.A, (∃ o, H p.1 = some o) ∧ ∃ o, H p.2 = some o := fun p hp => ⟨some_of _ (.inl ⟨p, hp, .inl rfl⟩), some_of _ (.inl ⟨p, hp, .inr rfl⟩)⟩
  have noow : ∀ a, H a = none → ∀ q ∈ W.C, q.1 ≠ a := fun a e q hq z => absurd e (G.rgm (.inr ⟨q, hq, z.symm⟩)).ne
  refine ⟨⟨g, ?_, G.cn, G.ic, fun i j p q e1 e2 e3 => ?_, fun i o p e1 e2 => ?_, fun p hp => ?_, fun p e => ?_, fun i b js e => ?_, fun a h => ?_, G.ext.trans ext, fun p hp => ?_, fun a h => rg_add.mpr (.inl (G.up a h))⟩, mv, ext⟩
  · show (W.A ++ [(x, dx)]).length = (ω.o ++ [_]).length
    rw [List.length_append, List.length_append, G.al]; rfl
  · rcases spl i p e1 with e1 | ⟨i1, rfl⟩
    · rcases spl j q e2 with e2 | ⟨j1, rfl⟩
      · exact G.inj i j p q e1 e2 e3
      · have := (cellA p (List.mem_of_getElem? e1)).1
        exact absurd e3 (ne _ this).1
    · rcases spl j q e2 with e2 | ⟨j1, rfl⟩
      · have := (cellA q (List.mem_of_getElem? e2)).1
        exact absurd e3.symm (ne _ this).1
      · rw [i1, j1]
  · rcases spl i p e2 with e2 | ⟨i1, rfl⟩
    · have hl : i < ω.o.length := by rw [← G.al]; exact (List.getElem?_eq_some_iff.mp e2).1
      have e1 : (ω.o ++ [⟨c, []⟩])[i]? = some o := e1
      rw [List.getElem?_append_left hl] at e1
      obtain ⟨fs, f1, f2⟩ := G.ob i o p e1 e2
      exact ⟨fs, kp _ _ f1, f2.mv mv ext fun f n a u t q => kp _ _ q⟩
    · have e1 : (ω.o ++ [⟨c, []⟩])[i]? = some o := e1
      rw [i1, G.al, List.getElem?_append_right (Nat.le_refl _), Nat.sub_self] at e1
      cases e1
      exact ⟨[], upd_same, trivial⟩
  · rcases List.mem_append.mp hp with hp | hp
    · exact kp _ _ (G.od p hp)
    · obtain rfl := List.mem_singleton.mp hp
      show upd (upd H dx (.own x)) x (.ins (cl c) dx []) dx = _
      rw [upd_ne h3, upd_same]
  · obtain ⟨n1, n2, n3⟩ := G.nd p e
    obtain ⟨_, _, _, D⟩ := G.g.dck p e
    obtain ⟨u, eu, _⟩ := D.is2
    have c1 := ne p.1 ⟨_, D.one⟩
    have c2 := ne p.2 ⟨_, eu⟩
    have c3 := ne p.3 ⟨_, D.tri⟩
    exact ⟨fun z => (rg_add.mp z).elim n1 fun z => z.elim c1.1 c1.2, fun z => (rg_add.mp z).elim n2 fun z => z.elim c2.1 c2.2, fun z => (rg_add.mp z).elim n3 fun z => z.elim c3.1 c3.2⟩
  · obtain ⟨v, e1, r⟩ := G.sl i b js e
    exact ⟨v, e1, r.mv mv ext⟩
  · have fresh : ∀ a, H a = none → ¬ rg W a → F.F.H0 a = none := fun a e0 n => by
      cases e : F.F.H0 a with
      | none => rfl
      | some o =>
        have := G.g.fr a o (by rw [FO_out n]; exact e) fun p hp => by
          obtain ⟨_, _, _, D⟩ := G.g.dck p hp
          obtain ⟨u, eu, _⟩ := D.is2
          exact ⟨fun y => (by rw [y, D.one] at e0; cases e0), fun y => (by rw [y, eu] at e0; cases e0), fun y => (by rw [y, D.tri] at e0; cases e0)⟩
        rw [e0] at this; cases this
    have nrg : ∀ a, H a = none → ¬ rg W a := fun a e0 z => absurd e0 (G.rgm z).ne
    rcases rg_add.mp h with h | h | h
    · exact G.fre a h
    · rw [h]; exact .inr (fresh _ h1 (nrg _ h1))
    · rw [h]; exact .inr (fresh _ h2 (nrg _ h2))
  · rcases List.mem_append.mp hp with hp | hp
    · exact G.dj p hp
    · obtain rfl := List.mem_singleton.mp hp
      exact fun q hq => ⟨noow _ h1 q hq, noow _ h2 q hq⟩
theorem passE {Y : Cx} : Passes (L2.CX Y.prog Y.w) Y E0 := fun _ _ _ _ _ _ _ h => by
  obtain ⟨_, _, _, _, _, _, _, _, _, _, _, _, z⟩ := h
  exact z.elim
def mMakeO (c : Nat) (m : FnO) (r : MAo) : MEo := fun ρ δ ω => (r ρ δ ω).bind fun p => match p with
  | (.inl x, δ1, ω1) => some (.inl x, δ1, ω1)
  | (.inr xs, δ1, ω1) => (m (.ob ω1.o.length :: xs) (ω1.add ⟨c, []⟩)).bind fun z => match z.1 with
    | .inr (.dat .none) => some (.inr (.ob ω1.o.length), δ1, z.2)
    | _ => none
theorem sndo_make {c : Nat} {m : FnO} {ta : L2.WX → TA} (sa : SndAO P X.K ta r) : SndO P X.K (fun WX => tMake (P.cl c) (spO P X.K m) [] E0 (ta WX)) (mMakeO c m r) := fun WX F W σ H ρ δ ω rr δ' ω' G e Q q => by
  obtain ⟨⟨r1, δ1, ω1⟩, e1, e⟩ := Option.bind_eq_some_iff.mp e
  cases r1 with
  | inl x =>
    cases e
    exact sa WX F W σ H ρ δ ω _ _ _ G e1 _ q
  | inr xs =>
    refine sa WX F W σ H ρ δ ω _ _ _ G e1 _ fun vs W1 H1 G1 M1 E1 R1 => ?_
    obtain ⟨⟨z, ω2⟩, e2, e⟩ := Option.bind_eq_some_iff.mp e
    intro x dx h1 h2 h3
    obtain ⟨G2, M2, E2⟩ := G1.made c h1 h2 h3
    dsimp only at e
    split at e
    · cases e
      rw [List.append_nil]
      have hx : (W1.add (x, dx)).A[ω1.o.length]? = some (x, dx) := by
        show (W1.A ++ [(x, dx)])[ω1.o.length]? = _
        rw [← G1.al, List.getElem?_append_right (Nat.le_refl _), Nat.sub_self]; rfl
      have z := spo_run (P := P) (m := m) (WX := fun _ _ _ _ => False) (vs := .ref x :: vs) (xs := .ob ω1.o.length :: xs) (Q := fun v H2 => v = .non ∧ Q (.ref x) H2) G2 ⟨⟨(x, dx), hx, rfl⟩, R1.mv M2 E2⟩ e2 fun v W' H' G' M' E' R' => ?_
      · exact z
      · have R' : Rep X.K (Mo F W' σ ρ) H' v .none := R'
        cases R'
        exact ⟨rfl, q (.ref x) W' H' G' ((M1.trans M2).trans M') ((E1.trans E2).trans E') ⟨(x, dx), E'.a _ _ hx, rfl⟩⟩
    · cases e
theorem pdo_make {x : Str} {p : Pos} {c : Nat} {f : Addr} {fd : FuncData} {ps : List Str} {k : Nat} {m : FnO} (M : Mk X.K (P.cl c) f) (Fn : FnOk X.prog X.w X.K X.mg X.base (L2.CX X.prog X.w) k f fd ps (spO P X.K m)) (hr : Room (k + 1) X.A) (hm : X.mg x = some (.ref (P.cl c))) (hb : Binds X.K fd ps [])
    (ha : PDAo P X (e :: es) r) (hg : Gl X x := by rfl) (hdb : (x == ("__debug__" : Str)) = false := by decide) (he : starEach (e :: es) X.env = (false, eval e X.env) :: starEach es X.env := by rfl) (hpl : (backTo pos (starEach es X.env)).any (·.1) = false := by rfl) :
    PDo P X (.Call (.Name x p) (e :: es) [] pos) (mMakeO c m r) := by
  obtain ⟨ta, pa, sa⟩ := ha.ex
  exact ⟨_, fun WX pn xe tk po => pe_make (X := X.tr pn xe) M Fn hr hg hm hb .nil passE (pa WX pn xe tk po) hdb he hpl, sndo_make sa⟩
end
end PD
namespace PD
open PySem PySem.Spec PyProof.Rows L2
abbrev MCo := List Sl → Dk → Os → Option (Rs (Nat × Str × Fv) × Dk × Os)
theorem FsR.putC {K M H M' H' W} {k : Nat} {f : Str} {y0 y' : Fv} (mv : Mv M H M' H') (hy : ∀ v, FvR K M H W k f v y0 → FvR K M' H' W k f v y') (hc : ∀ f', f' ≠ f → ∀ (n : Nat) a o, W.C[n]? = some (a, k, f') → H a = some o → H' a = some o) : ∀ {xs ys}, FsR K M H W k xs ys → (ys.map (·.1)).Nodup → ys.lookup f = some y0 → FsR K M' H' W k xs (putV f y' ys)
  | [], [], _, _, e => by cases e
  | x :: xs, y :: ys, r, nd, e => by
    obtain ⟨x1, x2⟩ := x
    obtain ⟨y1, y2⟩ := y
    obtain ⟨⟨e1, r1⟩, r2⟩ := r
    have e1 : x1 = y1 := e1
    subst e1
    rw [List.map_cons, List.nodup_cons] at nd
    rw [List.lookup_cons] at e
    unfold putV
    by_cases hf : x1 = f
    · subst hf
      rw [beq_self_eq_true] at e
      cases e
      rw [if_pos rfl]
      exact ⟨⟨rfl, hy _ r1⟩, r2.mvS mv (ExtW.refl W) fun f' hf' => hc f' fun z => nd.1 (z ▸ hf')⟩
    · rw [show (f == x1) = false from beq_eq_false_iff_ne.mpr fun z => hf z.symm] at e
      rw [if_neg hf]
      exact ⟨⟨rfl, r1.mv mv (ExtW.refl W) (hc x1 hf)⟩, FsR.putC mv hy hc r2 nd.2 e⟩
  | [], _ :: _, h, _, _ => h.elim
  | _ :: _, [], h, _, _ => h.elim
/-- a container is written -/
theorem GoodO.cell {K : PySem.W.Frag} {cl : Nat → Addr} {F : FrO} {W : OW} {σ : L2.St} {H : Hp} {ρ : List Sl} {δ : Dk} {ω : Os} {k n : Nat} {f : Str} {o : Ob} {a : Addr} {u : HO} {y0 y' : Fv} (G : GoodO K cl F W σ H ρ δ ω) (ho : ω.o[k]? = some o) (hn : (o.fs.map (·.1)).Nodup) (hl : o.fs.lookup f = some y0) (hq : W.C[n]? = some (a, k, f)) (hu : mtO (some u))
    (hy : Mv (Mo F W σ ρ) H (Mo F W σ ρ) (upd H a u) → ∀ v, FvR K (Mo F W σ ρ) H W k f v y0 → FvR K (Mo F W σ ρ) (upd H a u) W k f v y') : GoodO K cl F W σ (upd H a u) ρ δ (ω.put k ⟨o.c, putV f y' o.fs⟩) ∧ Mv (Mo F W σ ρ) H (Mo F W σ ρ) (upd H a u) := by
  have hm : (a, k, f) ∈ W.C := List.mem_of_getElem? hq
  have hrg : rg W a := .inr ⟨_, hm, rfl⟩
  have gro : Gro W H W (upd H a u) := by
    refine ⟨fun _ h => h, fun a h n => absurd h n, fun b w n e => ?_, fun b hb => ?_⟩
    · rw [upd_ne fun z => n (by rw [z]; exact hrg)]; exact e
    · by_cases z : b = a
      · rw [z, upd_same]; exact hu
      · rw [upd_ne z]; exact G.rgm hb
  obtain ⟨g, mv⟩ := Good.reo G.g gro G.nd
  have mv : Mv (Mo F W σ ρ) H (Mo F W σ ρ) (upd H a u) := mv
  have hk : k < ω.o.length := (List.getElem?_eq_some_iff.mp ho).1
  have hc : ∀ (i : Nat) (f' : Str), ¬ (i = k ∧ f' = f) → ∀ (n' : Nat) b w, W.C[n']? = some (b, i, f') → H b = some w → upd H a u b = some w := fun i f' hne n' b w t q => by
    rw [upd_ne fun z => hne (by
      have := G.ic n' n _ _ t hq z
      subst this
      rw [hq] at t
      cases t
      exact ⟨rfl, rfl⟩)]
    exact q
  refine ⟨⟨g, by show _ = (ω.o.set _ _).length; rw [List.length_set]; exact G.al, G.cn, G.ic, G.inj, fun i o' p' e1 e2 => ?_, fun q hq' => ?_, G.nd, fun i b js e => ?_, G.fre, G.ext, G.dj, G.up⟩, mv⟩
  · have e1 : (ω.o.set k ⟨o.c, putV f y' o.fs⟩)[i]? = some o' := e1
    have hp' := List.mem_of_getElem? e2
    by_cases hi : k = i
    · subst hi
      rw [List.getElem?_set_self hk] at e1
      cases e1
      obtain ⟨fs, h1, h2⟩ := G.ob k o p' ho e2
      exact ⟨fs, by rw [upd_ne fun z => (G.dj p' hp' _ hm).1 z.symm]; exact h1, h2.putC mv (hy mv) (fun f' hf' => hc k f' fun z => hf' z.2) hn hl⟩
    · rw [List.getElem?_set_ne hi] at e1
      obtain ⟨fs, h1, h2⟩ := G.ob i o' p' e1 e2
      exact ⟨fs, by rw [upd_ne fun z => (G.dj p' hp' _ hm).1 z.symm]; exact h1, h2.mv mv (ExtW.refl W) fun f' => hc i f' fun z => hi z.1.symm⟩
  · rw [upd_ne fun z => (G.dj q hq' _ hm).2 z.symm]
    exact G.od q hq'
  · obtain ⟨w, e1, r1⟩ := G.sl i b js e
    exact ⟨w, e1, r1.mv mv (ExtW.refl W)⟩
section
variable {P : OPar} {X : Cx} {a b e : Expr} {ma me : MEo} {mc : MCo} {mb : ME} {pos apos cpos p : Pos}
/-- len(o.f) -/
def fvLen : Fv → Option Nat
  | .lst _ ds => some ds.length
  | .lob _ js => some js.length
  | _ => none
theorem ObsR.length {W : OW} : ∀ {vs js}, ObsR W vs js → vs.length = js.length
  | [], [], _ => rfl
  | v :: vs, j :: js, h => by rw [List.length_cons, List.length_cons, ObsR.length h.2]
  | [], _ :: _, h => h.elim
  | _ :: _, [], h => h.elim
theorem FvR.sq {K M H W} {k : Nat} {f : Str} {v : V} {y : Fv} {n : Nat} (r : FvR K M H W k f v y) (e : fvLen y = some n) : ∃ a xs, v = .ref a ∧ H a = some (.lst xs) ∧ xs.length = n := by
  cases y with
  | val x => cases e
  | lst m ds => cases e; obtain ⟨a, xs, h1, _, h2, h3⟩ := r; exact ⟨a, xs, h1, h2, h3.length⟩
  | lob m js => cases e; obtain ⟨a, xs, h1, _, h2, h3⟩ := r; exact ⟨a, xs, h1, h2, h3.length⟩
  | dic m es => cases e
/-- o.f[i], i a value of the data -/
def fvAt (i : Int) : Fv → Option OV
  | .lst _ ds => (atI ds i).map .dat
  | .lob _ js => (atI js i).map .ob
  | _ => none
theorem ObsR.get {W : OW} : ∀ {vs js}, ObsR W vs js → ∀ {i : Nat} {j}, js[i]? = some j → ∃ v, vs[i]? = some v ∧ ∃ p, W.A[j]? = some p ∧ v = .ref p.1
  | v :: vs, j :: js, h, 0, _, e => by cases e; exact ⟨v, rfl, h.1⟩
  | v :: vs, j :: js, h, i + 1, _, e => by
    rw [List.getElem?_cons_succ] at e ⊢
    exact ObsR.get h.2 e
  | [], [], _, _, _, e => by cases e
  | [], _ :: _, h, _, _, _ => h.elim
  | _ :: _, [], h, _, _, _ => h.elim
theorem FvR.at {K M H W} {k : Nat} {f : Str} {v : V} {y : Fv} {i : Int} {x : OV} (r : FvR K M H W k f v y) (e : fvAt i y = some x) : ∃ a xs u, v = .ref a ∧ H a = some (.lst xs) ∧ atI xs i = some u ∧ OVR K M H W u x := by
  cases y with
  | val x => cases e
  | lst m ds =>
    obtain ⟨a, xs, h1, _, h2, h3⟩ := r
    obtain ⟨d, e1, e⟩ := Option.map_eq_some_iff.mp e
    cases e
    obtain ⟨u, g1, g2⟩ := h3.atI e1
    exact ⟨a, xs, u, h1, h2, g1, g2⟩
  | lob m js =>
    obtain ⟨a, xs, h1, _, h2, h3⟩ := r
    obtain ⟨j, e1, e⟩ := Option.map_eq_some_iff.mp e
    cases e
    unfold atI at e1 ⊢
    obtain ⟨n, n1, n2⟩ := Option.bind_eq_some_iff.mp e1
    obtain ⟨u, g1, g2⟩ := h3.get n2
    exact ⟨a, xs, u, h1, h2, by rw [h3.length, n1]; exact g1, g2⟩
  | dic m es => cases e
end
end PD
namespace PD
open PySem PySem.Spec PyProof.Rows L2
def fvId : Fv → Option Nat
  | .lst n _ => some n
  | .lob n _ => some n
  | .dic n _ => some n
  | _ => none
def fvApp : Fv → OV → Option Fv
  | .lst n ds, .dat d => some (.lst n (ds ++ [d]))
  | .lst n [], .ob j => some (.lob n [j])
  | .lob n js, .ob j => some (.lob n (js ++ [j]))
  | _, _ => none
theorem ObsR.append {W : OW} : ∀ {vs js}, ObsR W vs js → ∀ {ws is}, ObsR W ws is → ObsR W (vs ++ ws) (js ++ is)
  | [], [], _, _, _, h => h
  | v :: vs, j :: js, h, _, _, g => ⟨h.1, ObsR.append h.2 g⟩
  | [], _ :: _, h, _, _, _ => h.elim
  | _ :: _, [], h, _, _, _ => h.elim
/-- what an own list's cell is -/
theorem FvR.lst {K M H W} {k : Nat} {f : Str} {v : V} {y : Fv} {m : Nat} (r : FvR K M H W k f v y) (e : fvLen y = some m) : ∃ a xs n, fvId y = some n ∧ v = .ref a ∧ W.C[n]? = some (a, k, f) ∧ H a = some (.lst xs) ∧ xs.length = m := by
  cases y with
  | val x => cases e
  | lst n ds => cases e; obtain ⟨a, xs, h1, h0, h2, h3⟩ := r; exact ⟨a, xs, n, rfl, h1, h0, h2, h3.length⟩
  | lob n js => cases e; obtain ⟨a, xs, h1, h0, h2, h3⟩ := r; exact ⟨a, xs, n, rfl, h1, h0, h2, h3.length⟩
  | dic n es => cases e
theorem FvR.app {K M H H' W} {k : Nat} {f : Str} {a : Addr} {xs : List V} {u : V} {y y' : Fv} {x : OV} (mv : Mv M H M H') (r : FvR K M H W k f (.ref a) y) (ha : H a = some (.lst xs)) (ru : OVR K M H W u x) (e : fvApp y x = some y') (h' : H' a = some (.lst (xs ++ [u]))) : FvR K M H' W k f (.ref a) y' := by
  cases y with
  | val z => cases x <;> cases e
  | dic n es => cases x <;> cases e
  | lst n ds =>
    obtain ⟨b, ys, h1, h2, h3, h4⟩ := r
    cases h1
    rw [ha] at h3
    cases h3
    cases x with
    | dat d => cases e; exact ⟨a, _, rfl, h2, h', (h4.mv mv).append (.cons (Rep.mv mv ru) .nil)⟩
    | ob j =>
      cases ds with
      | nil =>
        cases e
        cases h4
        exact ⟨a, _, rfl, h2, h', ⟨ru, trivial⟩⟩
      | cons d ds => cases e
    | obs js => cases ds <;> cases e
  | lob n js =>
    obtain ⟨b, ys, h1, h2, h3, h4⟩ := r
    cases h1
    rw [ha] at h3
    cases h3
    cases x with
    | dat d => cases e
    | ob j => cases e; exact ⟨a, _, rfl, h2, h', h4.append (ws := [u]) (is := [j]) ⟨ru, trivial⟩⟩
    | obs js => cases e
end PD
namespace PD
open PySem PySem.Spec PyProof.Rows L2
def ovDats : List OV → Option (List D)
  | [] => some []
  | .dat d :: r => (ovDats r).map fun ds => d :: ds
  | _ :: _ => none
theorem ovDats_reps {K M H W} : ∀ {vs xs ds}, OVsR K M H W vs xs → ovDats xs = some ds → Reps K M H vs ds
  | [], [], _, _, e => by cases e; exact .nil
  | v :: vs, x :: xs, ds, r, e => by
    cases x with
    | dat d =>
      obtain ⟨es, e1, e⟩ := Option.map_eq_some_iff.mp e
      cases e
      exact .cons r.1 (ovDats_reps r.2 e1)
    | ob j => cases e
    | obs js => cases e
  | [], _ :: _, _, h, _ => h.elim
  | _ :: _, [], _, h, _ => h.elim
end PD
namespace PD
open PySem PySem.Spec PyProof.Rows L2
section
variable {P : OPar} {X : Cx} {e : Expr} {es : List Expr} {r : MAo} {nc : MTo} {m : MSo} {c : Expr} {pos : Pos}
/-- raise C(e, ..), whole numbers -/
def qRaise (j n : Nat) (r : MAo) : MSo := fun ρ δ ω => (r ρ δ ω).bind fun p => match p with
  | (.inl x, δ1, ω1) => some (.inl x, ρ, δ1, ω1)
  | (.inr xs, δ1, ω1) => (ovDats xs).bind fun ds => if ds.length = n ∧ ds.all intOk = true then some (.inl ⟨j, ds⟩, ρ, δ1, ω1) else none
theorem pdq_raise {C xI : Addr} {x : Str} {j k : Nat} {fd : FuncData} {ps ns : List Str} {p p3 : Pos} (hj : P.xc j = C) (hn : P.xn j = ns) (hc : X.calm = true) (T : OexC X.K C) (iC : PySem.W.findIn X.K (.ref C) "__init__" = some (some (.ref xI))) (tI : PySem.W.typeIn X.K (.ref xI) = some (.type "function"))
    (F1 : FnOk X.prog X.w X.K X.mg X.base CX0 k xI fd ps (spI C ns)) (hr : Room (k + 1) X.A) (hb : Binds X.K fd ps []) (hx : ∀ (pn : List (Addr × Obj)) (xe : Value → Shared → Prop), Passes CX0 (X.tr pn xe) (fun _ _ _ => False)) (gC : X.mg x = some (.ref C)) (hns : ns.length ≤ 100) (ha : PDAo P X (e :: es) r) (hg : Gl X x := by rfl)
    (hdb : (x == ("__debug__" : Str)) = false := by decide) (he : starEach (e :: es) X.env = (false, eval e X.env) :: starEach es X.env := by rfl) (hpl : (backTo p3 (starEach es X.env)).any (·.1) = false := by rfl) :
    PDSo P X (.Raise (some (.Call (.Name x p) (e :: es) [] p3)) none pos) (qRaise j ns.length r) := by
  obtain ⟨ta, pa, sa⟩ := ha.ex
  refine ⟨fun WX => fun _ σ H => tMkO C (spI C ns) [] (ta WX) σ H fun cls d H' => WX cls d σ H', fun WX pn xe tk po => ps_raise (X := X.tr pn xe) hc tk (pmk_oex T iC tI F1 hr hb .nil (hx pn xe) hg gC (pa WX pn xe tk po) hdb he hpl), fun WX F W σ H ρ δ ω rr ρ' δ' ω' G e D q => ?_⟩
  obtain ⟨⟨r1, δ1, ω1⟩, e1, e⟩ := Option.bind_eq_some_iff.mp e
  cases r1 with
  | inl x =>
    cases e
    exact sa WX F W σ H ρ δ ω _ _ _ G e1 _ fun c d W' H' G' M' E' R' => q σ W' H' G' M' E' c d R'
  | inr xs =>
    obtain ⟨ds, ed, e⟩ := Option.bind_eq_some_iff.mp e
    split at e
    · rename_i hok
      cases e
      refine sa WX F W σ H ρ δ ω _ _ _ G e1 _ fun vs W1 H1 G1 M1 E1 R0 => ?_
      have R1 := ovDats_reps R0 ed
      have hlen : vs.length = ns.length := by rw [R1.length, hok.1]
      refine ⟨by omega, fun a ha => ?_⟩
      refine ⟨a, vs, by rw [List.append_nil], hlen, fun v hv => ?_, upd_same, fun d H' hd hda e2 e3 e4 => ?_⟩
      · obtain ⟨i, hi⟩ := List.getElem?_of_mem hv
        obtain ⟨z, hz, rz⟩ := R1.get hi
        have hz2 := List.all_eq_true.mp hok.2 z (List.mem_of_getElem? hz)
        cases rz with
        | int n => exact ⟨n, rfl, of_decide_eq_true hz2⟩
        | _ => cases hz2
      · rw [upd_ne hda] at hd
        refine ⟨rfl, d, _, e2, e3, hd, ?_⟩
        have kp : ∀ b o, H1 b = some o → upd (del H' a) d (.xd (ns.zip vs).reverse) b = some o := fun b o hbo => by
          have nb : b ≠ d := fun z => by rw [z, hd] at hbo; cases hbo
          have na : b ≠ a := fun z => by rw [z, ha] at hbo; cases hbo
          rw [upd_ne nb, del_ne na, e4 b na nb, upd_ne na]
          exact hbo
        refine q σ W1 _ (G1.lift (G1.g.keep kp) (Mv.same kp)) (M1.trans (Mv.same kp)) E1 (.ref C) (some d) ⟨by rw [hj], .inr ⟨d, vs, rfl, ?_, ?_, R1.mv (Mv.same kp)⟩⟩
        · rw [hn]; exact upd_same
        · rw [hn]; exact hlen
    · cases e
end
end PD
namespace PD
open PySem PySem.Spec PyProof.Rows L2
section
variable {P : OPar} {X : Cx} {a b e : Expr} {mo : MEo} {mc : MCo} {me : ME} {mt nt : MTo} {p pos tpos : Pos}
/-- o.f += e, whole numbers -/
def qAugF (c : Nat) (f : Str) (mo : MEo) (me : ME) : MSo := fun ρ δ ω => (mo ρ δ ω).bind fun p => match p with
  | (.inl x, δ1, ω1) => some (.inl x, ρ, δ1, ω1)
  | (.inr (.ob k), δ1, ω1) => (ω1.o[k]?).bind fun o => if o.c = c ∧ o.fs.length < 1000 then (match o.fs.lookup f with
      | some (.val (.dat (.int i))) => (me ρ δ1).bind fun q => match q.1 with
        | .int j => some (.inr .nx, ρ, q.2, ω1.put k ⟨o.c, putV f (.val (.dat (.int (i + j)))) o.fs⟩)
        | _ => none
      | _ => none) else none
  | _ => none
theorem pdq_augF {c : Nat} {f : Str} (hc : Cls X.K (P.cl c)) (hf : NoAttr X.K (P.cl c) f) (ha : PDo P X a mo) (hb : ∀ (pn : List (Addr × Obj)) (xe : Value → Shared → Prop), PD (X.tr pn xe) e me) : PDSo P X (.AugAssign (.Attribute a f tpos) .Add e pos) (qAugF c f mo me) := by
  obtain ⟨t, p1, s1⟩ := ha.ex
  obtain ⟨te, p2, s2⟩ := pd_meet hb
  refine ⟨fun WX => sFldAug X.K (t WX) te rAdd f, fun WX pn xe tk po => ps_fldaug (X := X.tr pn xe) (p1 WX pn xe tk po) (p2 pn xe) in_add, fun WX F W σ H ρ δ ω r ρ' δ' ω' G e D q => ?_⟩
  obtain ⟨⟨r1, δ1, ω1⟩, e1, e⟩ := Option.bind_eq_some_iff.mp e
  match r1, e1, e with
  | .inl x, e1, e =>
    cases e
    exact s1 WX F W σ H _ δ ω _ _ _ G e1 _ fun c d W' H' G' M' E' R' => q σ W' H' G' M' E' c d R'
  | .inr (.ob k), e1, e =>
    obtain ⟨o, o1, e⟩ := Option.bind_eq_some_iff.mp e
    split at e
    · rename_i hz
      obtain ⟨hoc, hlen⟩ := hz
      split at e
      · rename_i i hi
        obtain ⟨⟨z, δ2⟩, e2, e⟩ := Option.bind_eq_some_iff.mp e
        dsimp only at e
        split at e
        · rename_i j
          cases e
          refine s1 WX F W σ H _ δ ω _ _ _ G e1 _ fun v W1 H1 G1 M1 E1 R1 => ?_
          obtain ⟨pp, hp, rfl⟩ := R1
          obtain ⟨fs, f1, f2⟩ := G1.ob k o pp o1 hp
          obtain ⟨v, v1, v2⟩ := f2.look hi
          have v2 : Rep X.K _ H1 v (.int i) := v2
          cases v2
          refine ⟨pp.1, P.cl o.c, pp.2, fs, _, rfl, f1, by rw [hoc]; exact hc, by rw [hoc]; exact hf, v1, ?_⟩
          refine s2 (FO F.F W1 H1 σ _) σ H1 _ δ1 _ _ G1.g e2 _ fun u H2 g2 M2 R2 => ?_
          cases R2
          have G2 := G1.lift g2 M2
          have h2 : H2 pp.1 = some (.ins (P.cl o.c) pp.2 fs) := by
            rw [G1.stay g2 _ (.inl ⟨pp, List.mem_of_getElem? hp, .inl rfl⟩)]; exact f1
          obtain ⟨fs', h3, h4⟩ := G2.ob k o pp o1 hp
          rw [h2] at h3
          cases h3
          obtain ⟨G3, M3⟩ := G2.fld (f := f) (x := .dat (.int (i + j))) (v := .int (i + j)) o1 hp h2 h4 (Rep.int _)
          exact ⟨_, _, rfl, rfl, pp.2, fs, h2, by rw [h4.len]; exact hlen, q σ W1 _ G3 ((M1.trans M2).trans M3) E1⟩
        · cases e
      · cases e
    · cases e
  | .inr (.dat d), e1, e => cases e
  | .inr (.obs js), e1, e => cases e
end
end PD
namespace PD
open PySem PySem.Spec PyProof.Rows L2
/-- and, or, by what their members hold -/
structure PDWo (P : OPar) (X : Cx) (e : Expr) (m : MTo) : Prop where
  ex : ∃ t, InW X (fun WX Y => PW Y e (t WX)) ∧ SndTO P X.K t m
section
variable {P : OPar} {X : Cx} {a b e : Expr} {es rest : List Expr} {ma mb : MEo} {na nb : MTo} {r : MAo} {p pos : Pos}
theorem PDWo.pt (h : PDWo P X e na) : PDTo P X e na := by
  obtain ⟨t, h1, s1⟩ := h.ex
  exact ⟨t, fun WX pn xe tk po => (h1 WX pn xe tk po).pt, s1⟩
def oOrT (a b : MTo) : MTo := fun ρ δ ω => (a ρ δ ω).bind fun p => match p with
  | (.inl x, δ1, ω1) => some (.inl x, δ1, ω1)
  | (.inr false, δ1, ω1) => b ρ δ1 ω1
  | (.inr true, δ1, ω1) => some (.inr true, δ1, ω1)
def oNotT (a : MTo) : MTo := fun ρ δ ω => (a ρ δ ω).map fun p => match p with
  | (.inl x, δ1, ω1) => (.inl x, δ1, ω1)
  | (.inr x, δ1, ω1) => (.inr (!x), δ1, ω1)
theorem pdwo_or1 (ha : PDTo P X a na) : PDWo P X (.BoolOp .Or [a] pos) na := by
  obtain ⟨t, h1, s1⟩ := ha.ex
  exact ⟨t, fun WX pn xe tk po => pw_or1 (h1 WX pn xe tk po), s1⟩
theorem pdwo_or (ha : PDTo P X a na) (hb : PDWo P X (.BoolOp .Or (b :: rest) pos) nb) : PDWo P X (.BoolOp .Or (a :: b :: rest) pos) (oOrT na nb) := by
  obtain ⟨t, h1, s1⟩ := ha.ex
  obtain ⟨u, h2, s2⟩ := hb.ex
  refine ⟨fun WX => tOr (t WX) (u WX), fun WX pn xe tk po => pw_or (h1 WX pn xe tk po) (h2 WX pn xe tk po), fun WX F W σ H ρ δ ω r δ' ω' G e Q q => ?_⟩
  obtain ⟨⟨r1, δ1, ω1⟩, e1, e⟩ := Option.bind_eq_some_iff.mp e
  match r1, e1, e with
  | .inl x, e1, e => cases e; exact s1 WX F W σ H ρ δ ω _ _ _ G e1 _ q
  | .inr false, e1, e =>
    refine s1 WX F W σ H ρ δ ω _ _ _ G e1 _ fun W1 H1 G1 M1 E1 => iteF (s2 WX F W1 σ H1 ρ δ1 ω1 r _ _ G1 e _ ?_)
    cases r with
    | inl x => exact Out.mv q M1 E1
    | inr x => exact fun W2 H2 G2 M2 E2 => q W2 H2 G2 (M1.trans M2) (E1.trans E2)
  | .inr true, e1, e => cases e; exact s1 WX F W σ H ρ δ ω _ _ _ G e1 _ fun W1 H1 G1 M1 E1 => iteT (q W1 H1 G1 M1 E1)
theorem pdto_not (ha : PDTo P X a na) : PDTo P X (.UnaryOp .Not a pos) (oNotT na) := by
  obtain ⟨t, h1, s1⟩ := ha.ex
  refine ⟨fun WX => tNot (t WX), fun WX pn xe tk po => pt_not (h1 WX pn xe tk po), fun WX F W σ H ρ δ ω r δ' ω' G e Q q => ?_⟩
  obtain ⟨⟨r1, δ1, ω1⟩, e1, e⟩ := Option.map_eq_some_iff.mp e
  cases r1 with
  | inl x => cases e; exact s1 WX F W σ H ρ δ ω _ _ _ G e1 _ q
  | inr x => cases e; exact s1 WX F W σ H ρ δ ω _ _ _ G e1 _ fun W1 H1 G1 M1 E1 => q W1 H1 G1 M1 E1
def mCbO (f : List D → Option D) (r : MAo) : MEo := fun ρ δ ω => (r ρ δ ω).bind fun p => match p with
  | (.inl x, δ1, ω1) => some (.inl x, δ1, ω1)
  | (.inr xs, δ1, ω1) => (ovDats xs).bind fun ds => (f ds).map fun z => (.inr (.dat z), δ1, ω1)
theorem sndo_cb {K : PySem.W.Frag} {rr : List V → Hp → VK → Prop} {f : List D → Option D} {t : L2.WX → TA} (h : CallS K rr f) (ha : SndAO P K t r) : SndO P K (fun WX => tCB rr (t WX)) (mCbO f r) := fun WX F W σ H ρ δ ω rr' δ' ω' G e Q q => by
  obtain ⟨⟨r1, δ1, ω1⟩, e1, e⟩ := Option.bind_eq_some_iff.mp e
  cases r1 with
  | inl x => cases e; exact ha WX F W σ H ρ δ ω _ _ _ G e1 _ q
  | inr xs =>
    obtain ⟨ds, ed, e⟩ := Option.bind_eq_some_iff.mp e
    obtain ⟨z, e3, e⟩ := Option.map_eq_some_iff.mp e
    cases e
    refine ha WX F W σ H ρ δ ω _ _ _ G e1 _ fun vs W1 H1 G1 M1 E1 R1 => ?_
    exact h (FO F.F W1 H1 σ ρ) σ H1 ρ _ vs ds _ G1.g (ovDats_reps R1 ed) e3 Q fun v H2 k R2 => q v W1 H2 (G1.lift (G1.g.keep k) (Mv.same k)) (M1.trans (Mv.same k)) E1 R2
theorem pdo_cb {x : Str} {id : String} {rr : List V → Hp → VK → Prop} {f : List D → Option D} (hv : bootBuiltins x = some (.builtin id)) (hc : ∀ (pn : List (Addr × Obj)) (xe : Value → Shared → Prop), CallR (X.tr pn xe) (.builtin id) rr) (hs : CallS X.K rr f) (ha : PDAo P X (e :: es) r) (hg : Gl X x) (hm : X.mg x = none) (hn : x ≠ "__name__") (hdb : (x == ("__debug__" : Str)) = false)
    (he : starEach (e :: es) X.env = (false, eval e X.env) :: starEach es X.env := by rfl) (hpl : (backTo pos (starEach es X.env)).any (·.1) = false := by rfl) : PDo P X (.Call (.Name x p) (e :: es) [] pos) (mCbO f r) := by
  obtain ⟨t, h1, s1⟩ := ha.ex
  exact ⟨_, fun WX pn xe tk po => pe_callB (X := X.tr pn xe) (hc pn xe) hg hm hv (h1 WX pn xe tk po) hn hdb he hpl, sndo_cb hs s1⟩
theorem cs_fn {K : PySem.W.Frag} {m : List D → Option D} (E : XK) : CallS K (fun vs H Q => spP K m vs H Q E) m := fun F σ H ρ δ xs ds z G R hz Q q => ⟨_, ds, z, G.mm, R, hz, q⟩
/-- a def of the data -/
theorem pdo_callP {CX : CXT} {k : Nat} {f : Addr} {fd : FuncData} {ps : List Str} {m : List D → Option D} {x : Str} {E : XK} (Fn : FnOk X.prog X.w X.K X.mg X.base CX k f fd ps (spP X.K m)) (hr : Room k X.A) (hm : X.mg x = some (.ref f)) (hk : PySem.W.keepIn X.K (.ref f) = true) (hb : Binds X.K fd ps []) (hx : ∀ (pn : List (Addr × Obj)) (xe : Value → Shared → Prop), Passes CX (X.tr pn xe) E)
    (ha : PDAo P X (e :: es) r) (hg : Gl X x := by rfl) (hdb : (x == ("__debug__" : Str)) = false := by decide) (he : starEach (e :: es) X.env = (false, eval e X.env) :: starEach es X.env := by rfl) (hpl : (backTo pos (starEach es X.env)).any (·.1) = false := by rfl) : PDo P X (.Call (.Name x p) (e :: es) [] pos) (mCbO m r) := by
  obtain ⟨t, h1, s1⟩ := ha.ex
  refine ⟨fun WX => tCall (spP X.K m) [] E (t WX), fun WX pn xe tk po => pe_call (X := X.tr pn xe) Fn hr hg hm hk hb .nil (hx pn xe) (h1 WX pn xe tk po) hdb he hpl, ?_⟩
  have z := sndo_cb (r := r) (cs_fn (K := X.K) (m := m) E) s1
  have eq : (fun WX => tCB (fun vs H Q => spP X.K m vs H Q E) (t WX)) = fun WX => tCall (spP X.K m) [] E (t WX) := by
    funext WX σ H Q
    unfold tCB tCall
    simp only [List.append_nil]
  rw [← eq]
  exact z
end
end PD
namespace PD
open PySem PySem.Spec PyProof.Rows L2
end PD
namespace PD
open PySem PySem.Spec PyProof.Rows L2
def W0 : OW := ⟨[], []⟩
def ω0 : Os := ⟨[], 0⟩
theorem rg_W0 {a : Addr} : ¬ rg W0 a := fun h => by
  rcases h with ⟨p, hp, _⟩ | ⟨p, hp, _⟩ <;> cases hp
/-- such a def, with exceptions: of values alone -/
abbrev FnV := List D → Option (Xv ⊕ D)
def spV (P : OPar) (K : PySem.W.Frag) (m : FnV) : Sp := fun vs H Q E => ∃ (M : Addr → Prop) (ds : List D) (r : Xv ⊕ D), (∀ a, M a → mtO (H a)) ∧ Reps K M H vs ds ∧ m ds = some r ∧ match r with
  | .inl x => ∀ c d H', (∀ a o, H a = some o → H' a = some o) → XvR P K M H' c d x → E c d H'
  | .inr z => ∀ v H', (∀ a o, H a = some o → H' a = some o) → Rep K M H' v z → Q v H'
end PD
namespace PD
open PySem PySem.Spec PyProof.Rows L2
section
variable {P : OPar} {X : Cx} {a b e : Expr} {mc : MCo} {mb me : ME} {pos tpos : Pos}
theorem FvR.strs {K M H W} {k : Nat} {f : Str} {v : V} {n : Nat} {ds : List D} (r : FvR K M H W k f v (.lst n ds)) : ∃ a xs, v = .ref a ∧ W.C[n]? = some (a, k, f) ∧ H a = some (.lst xs) ∧ Reps K M H xs ds := r
end
end PD
namespace PD
open PySem PySem.Spec PyProof.Rows L2
end PD
namespace PD
open PySem PySem.Spec PyProof.Rows L2
section
variable {P : OPar} {X : Cx} {tg iter : Expr} {mi : MA} {mg : MG} {m : MSo} {sl : List Nat} {pos : Pos}
def qForL (g : MG) (s : MSo) : List D → MSo
  | [] => fun ρ δ ω => some (.inr .nx, ρ, δ, ω)
  | d :: ds => fun ρ δ ω => (g d ρ).bind fun ρ1 => (s ρ1 δ ω).bind fun q => match q.1 with
    | .inr .nx => qForL g s ds q.2.1 q.2.2.1 q.2.2.2
    | .inr .ct => qForL g s ds q.2.1 q.2.2.1 q.2.2.2
    | .inr .bk => some (.inr .nx, q.2)
    | .inr (.rt v) => some (.inr (.rt v), q.2)
    | .inl x => some (.inl x, q.2)
def qFor (mi : MA) (g : MG) (s : MSo) : MSo := fun ρ δ ω => (mi ρ δ).bind fun p => qForL g s p.1 ρ p.2 ω
theorem pdi_meet (h : ∀ (pn : List (Addr × Obj)) (xe : Value → Shared → Prop), PDI (X.tr pn xe) tg iter mi) : ∃ wi, (∀ (pn : List (Addr × Obj)) (xe : Value → Shared → Prop), PI (X.tr pn xe) tg iter wi) ∧ ∀ F σ H ρ δ ds δ', Good X.K F σ H ρ δ → mi ρ δ = some (ds, δ') → ∀ R : It → Hp → Prop,
    (∀ J H', Good X.K F σ H' ρ δ' → Mv (Mm F σ ρ) H (Mm F σ ρ) H' → Walks X.K (Mm F σ ρ) H' J ds → R J H') → wi σ H R :=
  ⟨fun σ H R => ∀ pn xe, (h pn xe).ex.choose σ H R, fun pn xe => ⟨fun pins s σ H R I q => (h pn xe).ex.choose_spec.1.run pins s σ H R I (q pn xe)⟩, fun F σ H ρ δ ds δ' G e R q pn xe => (h pn xe).ex.choose_spec.2 F σ H ρ δ ds δ' G e R q⟩
theorem pdg_meet (h : ∀ (pn : List (Addr × Obj)) (xe : Value → Shared → Prop), PDG (X.tr pn xe) tg sl mg) : ∃ g, (∀ (pn : List (Addr × Obj)) (xe : Value → Shared → Prop), PG (X.tr pn xe) tg g) ∧ ∀ F σ H ρ δ v d ρ', Good X.K F σ H ρ δ → Rep X.K (Mm F σ ρ) H v d → mg d ρ = some ρ' → ∀ Q : L2.St → Hp → Prop,
    (∀ σ', Good X.K F σ' H ρ' δ → Mv (Mm F σ ρ) H (Mm F σ' ρ') H → Set1 sl σ σ' ρ ρ' → Q σ' H) → g v σ H Q :=
  ⟨fun v σ H Q => ∀ pn xe, (h pn xe).ex.choose v σ H Q, fun pn xe => ⟨fun pins s σ H v u Q I r q => (h pn xe).ex.choose_spec.1.run pins s σ H v u Q I r (q pn xe)⟩, fun F σ H ρ δ v d ρ' G r e Q q pn xe => (h pn xe).ex.choose_spec.2 F σ H ρ δ v d ρ' G r e Q q⟩
theorem pdq_for {body : List Stmt} (hc : X.calm = true) (hi : ∀ (pn : List (Addr × Obj)) (xe : Value → Shared → Prop), PDI (X.tr pn xe) tg iter mi) (hg : ∀ (pn : List (Addr × Obj)) (xe : Value → Shared → Prop), PDG (X.tr pn xe) tg sl mg) (hb : PDSso P X body m) (hs : ∀ x, foldedSetIterable iter X.env x = pure x := by intro _; rfl) :
    PDSo P X (.For tg iter body [] pos) (qFor mi mg m) := by
  obtain ⟨wi, p1, s1⟩ := pdi_meet hi
  obtain ⟨g, p2, s2⟩ := pdg_meet hg
  obtain ⟨tb, p3, s3⟩ := hb.ex
  refine ⟨fun WX => tFor wi g (tb WX), fun WX pn xe tk po => ps_for (X := X.tr pn xe) po hc (p1 pn xe) (p2 pn xe) (p3 WX pn xe tk po) hs, fun WX F W0 σ0 H0 ρ0 δ0 ω0 r ρ' δ' ω' G e D q => ?_⟩
  obtain ⟨⟨ds, δ1⟩, e1, e⟩ := Option.bind_eq_some_iff.mp e
  refine s1 (FO F.F W0 H0 σ0 ρ0) σ0 H0 ρ0 δ0 ds δ1 G.g e1 _ fun J H1 g1 M1 Wk => ?_
  have G1 := G.lift g1 M1
  let I : Nat → Nat → L2.St → Hp → Prop := fun i k σ H => k = ds.length - i ∧ i ≤ ds.length ∧ ∃ W ρ δ ω, GoodO X.K P.cl F W σ H ρ δ ω ∧ Mv (Mo F W0 σ0 ρ0) H1 (Mo F W σ ρ) H ∧ ExtW W0 W ∧ qForL mg m (ds.drop i) ρ δ ω = some (r, ρ', δ', ω')
  refine ⟨I, ⟨_, rfl, Nat.zero_le _, W0, ρ0, δ1, ω0, G1, Mv.refl _ _, ExtW.refl W0, e⟩, ?_⟩
  rintro i k σ H ⟨rfl, hile, W, ρ, δ, ω, G2, M2, E2, ef⟩
  by_cases hlt : i < ds.length
  · obtain ⟨go, yl⟩ := (Wk _ H M2 G2.mm i).1 hlt
    rw [List.drop_eq_getElem_cons hlt] at ef
    refine .inr ⟨go, fun σ H => I (i + 1) (ds.length - (i + 1)) σ H, fun σ' H' h => ⟨ds.length - (i + 1), by omega, h⟩, fun x H3 hy => ?_⟩
    obtain ⟨kp, dx, edx, rdx⟩ := yl x H3 hy
    rw [List.getElem?_eq_getElem hlt] at edx
    cases edx
    have G3 := G2.lift (G2.g.keep kp) (Mv.same kp)
    have M3 := M2.trans (Mv.same (M := Mo F W σ ρ) kp)
    unfold qForL at ef
    obtain ⟨ρ2, f1, ef⟩ := Option.bind_eq_some_iff.mp ef
    obtain ⟨⟨f, ρ3, δ3, ω3⟩, f2, ef⟩ := Option.bind_eq_some_iff.mp ef
    refine s2 (FO F.F W H3 σ ρ) σ H3 ρ δ x _ ρ2 G3.g rdx f1 _ fun σ2 g4 M4 _ => ?_
    have G4 := G3.data g4 M4
    refine s3 WX F W σ2 H3 ρ2 δ ω _ _ _ _ G4 f2 _ fun σ5 W5 H5 G5 M5 E5 => ?_
    have M6 := (M3.trans M4).trans M5
    have E6 := E2.trans E5
    match f, f2, ef with
    | .inl x, f2, ef => cases ef; exact q σ5 W5 H5 G5 (M1.trans M6) E6
    | .inr .nx, f2, ef => exact ⟨rfl, hlt, W5, ρ3, δ3, ω3, G5, M6, E6, ef⟩
    | .inr .ct, f2, ef => exact ⟨rfl, hlt, W5, ρ3, δ3, ω3, G5, M6, E6, ef⟩
    | .inr .bk, f2, ef => cases ef; exact q σ5 W5 H5 G5 (M1.trans M6) E6
    | .inr (.rt v), f2, ef => cases ef; exact q σ5 W5 H5 G5 (M1.trans M6) E6
  · have hi' : i = ds.length := by omega
    subst hi'
    rw [List.drop_of_length_le (Nat.le_refl _)] at ef
    cases ef
    exact .inl ⟨(Wk _ H M2 G2.mm ds.length).2 (Nat.le_refl _), q σ W H G2 (M1.trans M2) E2⟩
end
end PD
namespace PD
open PySem PySem.Spec PyProof.Rows L2
section
variable {P : OPar} {X : Cx} {a b e : Expr} {es : List Expr} {ma mb : MEo} {r : MAo} {p pos : Pos}
/-- a def of values that may raise -/
def mCallV (m : FnV) (r : MAo) : MEo := fun ρ δ ω => (r ρ δ ω).bind fun p => match p with
  | (.inl x, δ1, ω1) => some (.inl x, δ1, ω1)
  | (.inr xs, δ1, ω1) => (ovDats xs).bind fun ds => (m ds).map fun z => (match z with
    | .inl x => .inl x
    | .inr d => .inr (.dat d), δ1, ω1)
theorem pdo_callV {f : Addr} {fd : FuncData} {ps : List Str} {k : Nat} {m : FnV} {y : Str} (Fn : FnOk X.prog X.w X.K X.mg X.base (L2.CX X.prog X.w) k f fd ps (spV P X.K m)) (hr : Room k X.A) (hm : X.mg y = some (.ref f)) (hk : PySem.W.keepIn X.K (.ref f) = true) (hb : Binds X.K fd ps [])
    (ha : PDAo P X (e :: es) r) (hg : Gl X y := by rfl) (hdb : (y == ("__debug__" : Str)) = false := by decide) (he : starEach (e :: es) X.env = (false, eval e X.env) :: starEach es X.env := by rfl) (hpl : (backTo pos (starEach es X.env)).any (·.1) = false := by rfl) :
    PDo P X (.Call (.Name y p) (e :: es) [] pos) (mCallV m r) := by
  obtain ⟨ta, pa, sa⟩ := ha.ex
  refine ⟨fun WX => tCallS (spV P X.K m) (L2.WE WX) (ta WX), fun WX pn xe tk po => pe_callS (X := X.tr pn xe) Fn hr hg hm hk hb (fun σ => passAt tk σ) (pa WX pn xe tk po) hdb he hpl, fun WX F W σ H ρ δ ω rr δ' ω' G e Q q => ?_⟩
  obtain ⟨⟨r1, δ1, ω1⟩, e1, e⟩ := Option.bind_eq_some_iff.mp e
  cases r1 with
  | inl x =>
    cases e
    exact sa WX F W σ H ρ δ ω _ _ _ G e1 _ q
  | inr xs =>
    obtain ⟨ds, ed, e⟩ := Option.bind_eq_some_iff.mp e
    obtain ⟨z, e2, e⟩ := Option.map_eq_some_iff.mp e
    cases e
    refine sa WX F W σ H ρ δ ω _ _ _ G e1 _ fun vs W1 H1 G1 M1 E1 R1 => ⟨Mo F W1 σ ρ, ds, z, G1.mm, ovDats_reps R1 ed, e2, ?_⟩
    cases z with
    | inl x => exact fun c d H' kp R' => q c d W1 H' (G1.lift (G1.g.keep kp) (Mv.same kp)) (M1.trans (Mv.same kp)) E1 R'
    | inr d => exact fun v H' kp R' => q v W1 H' (G1.lift (G1.g.keep kp) (Mv.same kp)) (M1.trans (Mv.same kp)) E1 R'
end
end PD
namespace PD
open PySem PySem.Spec PyProof.Rows L2
end PD
namespace L2
open PySem PySem.Spec PyProof.Rows
/-- behind a suite with a name: the name is gone -/
def endW (D : Ends) (i : Nat) : Ends := { nx := fun σ H => D.nx (σ.set i none) H, rt := D.rt, bk := fun σ H => D.bk (σ.set i none) H, ct := fun σ H => D.ct (σ.set i none) H }
abbrev Suites (X : Cx) (ts : Addr → Value → Option Addr → TS) (sts : List Stmt) : Prop := ∀ (a : Addr) (oe : Obj) (cls : Value) (d : Option Addr) (pn : List (Addr × Obj)), Zc cls d oe → (∃ vs, oe.data = .fields vs) → PSs (X.suite a ((a, oe) :: pn)) sts (ts a cls d)
/-- the clauses, and what they wish of an exception of the body -/
inductive ClOk (X : Cx) (Wout : WX) : List ExceptHandler → (Ends → WX) → Prop
  | nil : ClOk X Wout [] (fun _ => Wout)
  | plain {x : Str} {c : Value} {ts : Addr → Value → Option Addr → TS} {b : Stmt} {bs : List Stmt} {np p : Pos} {hds : List ExceptHandler} {w : Ends → WX} : Names X x c → Suites X ts (b :: bs) → ClOk X Wout hds w →
      ClOk X Wout (.ExceptHandler (some (.Name x np)) none (b :: bs) p :: hds) (fun D cls d σ H => ∃ k, PySem.W.exmOne X.K cls c = some k ∧ (k = true → ∀ a, H a = none → ts a cls d D σ H) ∧ (k = false → w D cls d σ H))
  | named {x n : Str} {c : Value} {i : Nat} {ts : Addr → Value → Option Addr → TS} {b : Stmt} {bs : List Stmt} {np p : Pos} {hds : List ExceptHandler} {w : Ends → WX} : Names X x c → X.N[i]? = some n → X.env.kindOf n = some .local → Suites X ts (b :: bs) → ClOk X Wout hds w →
      ClOk X Wout (.ExceptHandler (some (.Name x np)) (some n) (b :: bs) p :: hds) (fun D cls d σ H => ∃ k, PySem.W.exmOne X.K cls c = some k ∧ (k = true → ∀ a, H a = none → ts a cls d (endW D i) (σ.set i (some (.ref a))) H) ∧ (k = false → w D cls d σ H))
section
variable {X : Cx} {Wout : WX} {h₀ : ExceptHandler} {hds : List ExceptHandler} {w : Ends → WX} {body : List Stmt} {tb : WX → TS} {pos : Pos}
theorem ps_try_cl (hs : X.stack = X.env :: X.outer) (hf : X.env.frame = some X.env.locals) (hN : X.N.Nodup) (tk : Takes X Wout) (hb : ∀ (W : WX) (pn : List (Addr × Obj)) (xe : Value → Shared → Prop), Takes (X.tr pn xe) W → PassesOwn (model X.prog X.w) X.A X.env xe → PSs (X.tr pn xe) body (tb W)) (hh : ClOk X Wout (h₀ :: hds) w) :
    PS X (.Try body (h₀ :: hds) [] [] pos) (fun D σ H => tb (w D) D σ H) := by
  constructor
  intro pins s σ H D I hw
  have ok := I.ok
  have frames : X.A.frames = some (X.env :: X.outer) := by rw [ok.frames, hs]
  let XE1 : Value → Shared → Prop := fun e s1 => wpAny (model X.prog X.w) X.A (noteFrame e X.env) (fun _ s2 => wpAny (model X.prog X.w) X.A (setFlight e none) (fun _ s3 => wpAny (model X.prog X.w) X.A (handleBy e X.env (h₀ :: hds)) (SP X pins D) X.xe s3) X.xe s2) X.xe s1
  have caught : Takes (X.tr (X.pn ++ pins) XE1) (w D) := by
    intro u s' xx
    obtain ⟨a, B, sI, pins', σ1, H1, cls, d, rfl, J', nb, up, sky, na, os, ag, wish⟩ := xx
    have J : Inv X pins σ1 H1 sI := J'.ofTry ok
    have sky : Sky B (X.env :: X.outer) a (Zc cls d) X.env.locals s'.heap := by rw [← hs]; exact sky
    show wpAny (model X.prog X.w) X.A (noteFrame (.ref a) X.env) _ _ _
    refine Sky.land Zc.steady frames hf sky fun h3 fl3 up3 => ?_
    have J3 : Inv X pins σ1 H1 { s' with heap := h3 } := J.landed nb fl3.1 (up.trans up3) os ag
    obtain ⟨oe, vs, he, hz, hd⟩ := fl3.there
    have out : a ∉ frs (X.env :: X.outer) := fun hm => by
      obtain ⟨_, o', e', hnf⟩ := fl3.2.2.1.mem hm
      rw [he] at e'
      cases e'
      exact hnf _ hd
    have nL : a ≠ X.env.locals := fun z => out (List.mem_filterMap.mpr ⟨X.env, List.mem_cons_self, by rw [hf, z]⟩)
    have nF : a ∉ X.fs := fun hm => by
      obtain ⟨e, hm1, hm2⟩ := List.mem_filterMap.mp hm
      exact out (List.mem_filterMap.mpr ⟨e, List.mem_cons_of_mem _ hm1, hm2⟩)
    have S3 := J3.suite he hd na nL nF
    have looks : PySem.W.Looks (model X.prog X.w) h3 (typeOf (.ref a)) cls := fun A Q E s k q => wpAny_typeOf_ref (k _ _ he) (by rw [hz.1]; exact q)
    -- the clause's class is looked up
    have look : ∀ {x : Str} {c : Value} {np : Pos} {Q : Value → Shared → Prop} {E : Value → Shared → Prop}, Names X x c → Q c { s' with heap := h3 } → wpAny (model X.prog X.w) (X.A.mark (some (.ref a))) (eval (.Name x np) X.env) Q E { s' with heap := h3 } := fun {x c np Q E} hc q => by
      obtain ⟨g1, g2, g3 | ⟨g3, g4, g5⟩⟩ := hc
      · exact ld_glob (X := X.suite a ((a, oe) :: (X.pn ++ pins))) S3 g1 g3 q g2
      · exact ld_blt (X := X.suite a ((a, oe) :: (X.pn ++ pins))) S3 g1 g3 g4 q g5 g2
    have all : ∀ {l : List ExceptHandler} {v : Ends → WX}, ClOk X Wout l v → v D cls d σ1 H1 → wpAny (model X.prog X.w) X.A (handleBy (.ref a) X.env l) (SP X pins D) X.xe { s' with heap := h3 } := by
      intro l v hk
      induction hk with
      | nil =>
        intro wish
        refine wpAny_handleBy_nil ?_
        obtain ⟨_, _, _, oe2, vs2, T, oT, ts2, he2, _, hd2, h1, _⟩ := id fl3
        unfold PySem.passOn
        refine wpAny_bind (wpAny_field he2 hd2 h1 ?_)
        rw [if_neg (show ¬ ((Value.ref T == Value.none) = true) from by simp)]
        have fin : wpAny (model X.prog X.w) X.A (setFlight (.ref a) X.env.frame) (fun _ s4 => wpAny (model X.prog X.w) X.A (throw (.ref a) : Sem Flow) (SP X pins D) X.xe s4) X.xe { s' with heap := h3 } := by
          rw [hf]
          refine HandSPX.setFlight_upZ fl3 fun h4 hh4 up4 => wpAny_throw (tk _ _ ?_)
          exact ⟨a, B, sI, pins, σ1, H1, cls, d, rfl, J, nb, (up.trans up3).trans up4, .inr (.inr (by rw [hs]; exact hh4)), na, os, ag, wish⟩
        first
          | exact wpAny_bind (wpAny_pure (wpAny_bind fin))
          | exact wpAny_bind fin
      | plain hc hsu r ih =>
        rintro ⟨k, hk1, yes, no⟩
        refine wpAny_handleBy_cons (codeAny_handlers_test (look hc ((PySem.W.exm_one (M := model X.prog X.w) J3.kIn looks hk1).here ?_))) (by intro q; cases q)
        cases k with
        | false =>
          show wpAny _ X.A (handleBy (.ref a) X.env _) _ _ _
          exact ih (no rfl)
        | true =>
          refine codeAny_handlers_suite (HandSPX.lands_againZ fl3 fun h4 fl4 up4 => ?_)
          obtain ⟨oe4, _, he4, hz4, hd4⟩ := fl4.there
          have S4 := (J.landed nb fl4.1 ((up.trans up3).trans up4) os ag : Inv X pins σ1 H1 { s' with heap := h4 }).suite he4 hd4 na nL nF
          refine wpAny_mono ((hsu a oe4 cls d (X.pn ++ pins) hz4 ⟨_, hd4⟩).run [] _ _ H1 _ S4 (yes rfl a na)) (fun f s6 e => ?_) (fun _ _ z => False.elim z)
          cases f with
          | ret u => obtain ⟨v6, σ6, H6, S6, r6, q6⟩ := e; exact ⟨_, _, _, S6.unsuite ok, r6, q6⟩
          | _ => obtain ⟨σ6, H6, S6, q6⟩ := e; exact ⟨_, _, S6.unsuite ok, q6⟩
      | @named x n c i ts b bs np p hds2 w2 hc hi hln hsu r ih =>
        rintro ⟨k, hk1, yes, no⟩
        refine wpAny_handleBy_cons (codeAny_handlers_test (look hc ((PySem.W.exm_one (M := model X.prog X.w) J3.kIn looks hk1).here ?_))) (by intro q; cases q)
        cases k with
        | false =>
          show wpAny _ X.A (handleBy (.ref a) X.env _) _ _ _
          exact ih (no rfl)
        | true =>
          refine codeAny_handlers_suite_as (HandSPX.lands_againZ fl3 fun h4 fl4 up4 => ?_)
          obtain ⟨oe4, _, he4, hz4, hd4⟩ := fl4.there
          have S4 := (J.landed nb fl4.1 ((up.trans up3).trans up4) os ag : Inv X pins σ1 H1 { s' with heap := h4 }).suite he4 hd4 na nL nF
          refine store_ok (X := X.suite a ((a, oe4) :: (X.pn ++ pins))) (v := .ref a) S4 hN hi (.inl hln) rfl (fun s5 S5 => ?_) (.inr hln)
          refine wpAny_mono ((hsu a oe4 cls d (X.pn ++ pins) hz4 ⟨_, hd4⟩).run [] s5 _ H1 _ S5 (yes rfl a na)) (fun f s6 e => ?_) (fun _ _ z => False.elim z)
          cases f with
          | ret u => obtain ⟨v6, σ6, H6, S6, r6, q6⟩ := e; exact gone_ok (S6.unsuite ok) hN hi hln fun s7 J7 => ⟨_, _, _, J7, r6, q6⟩
          | _ => obtain ⟨σ6, H6, S6, q6⟩ := e; exact gone_ok (S6.unsuite ok) hN hi hln fun s7 J7 => ⟨_, _, J7, q6⟩
    exact all hh wish
  refine wpAny_Try_except (wpAny_mono ((hb (w D) (X.pn ++ pins) XE1 caught PassesOwn.looking).run [] s σ H D (I.toTry _) hw) (fun f s1 e => ?_) (fun e s1 he => he))
  cases f with
  | next => obtain ⟨σ1, H1, J, q⟩ := e; exact wpAny_execs_nil ⟨σ1, H1, J.ofTry ok, q⟩
  | ret u => obtain ⟨v, σ1, H1, J, r, q⟩ := e; exact ⟨v, σ1, H1, J.ofTry ok, r, q⟩
  | _ => obtain ⟨σ1, H1, J, q⟩ := e; exact ⟨σ1, H1, J.ofTry ok, q⟩
end
end L2
namespace PD
open PySem PySem.Spec PyProof.Rows L2
theorem GoodO.setNo {K cl F W σ H ρ δ ω} (G : GoodO K cl F W σ H ρ δ ω) (i : Nat) (x : Option V) : GoodO K cl F W (σ.set i x) H (ρ.set i .no) δ ω ∧ Mv (Mo F W σ ρ) H (Mo F W (σ.set i x) (ρ.set i .no)) H := by
  obtain ⟨g, mv⟩ := G.g.setNo i x
  exact ⟨G.data g mv, mv⟩
def endO (D : Ends) : Option Nat → Ends
  | none => D
  | some i => endW D i
def stO (σ : L2.St) (a : Addr) : Option Nat → L2.St
  | none => σ
  | some i => σ.set i (some (.ref a))
/-- a clause: what its suite does with the exception x; it raises nothing -/
structure HdO (P : OPar) (K : PySem.W.Frag) (i : Option Nat) (ts : Addr → Value → Option Addr → TS) (h : Xv → MSo) : Prop where
  snd : ∀ WX F W σ H ρ δ ω a c d x r ρ' δ' ω', GoodO K P.cl F W σ H ρ δ ω → XvR P K (Mo F W σ ρ) H c d x → H a = none → h x ρ δ ω = some (r, ρ', δ', ω') → ∀ D : Ends,
    (∀ σ' W' H', GoodO K P.cl F W' σ' H' ρ' δ' ω' → Mv (Mo F W σ ρ) H (Mo F W' σ' ρ') H' → ExtW W W' → PoS P K F WX D σ' W' H' ρ' r) → ts a c d (endO D i) (stO σ a i) H
def hdM : List ((Nat → Bool) × (Xv → MSo)) → Xv → MSo
  | [] => fun x ρ δ ω => some (.inl x, ρ, δ, ω)
  | y :: r => fun x => if y.1 x.c = true then y.2 x else hdM r x
inductive ClO (P : OPar) (X : Cx) : List ExceptHandler → List ((Nat → Bool) × (Xv → MSo)) → Prop
  | nil : ClO P X [] []
  | plain {x : Str} {c : Value} {ts : Addr → Value → Option Addr → TS} {b : Stmt} {bs : List Stmt} {np p : Pos} {hds : List ExceptHandler} {l : List ((Nat → Bool) × (Xv → MSo))} {s : Nat → Bool} {h : Xv → MSo} : Names X x c → Suites X ts (b :: bs) → HdO P X.K none ts h → (∀ j, PySem.W.exmOne X.K (.ref (P.xc j)) c = some (s j)) → ClO P X hds l →
      ClO P X (.ExceptHandler (some (.Name x np)) none (b :: bs) p :: hds) ((s, h) :: l)
  | named {x n : Str} {c : Value} {i : Nat} {ts : Addr → Value → Option Addr → TS} {b : Stmt} {bs : List Stmt} {np p : Pos} {hds : List ExceptHandler} {l : List ((Nat → Bool) × (Xv → MSo))} {s : Nat → Bool} {h : Xv → MSo} : Names X x c → X.N[i]? = some n → X.env.kindOf n = some .local → Suites X ts (b :: bs) → HdO P X.K (some i) ts h → (∀ j, PySem.W.exmOne X.K (.ref (P.xc j)) c = some (s j)) → ClO P X hds l →
      ClO P X (.ExceptHandler (some (.Name x np)) (some n) (b :: bs) p :: hds) ((s, h) :: l)
def SndCl (P : OPar) (K : PySem.W.Frag) (w : L2.WX → Ends → L2.WX) (l : List ((Nat → Bool) × (Xv → MSo))) : Prop := ∀ WX F W σ H ρ δ ω c d x r ρ' δ' ω', GoodO K P.cl F W σ H ρ δ ω → XvR P K (Mo F W σ ρ) H c d x → hdM l x ρ δ ω = some (r, ρ', δ', ω') → ∀ D : Ends,
  (∀ σ' W' H', GoodO K P.cl F W' σ' H' ρ' δ' ω' → Mv (Mo F W σ ρ) H (Mo F W' σ' ρ') H' → ExtW W W' → PoS P K F WX D σ' W' H' ρ' r) → w WX D c d σ H
section
variable {P : OPar} {X : Cx} {h₀ : ExceptHandler} {hds : List ExceptHandler} {l : List ((Nat → Bool) × (Xv → MSo))} {body : List Stmt} {m : MSo} {pos : Pos}
theorem ClO.ex (h : ClO P X hds l) : ∃ w : L2.WX → Ends → L2.WX, (∀ (pn : List (Addr × Obj)) (xe : Value → Shared → Prop) WX, ClOk (X.tr pn xe) WX hds (w WX)) ∧ SndCl P X.K w l := by
  induction h with
  | nil =>
    refine ⟨fun WX _ => WX, fun pn xe WX => .nil, fun WX F W σ H ρ δ ω c d x r ρ' δ' ω' G R e D q => ?_⟩
    cases e
    exact q σ W H G (Mv.refl _ _) (ExtW.refl W) c d R
  | @plain x c ts b bs np p hds l s h hc hsu hh hx _ ih =>
    obtain ⟨w, i1, i2⟩ := ih
    refine ⟨fun WX D cls d σ H => ∃ k, PySem.W.exmOne X.K cls c = some k ∧ (k = true → ∀ a, H a = none → ts a cls d D σ H) ∧ (k = false → w WX D cls d σ H), fun pn xe WX => .plain (X := X.tr pn xe) hc hsu (i1 pn xe WX), fun WX F W σ H ρ δ ω c' d x r ρ' δ' ω' G R e D q => ?_⟩
    refine ⟨s x.c, by rw [R.1]; exact hx x.c, fun hs a ha => ?_, fun hs => ?_⟩
    · unfold hdM at e
      rw [if_pos hs] at e
      exact hh.snd WX F W σ H ρ δ ω a c' d x r ρ' δ' ω' G R ha e D q
    · unfold hdM at e
      rw [if_neg (show ¬ (s x.c = true) from by rw [hs]; decide)] at e
      exact i2 WX F W σ H ρ δ ω c' d x r ρ' δ' ω' G R e D q
  | @named x n c i ts b bs np p hds l s h hc hi hln hsu hh hx _ ih =>
    obtain ⟨w, i1, i2⟩ := ih
    refine ⟨fun WX D cls d σ H => ∃ k, PySem.W.exmOne X.K cls c = some k ∧ (k = true → ∀ a, H a = none → ts a cls d (endW D i) (σ.set i (some (.ref a))) H) ∧ (k = false → w WX D cls d σ H), fun pn xe WX => .named (X := X.tr pn xe) hc hi hln hsu (i1 pn xe WX), fun WX F W σ H ρ δ ω c' d x r ρ' δ' ω' G R e D q => ?_⟩
    refine ⟨s x.c, by rw [R.1]; exact hx x.c, fun hs a ha => ?_, fun hs => ?_⟩
    · unfold hdM at e
      rw [if_pos hs] at e
      exact hh.snd WX F W σ H ρ δ ω a c' d x r ρ' δ' ω' G R ha e D q
    · unfold hdM at e
      rw [if_neg (show ¬ (s x.c = true) from by rw [hs]; decide)] at e
      exact i2 WX F W σ H ρ δ ω c' d x r ρ' δ' ω' G R e D q
def qTry (m : MSo) (l : List ((Nat → Bool) × (Xv → MSo))) : MSo := fun ρ δ ω => (m ρ δ ω).bind fun p => match p.1 with
  | .inl x => hdM l x p.2.1 p.2.2.1 p.2.2.2
  | .inr _ => some p
theorem pdq_try (hs : X.stack = X.env :: X.outer) (hf : X.env.frame = some X.env.locals) (hN : X.N.Nodup) (hb : PDSso P X body m) (hh : ClO P X (h₀ :: hds) l) : PDSo P X (.Try body (h₀ :: hds) [] [] pos) (qTry m l) := by
  obtain ⟨tb, p1, s1⟩ := hb.ex
  obtain ⟨w, p2, s2⟩ := hh.ex
  refine ⟨fun WX D σ H => tb (w WX D) D σ H, fun WX pn xe tk po => ps_try_cl (X := X.tr pn xe) (w := w WX) hs hf hN tk (fun W pn' xe' tk' po' => p1 W pn' xe' tk' po') (p2 pn xe WX), fun WX F W σ H ρ δ ω r ρ' δ' ω' G e D q => ?_⟩
  obtain ⟨⟨r1, ρ1, δ1, ω1⟩, e1, e⟩ := Option.bind_eq_some_iff.mp e
  cases r1 with
  | inr f =>
    cases e
    exact s1 (w WX D) F W σ H ρ δ ω _ _ _ _ G e1 D fun σ1 W1 H1 G1 M1 E1 => by
      have z := q σ1 W1 H1 G1 M1 E1
      cases f <;> exact z
  | inl x =>
    refine s1 (w WX D) F W σ H ρ δ ω _ _ _ _ G e1 D fun σ1 W1 H1 G1 M1 E1 => ?_
    exact fun c d R => s2 WX F W1 σ1 H1 ρ1 δ1 ω1 c d x r ρ' δ' ω' G1 R e D fun σ2 W2 H2 G2 M2 E2 => q σ2 W2 H2 G2 (M1.trans M2) (E1.trans E2)
end
end PD
namespace L2
open PySem PySem.Spec PyProof.Rows PySem.W Builtin
section
variable {prog : Program} {w : World} {A : Around} {E : Value → Shared → Prop} {s : Shared} {K : PySem.W.Frag} {x C L f : Addr} {h₀ : Heap} {m : Str → Option Value} {ox : Obj} {od : Option Obj} {b tb : Value}
theorem check_slot_K {M : Model} {id owner n : String} {rest : List Value} {Q : Unit → Shared → Prop} (hk : builtinKind id = some .slot) (hs : splitId id = some (owner, n))
    (ha : argsOk id ⟨.ref x :: rest, []⟩) (X : K.In s.heap) (I : InstAt s.heap x ox C od) (hob : PySem.W.subIn K (.ref C) (.type owner) = some true) (hq : Q () s) :
    wpAny M A (checkBuiltinCall id ⟨.ref x :: rest, []⟩) Q E s := by
  simp only [checkBuiltinCall, hk, hs]
  refine wpAny_bind ?_
  unfold isInstance
  refine wpAny_bind (I.type.here ((looks_subIn X hob).here ?_))
  simp only [Bool.not_true, Bool.false_eq_true, if_false]
  cases hsig : Manifest.signature? id with
  | none => exact wpAny_pure hq
  | some sig =>
    simp only [argsOk, hsig] at ha
    have h2 : Bind.checkArgs id sig ⟨.ref x :: rest, []⟩ = pure () := ha
    show wpAny M A (Bind.checkArgs id sig ⟨.ref x :: rest, []⟩) Q E _
    rw [h2]; exact wpAny_pure hq
theorem ifBoundB_K {M : Model} {name : Str} {id : String} {args : List Value} {Q : Option Value → Shared → Prop} (X : K.In s.heap) (I : InstAt s.heap x ox C od) (hs : PySem.W.findIn K (.ref C) name = some (some (.builtin id)))
    (hbd : ∀ self, bindSpecial (.builtin id) self = pure (.builtin id, [self]))
    (h : wpAny M A (call (.builtin id) (.ref x :: args)) (fun v => Q (some v)) E s) : wpAny M A (callSpecialIfBound? (.ref x) name args) Q E s := by
  simp only [callSpecialIfBound?, bindSpecialIfBound?]
  refine wpAny_holding (wpAny_bind (wpAny_bind (wpAny_bind (I.type.here ((looks_findIn X hs).here ?_)))))
  simp only [hbd]
  refine wpAny_bind (wpAny_askSetting (wpAny_ite ?_))
  have fin : wpAny M A (call (.builtin id) ([.ref x] ++ args) >>= fun v => pure (some v)) Q E s := wpAny_bind (wpAny_mono h (fun v s' h' => wpAny_pure h') fun _ _ h' => h')
  split
  · exact wpAny_bind (wpAny_pure (wpAny_pure fin))
  · exact wpAny_tryCatch (wpAny_bind (wpAny_pure (wpAny_pure fin)))
theorem objNe_K {b : Value} (X : K.In s.heap) (I : InstAt s.heap x ox C od) (hs : PySem.W.findIn K (.ref C) "__eq__" = some (some (.ref f))) (hf : PySem.W.isFn K (.ref f) = true) (hu : A.units < cLine) {Q : Fin → Shared → Prop}
    (hcall : wpAny (model prog w) A (call (.ref f) [.ref x, b]) (fun v s' => ∃ t, v = .bool t ∧ Q (.done (.ret (.bool (!t)))) s') E s) :
    wpAny (model prog w) A (Builtin.«object.__ne__» ⟨[.ref x, b], []⟩) Q E s := by
  unfold Builtin.«object.__ne__»
  repeat (first
    | with_reducible refine wpAny_cRoomFor hu ?_
    | (refine wpAny_bind (m := callSpecialIfBound? (.ref x) (Str.ofString "__eq__") [b])
        (ifBound_K X I hs hf (wpAny_mono hcall (fun r s' hr => by
          obtain ⟨b, rfl, hq⟩ := hr
          repeat (first | exact hq | exact wpAny_pure hq | exact wpAny_truthy_bool hq | (refine wpAny_bind (m := truthy (.bool _)) (wpAny_truthy_bool ?_)) | wp_step)) fun _ _ e => e)))
    | wp_step)
theorem ne_K {Q : Value → Shared → Prop} (hu : A.units + 1 < cLine) (X : K.In s.heap) (I : InstAt s.heap x ox C od) (hb : Looks (model prog w) s.heap (typeOf b) tb) (hn : notFirst K C tb = true)
    (hne : PySem.W.findIn K (.ref C) "__ne__" = some (some (.builtin "object.__ne__"))) (hob : PySem.W.subIn K (.ref C) (.type "object") = some true)
    (hs : PySem.W.findIn K (.ref C) "__eq__" = some (some (.ref f))) (hf : PySem.W.isFn K (.ref f) = true)
    (h : wpAny (model prog w) A.in1 (call (.ref f) [.ref x, b]) (fun v s' => ∃ t, v = .bool t ∧ Q (.bool (!t)) s') E s) : wpAny (model prog w) A (richCompare .NotEq (.ref x) b) Q E s := by
  have FB := PySem.F.cmp_object
  have one : wpAny (model prog w) A (tryCompare (.ref x) "__ne__" b) (fun r s' => ∃ v, r = some v ∧ Q v s') E s := by
    unfold tryCompare
    refine wpAny_bind (ifBoundB_K X I hne FB.ne.bind (wpAny_call (codeAny_call_builtin FB.ne.plain PySem.F.cmpEntry_ne (check_slot_K PySem.F.cmpKind_ne PySem.F.cmpSplit_ne (PySem.F.cmpArgs_ne _ _) X I hob (objNe_K (A := A.in1) X I hs hf hu (wpAny_mono h (fun v s' hv => ?_) fun _ _ e => e))))))
    obtain ⟨t, rfl, hq⟩ := hv
    exact ⟨t, rfl, wpAny_pure ⟨_, rfl, hq⟩⟩
  unfold richCompare
  simp only [oneThing_ref]
  refine wpAny_holding (wpAny_bind (wpAny_cRoomFor (Nat.lt_of_succ_lt hu) ?_))
  rw [cmpInfo_NotEq]
  dsimp only
  refine wpAny_bind (I.type.here (wpAny_bind (hb.here ?_)))
  split
  · rename_i q
    have e : PySem.W.subIn K tb (.ref C) = some false := by
      rcases Bool.or_eq_true_iff.mp hn with e | e
      · rw [beq_iff_eq.mp e] at q; simp at q
      · exact beq_iff_eq.mp e
    refine wpAny_bind ((looks_subIn X e).here ?_)
    simp only [Bool.false_eq_true, if_false]
    refine wpAny_bind (wpAny_mono one (fun r s' z => ?_) fun _ _ e => e)
    obtain ⟨v, rfl, hq⟩ := z
    exact wpAny_pure hq
  · refine wpAny_bind (wpAny_pure ?_)
    simp only [Bool.false_eq_true, if_false]
    refine wpAny_bind (wpAny_mono one (fun r s' z => ?_) fun _ _ e => e)
    obtain ⟨v, rfl, hq⟩ := z
    exact wpAny_pure hq
end
/-- what class the other one is of -/
def TyV (K : PySem.W.Frag) (H : Hp) (y : V) (tb : Value) : Prop := TyX K H y tb ∨ ∃ b C' dy gs, y = .ref b ∧ H b = some (.ins C' dy gs) ∧ tb = .ref C'
section
variable {X : Cx} {pins : List (Addr × Obj)} {σ : St} {H : Hp} {s : Shared} {C f : Addr} {fd : FuncData} {ps : List Str} {sp : Sp} {n : Nat} {CX : CXT}
theorem TyV.looks {y : V} {u tb : Value} (I : Inv X pins σ H s) (r : RelV y u) (h : TyV X.K H y tb) : Looks (model X.prog X.w) s.heap (typeOf u) tb := by
  rcases h with t | ⟨b, C', dy, gs, rfl, e, rfl⟩
  · obtain ⟨P, Z, p, _⟩ := kit_of I r t
    exact Z.ty _ _ I.kIn p
  · cases (show u = Value.ref b from r)
    obtain ⟨mB, J, _⟩ := ins_get I.hok e
    obtain ⟨od, J, _⟩ := J.look
    exact J.type
/-- what a class with an own == has -/
structure EqC (K : PySem.W.Frag) (C f : Addr) : Prop where
  eq : PySem.W.findIn K (.ref C) "__eq__" = some (some (.ref f))
  fn : PySem.W.isFn K (.ref f) = true
  ne : PySem.W.findIn K (.ref C) "__ne__" = some (some (.builtin "object.__ne__"))
  ob : PySem.W.subIn K (.ref C) (.type "object") = some true
def rEqI (K : PySem.W.Frag) (C : Addr) (neg : Bool) (sp : Sp) : R2 := fun x y H Q => ∃ a dx fs tb, x = .ref a ∧ H a = some (.ins C dx fs) ∧ TyV K H y tb ∧ PySem.W.notFirst K C tb = true ∧ sp [x, y] H (fun z H' => ∃ b : Bool, z = .bl b ∧ Q (.bl (xor neg b)) H') E0
theorem op_eqI (neg : Bool) (ec : EqC X.K C f) (F : FnOk X.prog X.w X.K X.mg X.base CX n f fd ps sp) (hr : Room (n + 1) X.A) (hb : Binds X.K fd ps []) (hx : Passes CX X E0) : OpR X (compareOp (if neg = true then .NotEq else .Eq)) (rEqI X.K C neg sp) := by
  intro pins s σ H x y v u Q I rx ry h
  obtain ⟨a, dx, fs, tb, rfl, ha, ht, hn, q⟩ := h
  cases (show v = Value.ref a from rx)
  have lk := ht.looks I ry
  obtain ⟨mA, J, _⟩ := ins_get I.hok ha
  obtain ⟨od, J, _⟩ := J.look
  obtain ⟨m, hF⟩ := I.fr
  have run : ∀ {A : Around}, Room n A → Env0 X.prog X.w X.K X.mg X.base A X.stack s H → wpAny (model X.prog X.w) A (call (.ref f) [.ref a, u]) (EP X pins σ fun z H' => ∃ b : Bool, z = .bl b ∧ Q (.bl (xor neg b)) H') X.xe s := fun {A} hrA e0 => by
    have r2 : Vals [V.ref a, y] [Value.ref a, u] := .cons rfl (.cons ry .nil)
    have hl := F.len _ _ _ _ q
    refine wpAny_call (codeAny_mono (F.run A X.stack s H ⟨[.ref a, u], []⟩ [.ref a, u] [.ref a, y] _ E0 hrA e0 (by
      have := hb s [.ref a, u] I.kIn (by simpa using hl)
      simpa using this) r2 q) fun r s' hq => ?_)
    cases r with
    | error e => exact hx pins σ H s e s' I hq
    | ok fl =>
      cases fl with
      | ret w => exact I.after hq
      | next => exact False.elim hq
      | brk => exact False.elim hq
      | cont => exact False.elim hq
  cases neg with
  | false =>
    show wpAny _ _ (richCompare .Eq _ _) _ _ _
    refine PySem.W.cmp_K (op := .Eq) (tb := tb) hr.units0 hF I.ok.mod.kin J lk hn ec.eq ec.fn (wpAny_mono (run (hr.mono (Nat.le_succ n)) I.env0) (fun w s' z => ?_) fun _ _ x => x)
    obtain ⟨z', H', I', rz, b, rfl, qz⟩ := z
    cases (show w = Value.bool b from rz)
    rw [Bool.false_xor] at qz
    exact ⟨.bl b, H', I', rfl, qz⟩
  | true =>
    show wpAny _ _ (richCompare .NotEq _ _) _ _ _
    refine ne_K (tb := tb) (by have := hr.units; omega) I.kIn J lk hn ec.ne ec.ob ec.eq ec.fn (wpAny_mono (run hr.in1 I.env0.in1) (fun w s' z => ?_) fun _ _ x => x)
    obtain ⟨z', H', I', rz, b, rfl, qz⟩ := z
    cases (show w = Value.bool b from rz)
    rw [Bool.true_xor] at qz
    exact ⟨b, rfl, .bl !b, H', I', rfl, qz⟩
/-- len(o), o an object with an own __len__ -/
def rLenI (C : Addr) (sp : Sp) : List V → Hp → VK → Prop := fun xs H Q => ∃ a dx fs, xs = [.ref a] ∧ H a = some (.ins C dx fs) ∧ sp [.ref a] H (fun z H' => ∃ i : Int, z = .int i ∧ 0 ≤ i ∧ i < 2 ^ 63 ∧ Q (.int i) H') E0
theorem call_lenI (hs : PySem.W.findIn X.K (.ref C) "__len__" = some (some (.ref f))) (hf : PySem.W.isFn X.K (.ref f) = true) (F : FnOk X.prog X.w X.K X.mg X.base CX n f fd ps sp) (hr : Room (n + 2) X.A) (hb : Binds X.K fd ps []) (hx : Passes CX X E0) : CallR X (.builtin "len") (rLenI C sp) := by
  intro pins s σ H xs us Q I r h
  obtain ⟨a, dx, fs, rfl, ha, q⟩ := h
  obtain ⟨u, rfl, ru⟩ := r.one
  cases (show u = Value.ref a from ru)
  obtain ⟨mA, J, _⟩ := ins_get I.hok ha
  obtain ⟨od, J, _⟩ := J.look
  obtain ⟨m, hF⟩ := I.fr
  have hr1 : Room n X.A.in1 := (show Room (n + 1) X.A.in1 from Room.in1 hr).mono (Nat.le_succ n)
  have hl := F.len _ _ _ _ q
  refine PySem.W.len_K hF I.ok.mod.kin J hs hf (wpAny_call (codeAny_mono (F.run X.A.in1 X.stack s H ⟨[.ref a], []⟩ [.ref a] [.ref a] _ E0 hr1 I.env0.in1 (by
      have := hb s [.ref a] I.kIn (by simpa using hl)
      simpa using this) (.cons rfl .nil) q) fun r s' hq => ?_))
  cases r with
  | error e => exact hx pins σ H s e s' I hq
  | ok fl =>
    cases fl with
    | ret w =>
      obtain ⟨z, H', I', rz, i, rfl, h0, h1, qz⟩ := I.after hq
      obtain ⟨t, rfl⟩ := (show ∃ t, w = Value.int i t from rz)
      exact ⟨⟨h0, h1⟩, .int i, H', I'.tok _, ⟨_, rfl⟩, qz⟩
    | next => exact False.elim hq
    | brk => exact False.elim hq
    | cont => exact False.elim hq
end
end L2
namespace PD
open PySem PySem.Spec PyProof.Rows L2
def dictLD : List D → Option D
  | [.list ds] => (pairsE ds).map fun ps => .dict ((putAll [] ps).map fun e => (keyD e.1, e.2))
  | _ => none
theorem cs_dictL {K} : CallS K (fun xs H Q => ∃ (a : Addr) (ps : List Addr) (kvs : List (Key × V)), xs = [.ref a] ∧ SqL K H a (ps.map V.ref) ∧ Paired (fun p kv => SqT K H p [kV kv.1, kv.2]) ps kvs ∧
    ∀ p, H p = none → Q (.ref p) (upd H p (.dK (mergeK [] kvs)))) dictLD := fun F σ H ρ δ xs ds z G R hz Q q => by
  unfold dictLD at hz
  split at hz
  · obtain ⟨ps, e1, hz⟩ := Option.map_eq_some_iff.mp hz
    cases hz
    obtain ⟨v, rfl, r⟩ := reps1 R
    cases r with
    | @lst a vs _ ha r =>
      obtain ⟨as, kvs, rfl, hp, hr⟩ := pairs_rep r e1
      refine ⟨a, as, kvs, rfl, ha.sq, hp, fun p hn => ?_⟩
      have R2 : RepD K _ H (mergeK [] kvs) (putAll [] ps) := RepD.merge .nil hr
      have k := upd_keeps (o := .dK (mergeK [] kvs)) hn
      exact q _ _ k (.dic (G.mfree hn) (.inl upd_same) ((R2.repK).mv (Mv.same k)))
  · cases hz
def dictCD : List D → Option D
  | [.dict es] => some (.dict es)
  | _ => none
theorem cs_dictC {K} : CallS K (fun xs H Q => ∃ (a : Addr) (kvs : List (Key × V)), xs = [.ref a] ∧ Rd H a (.dK kvs) ∧ ∀ p, H p = none → Q (.ref p) (upd H p (.dK kvs))) dictCD := fun F σ H ρ δ xs ds z G R hz Q q => by
  unfold dictCD at hz
  split at hz
  · cases hz
    obtain ⟨v, rfl, r⟩ := reps1 R
    cases r with
    | @dic _ kvs _ n hr rk =>
      refine ⟨_, _, rfl, hr, fun p hn => ?_⟩
      have k := upd_keeps (o := HO.dK kvs) hn
      exact q _ _ k (.dic (G.mfree hn) (.inl upd_same) (rk.mv (Mv.same k)))
  · cases hz
section
variable {P : OPar} {X : Cx} {e : Expr} {es : List Expr} {r : MA} {ro : MAo} {p pos : Pos}
theorem pd_dictL (hc : X.calm = true) (hm : X.mg "dict" = none) (ha : PDA X (e :: es) r) (hg : Gl X "dict" := by rfl) (he : starEach (e :: es) X.env = (false, eval e X.env) :: starEach es X.env := by rfl) (hpl : (backTo pos (starEach es X.env)).any (·.1) = false := by rfl) : PD X (.Call (.Name "dict" p) (e :: es) [] pos) (mCall dictLD r) := pd_ct (by decide +kernel) (call_dictP hc) cs_dictL ha hg hm (by decide) (by decide) he hpl
theorem pd_dictC (hm : X.mg "dict" = none) (ha : PDA X (e :: es) r) (hg : Gl X "dict" := by rfl) (he : starEach (e :: es) X.env = (false, eval e X.env) :: starEach es X.env := by rfl) (hpl : (backTo pos (starEach es X.env)).any (·.1) = false := by rfl) : PD X (.Call (.Name "dict" p) (e :: es) [] pos) (mCall dictCD r) := pd_ct (by decide +kernel) call_dictD cs_dictC ha hg hm (by decide) (by decide) he hpl
theorem pdo_repr (hm : X.mg "repr" = none) (hgd : X.A.guards = some []) (hu : X.A.units + 65 < cLine) (ha : PDAo P X (e :: es) ro) (hg : Gl X "repr" := by rfl) (he : starEach (e :: es) X.env = (false, eval e X.env) :: starEach es X.env := by rfl) (hpl : (backTo pos (starEach es X.env)).any (·.1) = false := by rfl) : PDo P X (.Call (.Name "repr" p) (e :: es) [] pos) (mCbO reprD ro) :=
  pdo_cb (by decide +kernel) (fun pn xe => call_reprD (X := X.tr pn xe) hgd hu) cs_repr ha hg hm (by decide) (by decide) he hpl
theorem pdo_lenD (hm : X.mg "len" = none) (ha : PDAo P X (e :: es) ro) (hg : Gl X "len" := by rfl) (he : starEach (e :: es) X.env = (false, eval e X.env) :: starEach es X.env := by rfl) (hpl : (backTo pos (starEach es X.env)).any (·.1) = false := by rfl) : PDo P X (.Call (.Name "len" p) (e :: es) [] pos) (mCbO lenD ro) := pdo_cb PySem.boot_len (fun _ _ => call_len) cs_len ha hg hm (by decide) (by decide) he hpl
end
def rV (j : Nat) (m : List D → Option (Option D)) : FnV := fun ds => (m ds).map fun r => match r with
  | some d => .inr d
  | none => .inl ⟨j, []⟩
theorem spR_V {P : OPar} {K : PySem.W.Frag} {C : Addr} {j : Nat} {m : List D → Option (Option D)} (hj : P.xc j = C) (hn : P.xn j = []) {vs : List V} {H : Hp} {Q : VK} {E : XK} (h : spV P K (rV j m) vs H Q E) : spR K C m vs H Q E := by
  obtain ⟨M, ds, r, hM, R, hm, q⟩ := h
  obtain ⟨r0, e0, e1⟩ := Option.map_eq_some_iff.mp hm
  refine ⟨M, ds, r0, hM, R, e0, ?_⟩
  cases r0 with
  | some d => cases e1; exact q
  | none =>
    cases e1
    exact fun H' k => q _ none H' k ⟨by rw [hj], .inl ⟨hn, rfl, rfl⟩⟩
theorem okR_V {PP : OPar} {PR : Program} {w : World} {K : PySem.W.Frag} {mg : Str → Option Value} {base : Heap} {CX : CXT} {k : Nat} {f C : Addr} {fd : FuncData} {ps : List Str} {j : Nat} {m : List D → Option (Option D)} (hj : PP.xc j = C) (hn : PP.xn j = []) (F : FnOk PR w K mg base CX k f fd ps (spR K C m)) : FnOk PR w K mg base CX k f fd ps (spV PP K (rV j m)) := F.imp fun _ _ _ _ h => spR_V hj hn h
end PD
namespace PD
open PySem PySem.Spec PyProof.Rows L2
def tyOV (ω : Os) : OV → Option (String ⊕ Nat)
  | .dat d => some (.inl (tyD d))
  | .ob k => (ω.o[k]?).map fun o => .inr o.c
  | .obs _ => some (.inl "tuple")
def tyVal (P : OPar) : String ⊕ Nat → Value
  | .inl T => .type T
  | .inr c => .ref (P.cl c)
theorem tyOV_r {K : PySem.W.Frag} {P : OPar} {F : FrO} {W : OW} {σ : L2.St} {H : Hp} {ρ : List Sl} {δ : Dk} {ω : Os} {v : V} {x : OV} {t : String ⊕ Nat} (G : GoodO K P.cl F W σ H ρ δ ω) (R : OVR K (Mo F W σ ρ) H W v x) (e : tyOV ω x = some t) : TyV K H v (tyVal P t) := by
  cases x with
  | dat d =>
    cases e
    exact .inl (Rep.ty R)
  | ob k =>
    obtain ⟨o, e1, e2⟩ := Option.map_eq_some_iff.mp e
    cases e2
    obtain ⟨p, a1, rfl⟩ := R
    obtain ⟨fs, f1, _⟩ := G.ob k o p e1 a1
    exact .inr ⟨p.1, P.cl o.c, p.2, fs, rfl, f1, rfl⟩
  | obs js =>
    cases e
    obtain ⟨a, xs, rfl, ha, _⟩ := R
    have z : Rep K (Mo F W σ ρ) H (.ref a) (.tuple []) ∨ TyX K H (.ref a) (.type "tuple") := .inr (by
      rcases ha with ⟨⟨_, a⟩, _⟩ | ⟨⟨o, its, n, e, c, _⟩, _⟩ | ⟨_, o, a, _⟩ | ⟨_, o, a, _, _⟩
      · exact .base (.tup a)
      · exact .kTuple e c
      · exact .fTuple a
      · exact .fTuple a)
    exact z.elim (fun z => .inl z.ty) .inl
/-- the call of an own def whose end is a value -/
theorem spo_run0 {P : OPar} {K : PySem.W.Frag} {m : FnO} {F : FrO} {W : OW} {σ : L2.St} {H : Hp} {ρ : List Sl} {δ : Dk} {ω ω' : Os} {vs : List V} {xs : List OV} {y : OV} {Q : VK} {E : XK} (G : GoodO K P.cl F W σ H ρ δ ω) (R : OVsR K (Mo F W σ ρ) H W vs xs) (e : m xs ω = some (.inr y, ω'))
    (q : ∀ v W' H', GoodO K P.cl F W' σ H' ρ δ ω' → Mv (Mo F W σ ρ) H (Mo F W' σ ρ) H' → ExtW W W' → OVR K (Mo F W' σ ρ) H' W' v y → Q v H') : spO P K m vs H Q E := by
  obtain ⟨C, M1⟩ := G.call
  refine ⟨callF F W σ H ρ, W, xs, ω, .inr y, ω', rfl, C, R.mv M1 (ExtW.refl W), e, ?_⟩
  intro v W' H' C' R'
  obtain ⟨G2, M2, E2, B2⟩ := G.back C'
  exact q v W' H' G2 M2 E2 (R'.mv B2 (ExtW.refl W'))
def okTy (c : Nat) (tys : List String) : Option (String ⊕ Nat) → Bool
  | some (.inl T) => tys.contains T
  | some (.inr c') => c' == c
  | none => false
def mEqO (c : Nat) (tys : List String) (neg : Bool) (m : FnO) (ma mb : MEo) : MEo := fun ρ δ ω => bO (ma ρ δ ω) fun x δ1 ω1 => bO (mb ρ δ1 ω1) fun y δ2 ω2 => match x with
  | .ob k => (ω2.o[k]?).bind fun o => if o.c = c ∧ okTy c tys (tyOV ω2 y) = true then (m [.ob k, y] ω2).bind fun z => match z with
      | (.inr (.dat (.bool b)), ω3) => some (.inr (.dat (.bool (xor neg b))), δ2, ω3)
      | _ => none
    else none
  | _ => none
section
variable {P : OPar} {X : Cx} {a b e : Expr} {es : List Expr} {ma mb : MEo} {p pos : Pos} {f : Addr} {fd : FuncData} {ps : List Str} {k c : Nat} {m : FnO} {tys : List String}
theorem sndo_eqI {neg : Bool} {ta tb : L2.WX → TE} (hn : ∀ T ∈ tys, PySem.W.notFirst X.K (P.cl c) (.type T) = true) (ha : SndO P X.K ta ma) (hb : SndO P X.K tb mb) : SndO P X.K (fun WX => tOp (rEqI X.K (P.cl c) neg (spO P X.K m)) (ta WX) (tb WX)) (mEqO c tys neg m ma mb) := fun WX F W σ H ρ δ ω rr δ' ω' G e Q q => by
  rcases bO_some e with ⟨x, δ1, ω1, e1, e⟩ | ⟨x, δ1, ω1, e1, e⟩
  · cases e
    exact ha WX F W σ H ρ δ ω _ _ _ G e1 _ q
  · refine ha WX F W σ H ρ δ ω _ _ _ G e1 _ fun v W1 H1 G1 M1 E1 R1 => ?_
    rcases bO_some e with ⟨y, δ2, ω2, e2, e⟩ | ⟨y, δ2, ω2, e2, e⟩
    · cases e
      exact hb WX F W1 σ H1 ρ δ1 ω1 _ _ _ G1 e2 _ (Out.mv q M1 E1)
    · refine hb WX F W1 σ H1 ρ δ1 ω1 _ _ _ G1 e2 _ fun u W2 H2 G2 M2 E2 R2 => ?_
      cases x with
      | dat d => cases e
      | obs js => cases e
      | ob k =>
        obtain ⟨o, o1, e⟩ := Option.bind_eq_some_iff.mp e
        split at e
        · rename_i hz
          obtain ⟨hc, ht⟩ := hz
          obtain ⟨⟨z, ω3⟩, e3, e⟩ := Option.bind_eq_some_iff.mp e
          obtain ⟨pp, a1, rfl⟩ := R1
          have a2 := E2.a _ _ a1
          obtain ⟨fs, f1, f2⟩ := G2.ob k o pp o1 a2
          obtain ⟨t, et⟩ : ∃ t, tyOV ω2 y = some t := by
            cases h : tyOV ω2 y with
            | some t => exact ⟨t, rfl⟩
            | none => rw [h] at ht; cases ht
          have tv := tyOV_r G2 R2 et
          rw [et] at ht
          refine ⟨pp.1, pp.2, fs, tyVal P t, rfl, by rw [← hc]; exact f1, tv, ?_, ?_⟩
          · cases t with
            | inl T => exact hn T (by simpa [okTy] using ht)
            | inr c' =>
              have : c' = c := by simpa [okTy] using ht
              subst this
              simp [PySem.W.notFirst, tyVal]
          · match z, e with
            | .inl x, e => cases e
            | .inr (.dat (.bool bb)), e =>
              cases e
              refine spo_run0 G2 (xs := [.ob k, y]) ⟨⟨pp, a2, rfl⟩, R2, trivial⟩ e3 fun w W3 H3 G3 M3 E3 R3 => ?_
              cases (show w = V.bl bb from by cases R3; rfl)
              exact ⟨bb, rfl, q _ W3 H3 G3 ((M1.trans M2).trans M3) ((E1.trans E2).trans E3) (Rep.bl _)⟩
            | .inr (.dat .none), e => cases e
            | .inr (.dat (.int _)), e => cases e
            | .inr (.dat (.str _)), e => cases e
            | .inr (.dat (.list _)), e => cases e
            | .inr (.dat (.tuple _)), e => cases e
            | .inr (.dat (.dict _)), e => cases e
            | .inr (.ob _), e => cases e
            | .inr (.obs _), e => cases e
        · cases e
theorem op_eq1 {Y : Cx} {sp : Sp} {C : Addr} {CX : CXT} (ec : EqC Y.K C f) (Fn : FnOk Y.prog Y.w Y.K Y.mg Y.base CX k f fd ps sp) (hr : Room (k + 1) Y.A) (hbd : Binds Y.K fd ps []) (hx : Passes CX Y E0) : OpR Y (compareOp .Eq) (rEqI Y.K C false sp) := op_eqI false ec Fn hr hbd hx
theorem op_ne1 {Y : Cx} {sp : Sp} {C : Addr} {CX : CXT} (ec : EqC Y.K C f) (Fn : FnOk Y.prog Y.w Y.K Y.mg Y.base CX k f fd ps sp) (hr : Room (k + 1) Y.A) (hbd : Binds Y.K fd ps []) (hx : Passes CX Y E0) : OpR Y (compareOp .NotEq) (rEqI Y.K C true sp) := op_eqI true ec Fn hr hbd hx
theorem sndo_b {t : L2.WX → TE} (s1 : SndO P X.K t ma) : SndTO P X.K (fun WX σ H Q => t WX σ H fun v H1 => ∃ b : Bool, v = .bl b ∧ Q b H1) (mBO ma) := fun WX F W σ H ρ δ ω rr δ' ω' G e Q q => by
  rcases bO_some e with ⟨x, δ1, ω1, e1, e⟩ | ⟨x, δ1, ω1, e1, e⟩
  · cases e
    exact s1 WX F W σ H ρ δ ω _ _ _ G e1 _ q
  · refine s1 WX F W σ H ρ δ ω _ _ _ G e1 _ fun v W1 H1 G1 M1 E1 R1 => ?_
    split at e
    · cases e
      cases R1
      exact ⟨_, rfl, q W1 H1 G1 M1 E1⟩
    · cases e
theorem pdo_eqO (ec : EqC X.K (P.cl c) f) (hn : ∀ T ∈ tys, PySem.W.notFirst X.K (P.cl c) (.type T) = true) (Fn : FnOk X.prog X.w X.K X.mg X.base (L2.CX X.prog X.w) k f fd ps (spO P X.K m)) (hr : Room (k + 1) X.A) (hbd : Binds X.K fd ps []) (ha : PDo P X a ma) (hb : PDo P X b mb) (hm : behindInMarks .Eq b = false) : PDo P X (.Compare a [.Eq] [b] pos) (mEqO c tys false m ma mb) := by
  obtain ⟨ta, h1, s1⟩ := ha.ex
  obtain ⟨tb, h2, s2⟩ := hb.ex
  exact ⟨fun WX => tOp (rEqI X.K (P.cl c) false (spO P X.K m)) (ta WX) (tb WX), fun WX pn xe tk po => pe_cmpR (op_eq1 (Y := X.tr pn xe) ec Fn hr hbd passE) (h1 WX pn xe tk po) (h2 WX pn xe tk po) hm, sndo_eqI hn s1 s2⟩
theorem pdto_eqO (ec : EqC X.K (P.cl c) f) (hn : ∀ T ∈ tys, PySem.W.notFirst X.K (P.cl c) (.type T) = true) (Fn : FnOk X.prog X.w X.K X.mg X.base (L2.CX X.prog X.w) k f fd ps (spO P X.K m)) (hr : Room (k + 1) X.A) (hbd : Binds X.K fd ps []) (ha : PDo P X a ma) (hb : PDo P X b mb) (hm : behindInMarks .Eq b = false) : PDTo P X (.Compare a [.Eq] [b] pos) (mBO (mEqO c tys false m ma mb)) := by
  obtain ⟨ta, h1, s1⟩ := ha.ex
  obtain ⟨tb, h2, s2⟩ := hb.ex
  exact ⟨_, fun WX pn xe tk po => pt_cmpR (op_eq1 (Y := X.tr pn xe) ec Fn hr hbd passE) (h1 WX pn xe tk po) (h2 WX pn xe tk po) hm, sndo_b (sndo_eqI hn s1 s2)⟩
theorem pdto_neO (ec : EqC X.K (P.cl c) f) (hn : ∀ T ∈ tys, PySem.W.notFirst X.K (P.cl c) (.type T) = true) (Fn : FnOk X.prog X.w X.K X.mg X.base (L2.CX X.prog X.w) k f fd ps (spO P X.K m)) (hr : Room (k + 1) X.A) (hbd : Binds X.K fd ps []) (ha : PDo P X a ma) (hb : PDo P X b mb) (hm : behindInMarks .NotEq b = false) : PDTo P X (.Compare a [.NotEq] [b] pos) (mBO (mEqO c tys true m ma mb)) := by
  obtain ⟨ta, h1, s1⟩ := ha.ex
  obtain ⟨tb, h2, s2⟩ := hb.ex
  exact ⟨_, fun WX pn xe tk po => pt_cmpR (op_ne1 (Y := X.tr pn xe) ec Fn hr hbd passE) (h1 WX pn xe tk po) (h2 WX pn xe tk po) hm, sndo_b (sndo_eqI hn s1 s2)⟩
def mLenI (c : Nat) (m : FnO) (ma : MEo) : MEo := fun ρ δ ω => bO (ma ρ δ ω) fun x δ1 ω1 => match x with
  | .ob k => (ω1.o[k]?).bind fun o => if o.c = c then (m [.ob k] ω1).bind fun z => match z with
      | (.inr (.dat (.int i)), ω2) => if 0 ≤ i ∧ i < 2 ^ 63 then some (.inr (.dat (.int i)), δ1, ω2) else none
      | _ => none
    else none
  | _ => none
theorem pdo_lenI (hs : PySem.W.findIn X.K (.ref (P.cl c)) "__len__" = some (some (.ref f))) (hf : PySem.W.isFn X.K (.ref f) = true) (hm : X.mg "len" = none) (Fn : FnOk X.prog X.w X.K X.mg X.base (L2.CX X.prog X.w) k f fd ps (spO P X.K m)) (hr : Room (k + 2) X.A) (hbd : Binds X.K fd ps []) (ha : PDo P X e ma)
    (hg : Gl X "len" := by rfl) (he : starEach [e] X.env = (false, eval e X.env) :: starEach [] X.env := by rfl) (hpl : (backTo pos (starEach [] X.env)).any (·.1) = false := by rfl) : PDo P X (.Call (.Name "len" p) [e] [] pos) (mLenI c m ma) := by
  obtain ⟨t, h1, s1⟩ := ha.ex
  refine ⟨fun WX => tCB (rLenI (P.cl c) (spO P X.K m)) (tCons (t WX) tNil), fun WX pn xe tk po => pe_callB (X := X.tr pn xe) (call_lenI (X := X.tr pn xe) hs hf Fn hr hbd passE) hg hm PySem.boot_len (pa_cons (h1 WX pn xe tk po) pa_nil he) (by decide) (by decide) he hpl, fun WX F W σ H ρ δ ω rr δ' ω' G e Q q => ?_⟩
  rcases bO_some e with ⟨x, δ1, ω1, e1, e⟩ | ⟨x, δ1, ω1, e1, e⟩
  · cases e
    exact s1 WX F W σ H ρ δ ω _ _ _ G e1 _ q
  · refine s1 WX F W σ H ρ δ ω _ _ _ G e1 _ fun v W1 H1 G1 M1 E1 R1 => ?_
    cases x with
    | dat d => cases e
    | obs js => cases e
    | ob k =>
      obtain ⟨o, o1, e⟩ := Option.bind_eq_some_iff.mp e
      split at e
      · rename_i hc
        obtain ⟨⟨z, ω3⟩, e3, e⟩ := Option.bind_eq_some_iff.mp e
        obtain ⟨pp, a1, rfl⟩ := R1
        obtain ⟨fs, f1, f2⟩ := G1.ob k o pp o1 a1
        match z, e with
        | .inl x, e => cases e
        | .inr (.dat (.int i)), e =>
          dsimp only at e
          split at e
          · rename_i hi
            cases e
            refine ⟨pp.1, pp.2, fs, rfl, by rw [← hc]; exact f1, spo_run0 G1 (xs := [.ob k]) ⟨⟨pp, a1, rfl⟩, trivial⟩ e3 fun w W3 H3 G3 M3 E3 R3 => ?_⟩
            cases (show w = V.int i from by cases R3; rfl)
            exact ⟨i, rfl, hi.1, hi.2, q _ W3 H3 G3 (M1.trans M3) (E1.trans E3) (Rep.int _)⟩
          · cases e
        | .inr (.dat .none), e => cases e
        | .inr (.dat (.bool _)), e => cases e
        | .inr (.dat (.str _)), e => cases e
        | .inr (.dat (.list _)), e => cases e
        | .inr (.dat (.tuple _)), e => cases e
        | .inr (.dat (.dict _)), e => cases e
        | .inr (.ob _), e => cases e
        | .inr (.obs _), e => cases e
      · cases e
/-- what isinstance asks of an own class -/
structure IsiC (K : PySem.W.Frag) (C : Addr) : Prop where
  cl : Cls K C
  ha : PySem.W.findIn K (.ref C) "__class__" = some (some (.builtin "object.__class__"))
  hn : PySem.W.specialIn K (.builtin "object.__class__") "__get__" = some (some (.builtin "getset_descriptor.__get__"))
  ht : PySem.W.takesIn K (.builtin "object.__class__") = some true
  hm : PySem.W.mroIn K C (.type "object") = some true
def mIsiO (g : String ⊕ Nat → Option Bool) (ma : MEo) : MEo := fun ρ δ ω => bO (ma ρ δ ω) fun x δ1 ω1 => (tyOV ω1 x).bind fun t => (g t).map fun b => (.inr (.dat (.bool b)), δ1, ω1)
theorem pdo_isiO {T : Str} {D : Addr} {g : String ⊕ Nat → Option Bool} {p2 : Pos} (hg0 : ∀ t b, g t = some b → PySem.W.kitOne X.K (tyVal P t) (.ref D) = some b ∧ ∀ c, t = .inr c → IsiC X.K (P.cl c)) (hm : X.mg "isinstance" = none) (hT : X.mg T = some (.ref D)) (ha : PDo P X a ma) (hg : Gl X "isinstance" := by rfl) (hgT : Gl X T := by rfl)
    (hd : (T == ("__debug__" : Str)) = false := by decide) (hs1 : starEach [a, .Name T p2] X.env = (false, eval a X.env) :: starEach [.Name T p2] X.env := by rfl) (hs2 : starEach [Expr.Name T p2] X.env = (false, eval (.Name T p2) X.env) :: starEach [] X.env := by rfl)
    (hpl : (backTo pos (starEach [Expr.Name T p2] X.env)).any (·.1) = false := by rfl) : PDo P X (.Call (.Name "isinstance" p) [a, .Name T p2] [] pos) (mIsiO g ma) := by
  obtain ⟨t, h1, s1⟩ := ha.ex
  refine ⟨fun WX => tCB (rIsi X.K) (tCons (t WX) (tCons (tC (.ref D)) tNil)), fun WX pn xe tk po => pe_callB (X := X.tr pn xe) call_isi hg hm (by decide +kernel) (pa_cons (h1 WX pn xe tk po) (pa_cons (pe_glob hgT hT (by rfl) hd) pa_nil hs2) hs1) (by decide) (by decide) hs1 hpl, fun WX F W σ H ρ δ ω rr δ' ω' G e Q q => ?_⟩
  rcases bO_some e with ⟨x, δ1, ω1, e1, e⟩ | ⟨x, δ1, ω1, e1, e⟩
  · cases e
    exact s1 WX F W σ H ρ δ ω _ _ _ G e1 _ q
  · refine s1 WX F W σ H ρ δ ω _ _ _ G e1 _ fun v W1 H1 G1 M1 E1 R1 => ?_
    obtain ⟨ty, et, e⟩ := Option.bind_eq_some_iff.mp e
    obtain ⟨bb, eb, e⟩ := Option.map_eq_some_iff.mp e
    cases e
    obtain ⟨kk, ki⟩ := hg0 ty bb eb
    have tv : TyX X.K H1 v (tyVal P ty) := by
      rcases tyOV_r G1 R1 et with z | ⟨b, C', dy, gs, rfl, eb, et'⟩
      · exact z
      · cases ty with
        | inl T => cases et'
        | inr c =>
          have z := ki c rfl
          have : P.cl c = C' := Value.ref.inj et'
          subst this
          exact .base (.ins eb z.cl z.ha z.hn z.ht z.hm)
    exact ⟨v, .ref D, tyVal P ty, .ref D, bb, rfl, .own D, tv, kk, q _ W1 H1 G1 M1 E1 (Rep.bl _)⟩
def oAndV (ma mb : MEo) : MEo := fun ρ δ ω => bO (ma ρ δ ω) fun x δ1 ω1 => match x with
  | .dat (.bool true) => mb ρ δ1 ω1
  | .dat (.bool false) => some (.inr (.dat (.bool false)), δ1, ω1)
  | _ => none
theorem pdo_one {op} (h : PDo P X a ma) : PDo P X (.BoolOp op [a] pos) ma := by
  obtain ⟨t, h1, s1⟩ := h.ex
  exact ⟨_, fun WX pn xe tk po => pe_one (h1 WX pn xe tk po), s1⟩
theorem pdo_and {rest : List Expr} (ha : PDo P X a ma) (hb : PDo P X (.BoolOp .And (b :: rest) pos) mb) : PDo P X (.BoolOp .And (a :: b :: rest) pos) (oAndV ma mb) := by
  obtain ⟨t, h1, s1⟩ := ha.ex
  obtain ⟨u, h2, s2⟩ := hb.ex
  refine ⟨_, fun WX pn xe tk po => pe_and (h1 WX pn xe tk po) (h2 WX pn xe tk po), fun WX F W σ H ρ δ ω rr δ' ω' G e Q q => ?_⟩
  rcases bO_some e with ⟨x, δ1, ω1, e1, e⟩ | ⟨x, δ1, ω1, e1, e⟩
  · cases e
    exact s1 WX F W σ H ρ δ ω _ _ _ G e1 _ q
  · refine s1 WX F W σ H ρ δ ω _ _ _ G e1 _ fun v W1 H1 G1 M1 E1 R1 => ?_
    split at e
    · cases R1
      refine ⟨_, rfl, iteT (s2 WX F W1 σ H1 ρ δ1 ω1 _ _ _ G1 e _ ?_)⟩
      cases rr with
      | inl x => exact Out.mv q M1 E1
      | inr x => exact fun v2 W2 H2 G2 M2 E2 R2 => q v2 W2 H2 G2 (M1.trans M2) (E1.trans E2) R2
    · cases R1
      cases e
      exact ⟨_, rfl, iteF (q _ W1 H1 G1 M1 E1 (Rep.bl _))⟩
    · cases e
def qPair (i j : Nat) (r : MAo) : MSo := fun ρ δ ω => (r ρ δ ω).bind fun p => match p with
  | (.inl x, δ1, ω1) => some (.inl x, ρ, δ1, ω1)
  | (.inr [x, y], δ1, ω1) => some (.inr .nx, (ρ.set j (slO y)).set i (slO x), δ1, ω1)
  | _ => none
theorem pdq_pair (i j : Nat) {x y : Str} {r : MAo} {k1 k2 : Nat} {p1 p2 p3 p4 : Pos} (hc : X.calm = true) (ha : PDAo P X [a, b] r) (hN : X.N.Nodup) (hi : X.N[i]? = some x := by rfl) (hj : X.N[j]? = some y := by rfl) (hx : Loc X.env.scope x := by first | exact Or.inl rfl | exact Or.inr rfl) (hy : Loc X.env.scope y := by first | exact Or.inl rfl | exact Or.inr rfl)
    (hfx : X.fn x = true ∨ X.env.scope.names.lookup x = some .local := by first | exact .inl rfl | exact .inr rfl | assumption) (hfy : X.fn y = true ∨ X.env.scope.names.lookup y = some .local := by first | exact .inl rfl | exact .inr rfl | assumption)
    (hs : swapsWithSole [.Tuple [.Name x p1, .Name y p2] k1 p3] (.Tuple [a, b] k2 p4) pos.line X.env = pure false := by rfl) (hw : swappedStores [.Tuple [.Name x p1, .Name y p2] k1 p3] (.Tuple [a, b] k2 p4) X.env = pure (some [x, y]) := by rfl) :
    PDSo P X (.Assign [.Tuple [.Name x p1, .Name y p2] k1 p3] (.Tuple [a, b] k2 p4) pos) (qPair i j r) := by
  obtain ⟨t, h1', s1⟩ := ha.ex
  refine ⟨fun WX => tAsg (tTupP (t WX)) (gSwap X.K i j), fun WX pn xe tk po => ps_swap (X := X.tr pn xe) hc hN (pe_tupP (X := X.tr pn xe) (h1' WX pn xe tk po)) hi hj hx hy hfx hfy hs hw, fun WX F W σ H ρ δ ω rr ρ' δ' ω' G e D q => ?_⟩
  obtain ⟨⟨r1, δ1, ω1⟩, e1, e⟩ := Option.bind_eq_some_iff.mp e
  match r1, e1, e with
  | .inl x, e1, e =>
    cases e
    exact s1 WX F W σ H ρ δ ω _ _ _ G e1 _ fun c d W' H' G' M' E' R' => q σ W' H' G' M' E' c d R'
  | .inr [x, y], e1, e =>
    cases e
    refine s1 WX F W σ H ρ δ ω _ _ _ G e1 _ fun vs W1 H1 G1 M1 E1 R1 => ?_
    match vs, R1 with
    | [v, u], R1 =>
      refine ⟨show 2 ≤ sizeLine by decide, fun p hp o hd => ?_⟩
      have kp := upd_keeps (o := tupH o [v, u]) hp
      have G2 := G1.lift (G1.g.keep kp) (Mv.same kp)
      have R2 := R1.mv (Mv.same kp) (ExtW.refl W1)
      refine ⟨p, v, u, rfl, tupH_sq upd_same, ?_⟩
      obtain ⟨G3, M3⟩ := G2.set (x := y) j R2.2.1
      obtain ⟨G4, M4⟩ := G3.set (x := x) i (R2.1.mv M3 (ExtW.refl W1))
      exact q _ W1 _ G4 (((M1.trans (Mv.same kp)).trans M3).trans M4) E1
  | .inr [], e1, e => cases e
  | .inr [_], e1, e => cases e
  | .inr (_ :: _ :: _ :: _), e1, e => cases e
end
end PD
namespace PySem.W
open PySem PySem.Spec PySem.Calls PyProof.Rows
section
variable {prog : Program} {w : World} {A : Around} {E : Value → Shared → Prop} {s : Shared} {K : Frag} {x D : Addr} {ox od : Obj}
theorem findObj_dataS {C : Addr} {name : Str} {a g : Value} (hc : (clsIn K C).isSome = true) (ha : findIn K (.ref C) name = some (some a)) (hg : specialIn K a "__get__" = some (some g)) (ht : takesIn K a = some true) : findObj K C (some od) name = some (.bind g a) := by
  obtain ⟨cd, e⟩ := Option.isSome_iff_exists.mp hc
  unfold findObj; rw [e, Option.bind_some, ha, Option.bind_some]; simp [hg, ht]
theorem kin_classD {Q : Option Value → Shared → Prop} (C : L2.ExcC K D) (X : K.In s.heap) (I : InstAt s.heap x ox D (some od)) (h : Q (some (.ref D)) { s with toks := s.toks + 1 }) : wpAny (model prog w) A (getAttr? (.ref x) "__class__") Q E s := by
  have hf : findObj K D (some od) "__class__" = some (.bind (.builtin "getset_descriptor.__get__") (.builtin "object.__class__")) := findObj_dataS (by obtain ⟨cd, e, _⟩ := any_some C.hd; rw [e]; rfl) C.ha C.hn C.ht
  obtain ⟨hp, g, d, t, os⟩ := s
  have T0 := I.type (M := model prog w); have T1 := looks_findIn (M := model prog w) X C.hg; have T2 := looks_findIn (M := model prog w) X C.hk; have T3 := looks_find (M := model prog w) X I hf
  have sub : Looks (model prog w) hp (isInstance (.ref x) (.type "BaseException")) true := T0.andThen (looks_subIn X C.hs)
  have y2 : (Value.builtin "BaseException.__getattribute__" == Value.builtin "object.__getattribute__") = false := by decide +kernel
  have y1 : (onTheHeap (Value.ref D) && Value.builtin "BaseException.__getattribute__" == Value.builtin "object.__getattribute__") = false := by rw [y2]; rfl
  have y0 : (false && onTheHeap (Value.builtin "BaseException.__getattribute__")) = false := rfl
  unfold getAttr? getAttrBy? getAttrBy; refine wpAny_bind (wpAny_mkText (wpAny_bind (wpAny_attempt (wpAny_holding (wpAny_bind (T0.at (wpAny_bind (T1.at ?_))))))))
  show wpAny _ _ (if (onTheHeap (Value.ref D) && Value.builtin "BaseException.__getattribute__" == Value.builtin "object.__getattribute__") = true then _ else _) _ _ _; rw [y1, if_neg Bool.false_ne_true]
  unfold getAttrByItsOwn hookBefore; refine wpAny_bind ?_; rw [if_pos (show onTheHeap (Value.ref D) = true from rfl)]
  refine T2.at (wpAny_bind (wpAny_attempt (wpAny_holding ?_)))
  unfold callGetattribute; rw [y0, if_neg Bool.false_ne_true]; unfold boundAndCalled; rw [PySem.F.excAttr_ValueError.ga.bind (.ref x)]
  refine wpAny_bind (wpAny_pure ?_); show wpAny _ _ (call (.builtin "BaseException.__getattribute__") [.ref x, .str "__class__" t]) _ _ _
  refine wpAny_call (codeAny_call_builtin PySem.F.excAttr_ValueError.ga.plain PySem.F.entry_bexc_ga (@check_slot (model prog w) _ _ ⟨hp, g, d, t + 1, os⟩ "BaseException.__getattribute__" "BaseException" "__getattribute__" (.ref x) [.str "__class__" t] [] _ (by decide +kernel) (by decide +kernel) sub (PySem.F.args_bexc_ga (.ref x) (.str "__class__" t)) ?_))
  unfold Builtin.«object.__getattribute__»; refine wpAny_bind (wpAny_of_eq (a := ((Value.ref x : Value), [Value.str "__class__" t])) (by first | rfl | (simp only [slotArgs]; rfl)) ?_)
  refine wpAny_bind (wpAny_pure (wpAny_bind (T0.at (wpAny_bind (T3.at (show wpAny _ _ (holding [Value.builtin "object.__class__"] (call (.builtin "getset_descriptor.__get__") [.builtin "object.__class__", .ref x, .ref D]) >>= ret) _ _ _ from ?_))))))
  refine wpAny_bind (wpAny_holding (wpAny_call (class_get (s := ⟨hp, g, d, t + 1, os⟩) (ox := ox) (od := some od) X I C.hm (wpAny_pure ?_))))
  show wpAny _ _ (handedOut (.ref D)) _ _ _; rw [handedOut_of (v := .ref D) rfl]; first | exact wpAny_pure (wpAny_pure h) | exact wpAny_pure h | exact wpAny_pure (wpAny_bind (wpAny_pure (wpAny_pure h)))
theorem kitx_excD (C : L2.ExcC K D) : KitX K (.ref x) (.ref D) (fun h => InstAt h x ox D (some od)) where
  ty := fun _ _ _ I => I.type
  it := fun M h X _ => by
    obtain ⟨cd, e, _⟩ := any_some C.hd; unfold clsIn at e; split at e
    · rename_i ho; intro A' Q' E' s' k q; unfold isType loadHead; exact wpAny_bind (wpAny_loadPart (k _ _ (X _ _ ho)) (wpAny_pure q))
    · cases e
  ne := (handS_kitx_exc (x := x) (ox := ox) C.hg C.hk C.hs C.hd C.ha C.hn C.ht C.hm).ne
  ca := fun X I k => kin_classD C X I k
end
end PySem.W
namespace PD
open PySem PySem.Spec PyProof.Rows L2
def rIsD (K : PySem.W.Frag) (D a : Addr) (d : Option Addr) : List V → Hp → VK → Prop := fun xs H Q => ∃ (c : V) (cv : Value) (b : Bool) (dd : Addr) (fs : List (Str × V)), xs = [.ref a, c] ∧ (∀ u, RelV c u → u = cv) ∧ PySem.W.kitOne K (.ref D) cv = some b ∧ d = some dd ∧ H dd = some (.xd fs) ∧ Q (.bl b) H
theorem call_isD {X : Cx} {a D : Addr} {d : Option Addr} {oe : Obj} {pn : List (Addr × Obj)} (C : ExcC X.K D) (hz : Zc (.ref D) d oe) (hf : ∃ vs, oe.data = .fields vs) : CallR (X.suite a ((a, oe) :: pn)) (.builtin "isinstance") (rIsD X.K D a d) := by
  intro pins s σ H xs us Q I r h
  obtain ⟨c, cv, b, dd, fs, rfl, hcv, e, rfl, hx, q⟩ := h
  match us, r with
  | [_, ut], .cons rx (.cons rt .nil) =>
    obtain rfl := rx
    obtain rfl := hcv _ rt
    obtain ⟨hget, _⟩ := I.pin (a, oe) (List.mem_append.mpr (.inl List.mem_cons_self))
    obtain ⟨vs, hv⟩ := hf
    have hdd : ObjOk X.prog X.w H s.heap dd (.xd fs) := I.hok dd _ hx
    obtain ⟨mA, ⟨od, es, ep, ho, _⟩, _⟩ := hdd
    have J : PySem.W.InstAt s.heap a oe D (some od) := ⟨hget, hz.1, by unfold PySem.W.notCls; rw [hv] <;> rfl, by rw [hz.2]; exact ho⟩
    exact PySem.W.kia_one (PySem.W.kitx_excD C) I.kIn J e (fun z => nomatch z) fun tk => ⟨.bl b, H, I.kept (t' := tk) fun _ _ z => z, rfl, q⟩
structure SuE (P : OPar) (X : Cx) (i : Nat) (e : Expr) (f : Xv → Option D) : Prop where
  ex : ∃ te : Addr → Value → Option Addr → TE, (∀ (a : Addr) (oe : Obj) (cls : Value) (d : Option Addr) (pn : List (Addr × Obj)), Zc cls d oe → (∃ vs, oe.data = .fields vs) → PE (X.suite a ((a, oe) :: pn)) e (te a cls d)) ∧
    ∀ (M : Addr → Prop) (σ : L2.St) (H : Hp) (a : Addr) (c : Value) (d : Option Addr) (x : Xv) (z : D), (∀ a, M a → mtO (H a)) → σ[i]? = some (some (.ref a)) → XvR P X.K M H c d x → f x = some z → ∀ Q : VK,
      (∀ v H', (∀ b o, H b = some o → H' b = some o) → Rep X.K M H' v z → Q v H') → te a c d σ H Q
structure SuA (P : OPar) (X : Cx) (i : Nat) (es : List Expr) (f : Xv → Option (List D)) : Prop where
  ex : ∃ te : Addr → Value → Option Addr → TA, (∀ (a : Addr) (oe : Obj) (cls : Value) (d : Option Addr) (pn : List (Addr × Obj)), Zc cls d oe → (∃ vs, oe.data = .fields vs) → PA (X.suite a ((a, oe) :: pn)) es (te a cls d)) ∧
    ∀ (M : Addr → Prop) (σ : L2.St) (H : Hp) (a : Addr) (c : Value) (d : Option Addr) (x : Xv) (z : List D), (∀ a, M a → mtO (H a)) → σ[i]? = some (some (.ref a)) → XvR P X.K M H c d x → f x = some z → ∀ Q : List V → Hp → Prop,
      (∀ v H', (∀ b o, H b = some o → H' b = some o) → Reps X.K M H' v z → Q v H') → te a c d σ H Q
theorem XvR.ext {P : OPar} {K : PySem.W.Frag} {M : Addr → Prop} {H H' : Hp} {c : Value} {d : Option Addr} {x : Xv} (r : XvR P K M H c d x) (k : ∀ b o, H b = some o → H' b = some o) : XvR P K M H' c d x :=
  ⟨r.1, r.2.imp id fun ⟨a, vs, e, h, l, t⟩ => ⟨a, vs, e, k _ _ h, l, t.mv (Mv.same k)⟩⟩
section
variable {P : OPar} {X : Cx} {i : Nat} {e a b : Expr} {es rest : List Expr} {f g : Xv → Option D} {r : Xv → Option (List D)} {p pos : Pos} {n : Str}
/-- e.f -/
theorem sue_fld {fn : Str} (hi : X.N[i]? = some n := by rfl) (hT : ∀ j, fn ∈ P.xn j → XfC X.K (P.xc j) ∧ PySem.W.findIn X.K (.ref (P.xc j)) fn = some none ∧ (P.xn j).length = 1)
    (hv : Vis X.env.scope n := by first | exact Or.inl rfl | exact Or.inr (Or.inl rfl) | exact Or.inr (Or.inr rfl)) (h3 : (n == ("__debug__" : Str)) = false := by decide) (h4 : (n == ("__classdict__" : Str)) = false := by decide)
    (hb : attributeBase (.Name n p) fn X.env (eval (.Name n p) X.env) = eval (.Name n p) X.env := by rfl) : SuE P X i (.Attribute (.Name n p) fn pos) (fun x => if P.xn x.c = [fn] then x.fs.head? else none) := by
  refine ⟨fun a cls d => fun σ H Q => ∃ C, XfC X.K C ∧ PySem.W.findIn X.K (.ref C) fn = some none ∧ tXf a cls d C fn (tVar i) σ H Q, fun a oe cls d pn hz hf => ⟨fun pins s σ H Q I h => ?_⟩, fun M σ H a c d x z hM hσ R hx Q q => ?_⟩
  · obtain ⟨C, T, hno, h⟩ := h
    exact (pe_xf (X := X) T hno hz hf (pe_var (X := X.suite a ((a, oe) :: pn)) hi hv h3 h4) hb).run pins s σ H Q I h
  · split at hx
    · rename_i hn
      obtain ⟨rc, ⟨hn0, _⟩ | ⟨dd, vs, ed, eh, el, rr⟩⟩ := R
      · rw [hn] at hn0; cases hn0
      · obtain ⟨h1, h2, _⟩ := hT x.c (by rw [hn]; exact List.mem_singleton.mpr rfl)
        rw [hn] at eh el
        refine ⟨P.xc x.c, h1, h2, .ref a, hσ, rfl, rc, dd, ([fn].zip vs).reverse, ?_⟩
        match vs, el with
        | [v], _ =>
          cases hfs : x.fs with
          | nil => rw [hfs] at hx; cases hx
          | cons d0 ds =>
            rw [hfs] at hx rr
            cases hx
            cases rr with
            | cons r t => exact ⟨v, ed, eh, by rw [List.zip_cons_cons]; show List.lookup fn [(fn, v)] = _; rw [List.lookup_cons_self], q v H (fun _ _ z => z) r⟩
    · cases hx
/-- isinstance(e, T) -/
theorem sue_isi {T : Str} {E : Addr} {g : Nat → Option Bool} {p2 p3 : Pos} (hg0 : ∀ j b, g j = some b → ExcC X.K (P.xc j) ∧ PySem.W.kitOne X.K (.ref (P.xc j)) (.ref E) = some b) (hm : X.mg "isinstance" = none) (hT : X.mg T = some (.ref E)) (hi : X.N[i]? = some n := by rfl)
    (hv : Vis X.env.scope n := by first | exact Or.inl rfl | exact Or.inr (Or.inl rfl) | exact Or.inr (Or.inr rfl)) (h3 : (n == ("__debug__" : Str)) = false := by decide) (h4 : (n == ("__classdict__" : Str)) = false := by decide) (hg : Gl X "isinstance" := by rfl) (hgT : Gl X T := by rfl) (h5 : (T == ("__debug__" : Str)) = false := by decide)
    (he : starEach [.Name n p2, .Name T p3] X.env = (false, eval (.Name n p2) X.env) :: starEach [.Name T p3] X.env := by rfl) (he2 : starEach [.Name T p3] X.env = (false, eval (.Name T p3) X.env) :: starEach [] X.env := by rfl) (hpl : (backTo pos (starEach [.Name T p3] X.env)).any (·.1) = false := by rfl) :
    SuE P X i (.Call (.Name "isinstance" p) [.Name n p2, .Name T p3] [] pos) (fun x => (g x.c).map .bool) := by
  refine ⟨fun a cls d => fun σ H Q => ∃ D b, cls = .ref D ∧ ExcC X.K D ∧ PySem.W.kitOne X.K (.ref D) (.ref E) = some b ∧ σ[i]? = some (some (.ref a)) ∧ (d = none ∨ ∃ dd fs, d = some dd ∧ H dd = some (.xd fs)) ∧ Q (.bl b) H, fun a oe cls d pn hz hf => ⟨fun pins s σ H Q I h => ?_⟩, fun M σ H a c d x z hM hσ R hx Q q => ?_⟩
  · obtain ⟨D, b, rfl, hD, hk, hσ, hd, q⟩ := h
    rcases hd with rfl | ⟨dd, fs, rfl, hdd⟩
    · exact (pe_callB (call_isE hD hz hf) hg hm (by decide +kernel) (pa_cons (pe_var (X := X.suite a ((a, oe) :: pn)) hi hv h3 h4) (pa_cons (pe_glob (X := X.suite a ((a, oe) :: pn)) hgT hT (by rfl) h5) pa_nil he2) he) (by decide) (by decide) he hpl).run pins s σ H Q I ⟨_, hσ, .ref E, .ref E, b, rfl, fun u hu => hu, hk, q⟩
    · exact (pe_callB (call_isD hD hz hf) hg hm (by decide +kernel) (pa_cons (pe_var (X := X.suite a ((a, oe) :: pn)) hi hv h3 h4) (pa_cons (pe_glob (X := X.suite a ((a, oe) :: pn)) hgT hT (by rfl) h5) pa_nil he2) he) (by decide) (by decide) he hpl).run pins s σ H Q I ⟨_, hσ, .ref E, .ref E, b, dd, fs, rfl, fun u hu => hu, hk, rfl, hdd, q⟩
  · obtain ⟨bb, hb, hz⟩ := Option.map_eq_some_iff.mp hx
    cases hz
    obtain ⟨k1, k2⟩ := hg0 _ _ hb
    refine ⟨P.xc x.c, bb, R.1, k1, k2, hσ, ?_, q _ H (fun _ _ z => z) (.bl bb)⟩
    rcases R.2 with ⟨_, h, _⟩ | ⟨dd, vs, h, hh, _⟩
    · exact .inl h
    · exact .inr ⟨dd, _, h, hh⟩
theorem sua_nil : SuA P X i [] (fun _ => some []) := ⟨fun _ _ _ => tNil, fun _ _ _ _ _ _ _ => pa_nil, fun M σ H a c d x z hM hσ R hx Q q => by cases hx; exact q [] H (fun _ _ z => z) .nil⟩
theorem sua_cons (h1 : SuE P X i e f) (h2 : SuA P X i es r) (hst : starEach (e :: es) X.env = (false, eval e X.env) :: starEach es X.env := by rfl) : SuA P X i (e :: es) (fun x => (f x).bind fun d => (r x).map fun ds => d :: ds) := by
  obtain ⟨t, p1, s1⟩ := h1.ex
  obtain ⟨u, p2, s2⟩ := h2.ex
  refine ⟨fun a cls d => tCons (t a cls d) (u a cls d), fun a oe cls d pn hz hf => pa_cons (X := X.suite a ((a, oe) :: pn)) (p1 a oe cls d pn hz hf) (p2 a oe cls d pn hz hf) hst, fun M σ H a c d x z hM hσ R hx Q q => ?_⟩
  obtain ⟨d0, e1, hx⟩ := Option.bind_eq_some_iff.mp hx
  obtain ⟨ds, e2, hx⟩ := Option.map_eq_some_iff.mp hx
  cases hx
  refine s1 M σ H a c d x d0 hM hσ R e1 _ fun v H1 k1 R1 => s2 M σ H1 a c d x ds (fun b hb => (hM b hb).keep (k1 b)) hσ (R.ext k1) e2 _ fun vs H2 k2 R2 => ?_
  exact q (v :: vs) H2 (fun b o h => k2 b o (k1 b o h)) (.cons (R1.mv (Mv.same k2)) R2)
theorem sue_tup {k} (h : SuA P X i es r) : SuE P X i (.Tuple es k pos) (fun x => (r x).bind fun ds => if ds.length ≤ 100 then some (.tuple ds) else none) := by
  obtain ⟨t, p1, s1⟩ := h.ex
  refine ⟨fun a cls d => tTupP (t a cls d), fun a oe cls d pn hz hf => pe_tupP (X := X.suite a ((a, oe) :: pn)) (p1 a oe cls d pn hz hf), fun M σ H a c d x z hM hσ R hx Q q => ?_⟩
  obtain ⟨ds, e1, hx⟩ := Option.bind_eq_some_iff.mp hx
  split at hx
  · rename_i hl
    cases hx
    refine s1 M σ H a c d x ds hM hσ R e1 _ fun vs H1 k1 R1 => ⟨by rw [R1.length]; exact Nat.le_trans hl (by decide), fun p hp o hd => ?_⟩
    have kp := upd_keeps (o := tupH o vs) hp
    exact q _ _ (fun b u e => kp b u (k1 b u e)) (.tup (.new (fun z => (((hM p z).keep (k1 p)).ne hp).elim) upd_same hd) (R1.mv (Mv.same kp)))
  · cases hx
/-- the suite x = e -/
def hAsg (i j : Nat) (f : Xv → Option D) : Xv → MSo := fun x ρ δ ω => if i ≠ j ∧ i < ρ.length ∧ j < ρ.length then (f x).map fun z => (.inr .nx, ((ρ.set i .no).set j (.val z)).set i .no, δ, ω) else none
theorem hd_asg {j : Nat} {x : Str} {p0 : Pos} {st : Stmt} (h : SuE P X i e f) (hN : X.N.Nodup) (hst : st = .Assign [.Name x p0] e pos) (hj : X.N[j]? = some x := by rfl) (hx : Loc X.env.scope x := by first | exact Or.inl rfl | exact Or.inr rfl) (hs : swapsWith e (some (.Name x p0)) pos.line X.env = pure false := by rfl)
    (hf : X.fn x = true ∨ X.env.scope.names.lookup x = some .local := by first | exact .inl rfl | exact .inr rfl | assumption) :
    ∃ ts, Suites X ts [st] ∧ HdO P X.K (some i) ts (hAsg i j f) := by
  obtain ⟨t, p1, s1⟩ := h.ex
  subst hst
  refine ⟨fun a cls d => tAsg (t a cls d) (gName j), fun a oe cls d pn hz hf' => pss_one (ps_set (X := X.suite a ((a, oe) :: pn)) hN hj hx (p1 a oe cls d pn hz hf') hs hf), ⟨fun WX F W σ H ρ δ ω a c d x r ρ' δ' ω' G R hn e D q => ?_⟩⟩
  unfold hAsg at e
  split at e
  · rename_i hz
    obtain ⟨hne, hi, hj'⟩ := hz
    obtain ⟨z, ez, e⟩ := Option.map_eq_some_iff.mp e
    cases e
    obtain ⟨G1, M1⟩ := G.setNo i (some (.ref a))
    have hiσ : i < σ.length := by rw [G.g.len]; exact hi
    refine s1 (Mo F W (σ.set i (some (.ref a))) (ρ.set i .no)) (σ.set i (some (.ref a))) H a c d x z G1.mm (List.getElem?_set_self hiσ) (R.sub M1) ez _ fun v H' k Rv => ?_
    have G2 := G1.lift (G1.g.keep k) (Mv.same k)
    obtain ⟨G3, M3⟩ := G2.set (x := .dat z) j Rv
    obtain ⟨G4, M4⟩ := G3.setNo i none
    exact q _ W H' G4 (((M1.trans (Mv.same k)).trans M3).trans M4) (ExtW.refl W)
  · cases e
end
theorem good_law {K : PySem.W.Frag} {cl : Nat → Addr} {F : Fr} {σ : L2.St} {H : Hp} {ρ : List Sl} {δ : Dk} (G : Good K F σ H ρ δ) (hk : ∀ (i : Nat) b js, ρ[i]? ≠ some (.fix (.kp b js))) : GoodO K cl ⟨F, W0⟩ W0 σ H ρ δ ω0 := by
  have e1 : (FO F W0 H σ ρ).M0 = F.M0 := by
    funext a
    exact propext ⟨fun z => z.elim id fun z => (rg_W0 z).elim, .inl⟩
  have e2 : (FO F W0 H σ ρ).H0 = F.H0 := by
    funext a
    exact FO_out rg_W0
  refine ⟨G.kpc e1 rfl e2 rfl fun i b js x h _ _ => (hk i b js h).elim, rfl, rfl, fun m n q r h => (nomatch h), fun i j p q h => (nomatch h), fun i o p e => (nomatch e), fun p hp => (nomatch hp), fun p h => ⟨rg_W0, rg_W0, rg_W0⟩, fun i b js e => (hk i b js e).elim, fun a h => .inl h, ExtW.refl W0, fun p hp => (nomatch hp), fun a h => h⟩
section
variable {P : Program} {w : World} {K : PySem.W.Frag} {mg : Str → Option Value} {base : Heap}
theorem okLawGO {PP : OPar} {x qual : Str} {st : Stmt} {f : Addr} {fd : FuncData} {N : List Str} {k : Nat} {s : MSo} {rest : List Stmt} {p1 p2 p3 p4 p5 : Pos} {xs xd xf : Str} {mk : List Int → Dk} (F : Fun K x qual st f fd) (S : FnScope N [xs] (defScope st)) (hl : 2 ≤ N.length)
    (hbd : defBody st = .Assign [.Name xd p1] (.Call (.Name xf p2) [.Name xs p3] [] p4) p5 :: rest)
    (h1 : ∀ (cdv : Value) (A : Around) (outer : List Env) (s0 : Shared) (H : Hp) (E : XK), Room k (A.deeper (envOfC qual (defScope st) s0.heap.objs.size f cdv)) → A.guards = some [] → PS (cxOf CX0 P w K mg base N qual (defScope st) f cdv A outer s0 H E).nox (.Assign [.Name xd p1] (.Call (.Name xf p2) [.Name xs p3] [] p4) p5) (tAsg (tCall (spDeck K mk) [] E0 (tCons (tVar 0) tNil)) (gName 1)))
    (h2 : ∀ (cdv : Value) (A : Around) (outer : List Env) (s0 : Shared) (H : Hp) (E : XK), Room k (A.deeper (envOfC qual (defScope st) s0.heap.objs.size f cdv)) → A.guards = some [] → PDSso PP (cxOf CX0 P w K mg base N qual (defScope st) f cdv A outer s0 H E).nox rest s)
    (hm : ∀ ns : List Int, ns.length ≤ 63 → ∃ ρ' δ' ω', s (slots N.length [.no, .deck]) (mk ns) ω0 = some (.inr (.rt (.dat (.bool true))), ρ', δ', ω')) :
    FnG P w K mg base (k + 1) f fd [xs] (spLaw K) := by
  refine fn_okG F S (fun vs H Q E h => ?_) (fun cdv A outer s0 H vs Q E hr gd h => ?_)
  · obtain ⟨a, ns, rfl, _⟩ := h
    rfl
  · obtain ⟨a, ns, rfl, hS, hn, q⟩ := h
    obtain ⟨t, w2, s2⟩ := (h2 cdv A outer s0 H E hr gd).ex
    rw [hbd]
    refine ⟨_, pss_cons (h1 cdv A outer s0 H E hr gd) (w2 (fun _ _ _ _ => False) _ _ takes0 PassesOwn.never), ?_⟩
    refine ⟨.ref a, start_get rfl, a, ns, rfl, hS, fun p H' sm dk => ?_⟩
    obtain ⟨ρ', δ', ω', hm⟩ := hm ns hn
    have hge : ∀ (i : Nat) x, (slots N.length [Sl.no, Sl.deck])[i]? = some x → x = .no ∨ (i = 1 ∧ x = .deck) := fun i x h => by
      rcases slots_get h with h | h
      · match i, h with
        | 0, h => cases h; exact .inl rfl
        | 1, h => cases h; exact .inr ⟨rfl, rfl⟩
        | i + 2, h => cases h
      · exact .inl h
    have G : Good K ⟨fun a => a = p.1 ∨ a = p.2 ∨ a = p.3, some p, H', 0, fun _ _ _ => False⟩ ((L2.start N [.ref a]).set 1 (some (.ref p.1))) H' (slots N.length [.no, .deck]) (mk ns) := by
      refine ⟨?_, fun i d h => ?_, fun i ds h => ?_, fun i j ds _ _ h => ?_, fun b hb => ?_, fun i h => ?_, fun p' h => ?_, fun _ _ e _ => e⟩
      · unfold L2.start slots
        simp only [List.length_set, List.length_append, List.length_map, List.length_replicate, List.length_cons, List.length_nil]
        omega
      · rcases hge i _ h with h | ⟨_, h⟩ <;> cases h
      · rcases hge i _ h with h | ⟨_, h⟩ <;> cases h
      · rcases hge i _ h with h | ⟨_, h⟩ <;> cases h
      · rcases hb with rfl | rfl | rfl
        · rw [dk.one]; trivial
        · exact dk.mt2
        · rw [dk.tri]; trivial
      · rcases hge i _ h with h | ⟨rfl, hk⟩
        · cases h
        · cases hk
          exact ⟨p, rfl, List.getElem?_set_self (by unfold L2.start; simp only [List.length_append, List.length_map, List.length_replicate, List.length_cons, List.length_nil]; omega)⟩
      · cases h
        exact ⟨.inl rfl, .inr (.inl rfl), .inr (.inr rfl), dk⟩
    have GO : GoodO K PP.cl ⟨_, W0⟩ W0 _ H' _ _ ω0 := good_law G fun i b js h => by
      rcases hge i _ h with h | ⟨_, h⟩ <;> cases h
    refine s2 _ _ W0 _ H' _ _ _ _ _ _ _ GO hm _ fun σ' W' H2 G2 M2 E2 => ?_
    intro v R
    cases (show v = V.bl true from by cases R; rfl)
    exact q H2
end
end PD
namespace PD
open PySem PySem.Spec PyProof.Rows L2
section
variable {P : OPar} {X : Cx} {i j : Nat} {e : Expr} {f : Xv → Option D} {n x y : Str} {c : Value} {s : Nat → Bool} {np p p0 pos : Pos} {hds : List ExceptHandler} {l : List ((Nat → Bool) × (Xv → MSo))}
/-- except C as n: y = e -/
theorem clo_asg (hc : Names X x c) (h : SuE P X i e f) (hN : X.N.Nodup) (hex : ∀ j, PySem.W.exmOne X.K (.ref (P.xc j)) c = some (s j)) (hr : ClO P X hds l) (hi : X.N[i]? = some n := by rfl) (hk : X.env.kindOf n = some .local := by rfl)
    (hj : X.N[j]? = some y := by rfl) (hx : Loc X.env.scope y := by first | exact Or.inl rfl | exact Or.inr rfl) (hs : swapsWith e (some (.Name y p0)) pos.line X.env = pure false := by rfl)
    (hf : X.fn y = true ∨ X.env.scope.names.lookup y = some .local := by first | exact .inl rfl | exact .inr rfl | assumption) :
    ClO P X (.ExceptHandler (some (.Name x np)) (some n) [.Assign [.Name y p0] e pos] p :: hds) ((s, hAsg i j f) :: l) := by
  obtain ⟨ts, h1, h2⟩ := hd_asg (j := j) h hN rfl hj hx hs hf
  exact .named hc hi hk h1 h2 hex hr
end
def WQ (m : MSo) (ρ : List Sl) (δ : Dk) (ω : Os) (C : Rs FlO → List Sl → Dk → Os → Prop) : Prop := ∃ r ρ' δ' ω', m ρ δ ω = some (r, ρ', δ', ω') ∧ C r ρ' δ' ω'
def WEo (m : MEo) (ρ : List Sl) (δ : Dk) (ω : Os) (C : Rs OV → Dk → Os → Prop) : Prop := ∃ r δ' ω', m ρ δ ω = some (r, δ', ω') ∧ C r δ' ω'
def WAo (m : MAo) (ρ : List Sl) (δ : Dk) (ω : Os) (C : Rs (List OV) → Dk → Os → Prop) : Prop := ∃ r δ' ω', m ρ δ ω = some (r, δ', ω') ∧ C r δ' ω'
def WTo (m : MTo) (ρ : List Sl) (δ : Dk) (ω : Os) (C : Rs Bool → Dk → Os → Prop) : Prop := ∃ r δ' ω', m ρ δ ω = some (r, δ', ω') ∧ C r δ' ω'
section
variable {ρ : List Sl} {δ : Dk} {ω : Os}
theorem WQ.mono {m C C'} (h : WQ m ρ δ ω C) (k : ∀ r ρ' δ' ω', C r ρ' δ' ω' → C' r ρ' δ' ω') : WQ m ρ δ ω C' := by
  obtain ⟨r, ρ', δ', ω', e, c⟩ := h
  exact ⟨r, ρ', δ', ω', e, k _ _ _ _ c⟩
/-- what comes behind a statement -/
def onQ (b : MSo) (C : Rs FlO → List Sl → Dk → Os → Prop) (r : Rs FlO) (ρ' : List Sl) (δ' : Dk) (ω' : Os) : Prop := match r with
  | .inr .nx => WQ b ρ' δ' ω' C
  | r => C r ρ' δ' ω'
theorem onQ_nx {b C} {ρ' δ' ω'} : onQ b C (.inr .nx) ρ' δ' ω' = WQ b ρ' δ' ω' C := rfl
theorem wq_seq {a b C} (h : WQ a ρ δ ω (onQ b C)) : WQ (qSeq a b) ρ δ ω C := by
  obtain ⟨r, ρ', δ', ω', e, c⟩ := h
  unfold qSeq WQ
  dsimp only
  rw [e, Option.bind_some]
  match r, c with
  | .inr .nx, c => exact c
  | .inr (.rt x), c => exact ⟨_, _, _, _, rfl, c⟩
  | .inr .bk, c => exact ⟨_, _, _, _, rfl, c⟩
  | .inr .ct, c => exact ⟨_, _, _, _, rfl, c⟩
  | .inl x, c => exact ⟨_, _, _, _, rfl, c⟩
theorem wq_next {C} (h : C (.inr .nx) ρ δ ω) : WQ qNext ρ δ ω C := ⟨_, _, _, _, rfl, h⟩
theorem wq_lift {m : MS} {C} (h : WS m ρ δ fun f ρ' δ' => C (.inr (flO f)) ρ' δ' ω) : WQ (liftS m) ρ δ ω C := by
  obtain ⟨f, ρ', δ', e, c⟩ := h
  exact ⟨_, _, _, _, by unfold liftS; rw [e]; rfl, c⟩
theorem vo_lift {m : ME} {C} (h : WE m ρ δ fun d δ' => C (.inr (.dat d)) δ' ω) : WEo (liftE m) ρ δ ω C := by
  obtain ⟨d, δ', e, c⟩ := h
  exact ⟨_, _, _, by unfold liftE; rw [e]; rfl, c⟩
theorem voa_lift {m : MA} {C} (h : WA m ρ δ fun ds δ' => C (.inr (ds.map .dat)) δ' ω) : WAo (liftA m) ρ δ ω C := by
  obtain ⟨d, δ', e, c⟩ := h
  exact ⟨_, _, _, by unfold liftA; rw [e]; rfl, c⟩
theorem vot_lift {m : MT} {C} (h : WT m ρ δ fun b δ' => C (.inr b) δ' ω) : WTo (liftT m) ρ δ ω C := by
  obtain ⟨d, δ', e, c⟩ := h
  exact ⟨_, _, _, by unfold liftT; rw [e]; rfl, c⟩
theorem vo_ob {k t : Nat} {C} (h : ρ[t]? = some (.ob k)) (c : C (.inr (.ob k)) δ ω) : WEo (mVarO t) ρ δ ω C := ⟨_, _, _, by unfold mVarO; rw [h]; rfl, c⟩
theorem vo_val {d : D} {t : Nat} {C} (h : ρ[t]? = some (.val d)) (c : C (.inr (.dat d)) δ ω) : WEo (mVarO t) ρ δ ω C := ⟨_, _, _, by unfold mVarO; rw [h], c⟩
theorem vot_b {m C} (h : WEo m ρ δ ω fun r δ' ω' => match r with | .inl x => C (.inl x) δ' ω' | .inr (.dat (.bool b)) => C (.inr b) δ' ω' | _ => False) : WTo (mBO m) ρ δ ω C := by
  obtain ⟨r, δ', ω', e, c⟩ := h
  match r, c with
  | .inl x, c => exact ⟨_, _, _, by unfold mBO; rw [bO_inl e], c⟩
  | .inr (.dat (.bool b)), c => exact ⟨_, _, _, by unfold mBO; rw [bO_inr e], c⟩
theorem wq_if {nc a b C} (h : WTo nc ρ δ ω fun r δ' ω' => match r with | .inl x => C (.inl x) ρ δ' ω' | .inr true => WQ a ρ δ' ω' C | .inr false => WQ b ρ δ' ω' C) : WQ (qIf nc a b) ρ δ ω C := by
  obtain ⟨r, δ', ω', e, c⟩ := h
  match r, c with
  | .inl x, c => exact ⟨_, _, _, _, by unfold qIf; rw [e]; rfl, c⟩
  | .inr true, c => obtain ⟨r, ρ', δ2, ω2, e2, c⟩ := c; exact ⟨r, ρ', δ2, ω2, by unfold qIf; rw [e]; exact e2, c⟩
  | .inr false, c => obtain ⟨r, ρ', δ2, ω2, e2, c⟩ := c; exact ⟨r, ρ', δ2, ω2, by unfold qIf; rw [e]; exact e2, c⟩
theorem vot_or {a b C} (h : WTo a ρ δ ω fun r δ' ω' => match r with | .inr false => WTo b ρ δ' ω' C | r => C r δ' ω') : WTo (oOrT a b) ρ δ ω C := by
  obtain ⟨r, δ', ω', e, c⟩ := h
  match r, c with
  | .inl x, c => exact ⟨_, _, _, by unfold oOrT; rw [e]; rfl, c⟩
  | .inr true, c => exact ⟨_, _, _, by unfold oOrT; rw [e]; rfl, c⟩
  | .inr false, c => obtain ⟨r, δ2, ω2, e2, c⟩ := c; exact ⟨r, δ2, ω2, by unfold oOrT; rw [e]; exact e2, c⟩
theorem wq_ret {m C} (h : WEo m ρ δ ω fun r δ' ω' => match r with | .inl x => C (.inl x) ρ δ' ω' | .inr v => C (.inr (.rt v)) ρ δ' ω') : WQ (qRet m) ρ δ ω C := by
  obtain ⟨r, δ', ω', e, c⟩ := h
  cases r with
  | inl x => exact ⟨_, _, _, _, by unfold qRet; rw [e]; rfl, c⟩
  | inr x => exact ⟨_, _, _, _, by unfold qRet; rw [e]; rfl, c⟩
theorem wq_asg {t m C} (h : WEo m ρ δ ω fun r δ' ω' => match r with | .inl x => C (.inl x) ρ δ' ω' | .inr v => C (.inr .nx) (ρ.set t (slO v)) δ' ω') : WQ (qAsg t m) ρ δ ω C := by
  obtain ⟨r, δ', ω', e, c⟩ := h
  cases r with
  | inl x => exact ⟨_, _, _, _, by unfold qAsg; rw [e]; rfl, c⟩
  | inr x => exact ⟨_, _, _, _, by unfold qAsg; rw [e]; rfl, c⟩
theorem wq_expr {m C} (h : WEo m ρ δ ω fun r δ' ω' => match r with | .inl x => C (.inl x) ρ δ' ω' | .inr v => C (.inr .nx) ρ δ' ω') : WQ (qExpr m) ρ δ ω C := by
  obtain ⟨r, δ', ω', e, c⟩ := h
  cases r with
  | inl x => exact ⟨_, _, _, _, by unfold qExpr; rw [e]; rfl, c⟩
  | inr x => exact ⟨_, _, _, _, by unfold qExpr; rw [e]; rfl, c⟩
theorem wq_pair {s t m C} (h : WAo m ρ δ ω fun r δ' ω' => match r with | .inl x => C (.inl x) ρ δ' ω' | .inr [x, y] => C (.inr .nx) ((ρ.set t (slO y)).set s (slO x)) δ' ω' | _ => False) : WQ (qPair s t m) ρ δ ω C := by
  obtain ⟨r, δ', ω', e, c⟩ := h
  match r, c with
  | .inl x, c => exact ⟨_, _, _, _, by unfold qPair; rw [e]; rfl, c⟩
  | .inr [x, y], c => exact ⟨_, _, _, _, by unfold qPair; rw [e]; rfl, c⟩
theorem voa_cons {m r C} (h : WEo m ρ δ ω fun x δ' ω' => match x with | .inl x => C (.inl x) δ' ω' | .inr v => WAo r ρ δ' ω' fun y δ2 ω2 => match y with | .inl y => C (.inl y) δ2 ω2 | .inr vs => C (.inr (v :: vs)) δ2 ω2) : WAo (oCons m r) ρ δ ω C := by
  obtain ⟨x, δ1, ω1, e, c⟩ := h
  cases x with
  | inl x => exact ⟨_, _, _, by unfold oCons; rw [bO_inl e], c⟩
  | inr v =>
    obtain ⟨y, δ2, ω2, e2, c⟩ := c
    cases y with
    | inl y => exact ⟨_, _, _, by unfold oCons; rw [bO_inr e, bO_inl e2], c⟩
    | inr vs => exact ⟨_, _, _, by unfold oCons; rw [bO_inr e, bO_inr e2], c⟩
theorem voa_nil {C} (c : C (.inr []) δ ω) : WAo oNil ρ δ ω C := ⟨_, _, _, rfl, c⟩
theorem vo_make {c : Nat} {m : FnO} {r C} (h : WAo r ρ δ ω fun x δ' ω' => match x with | .inl x => C (.inl x) δ' ω' | .inr vs => ∃ ω2, m (.ob ω'.o.length :: vs) (ω'.add ⟨c, []⟩) = some (.inr (.dat .none), ω2) ∧ C (.inr (.ob ω'.o.length)) δ' ω2) : WEo (mMakeO c m r) ρ δ ω C := by
  obtain ⟨x, δ1, ω1, e, c⟩ := h
  cases x with
  | inl x => exact ⟨_, _, _, by unfold mMakeO; rw [e]; rfl, c⟩
  | inr v =>
    obtain ⟨ω2, e2, c⟩ := c
    refine ⟨_, _, _, by unfold mMakeO; rw [e, Option.bind_some]; dsimp only; rw [e2]; rfl, c⟩
theorem vo_cb {f : List D → Option D} {r C} (h : WAo r ρ δ ω fun x δ' ω' => match x with | .inl x => C (.inl x) δ' ω' | .inr vs => ∃ ds z, ovDats vs = some ds ∧ f ds = some z ∧ C (.inr (.dat z)) δ' ω') : WEo (mCbO f r) ρ δ ω C := by
  obtain ⟨x, δ1, ω1, e, c⟩ := h
  cases x with
  | inl x => exact ⟨_, _, _, by unfold mCbO; rw [e]; rfl, c⟩
  | inr v =>
    obtain ⟨ds, z, e1, e2, c⟩ := c
    exact ⟨_, _, _, by unfold mCbO; rw [e, Option.bind_some]; dsimp only; rw [e1, Option.bind_some, e2]; rfl, c⟩
theorem vo_meth {c : Nat} {nm : Str} {m : FnO} {mo r C} {k : Nat} {o : Ob} {δ1 : Dk} {ω1 : Os} (ho : mo ρ δ ω = some (.inr (.ob k), δ1, ω1)) (hk : ω1.o[k]? = some o) (hc : o.c = c ∧ (o.fs.map (·.1)).contains nm = false)
    (h : WAo r ρ δ1 ω1 fun x δ' ω' => match x with | .inl x => C (.inl x) δ' ω' | .inr vs => ∃ z ω2, m (.ob k :: vs) ω' = some (z, ω2) ∧ C z δ' ω2) : WEo (mMethO c nm m mo r) ρ δ ω C := by
  obtain ⟨x, δ2, ω2, e, c⟩ := h
  cases x with
  | inl x => exact ⟨_, _, _, by unfold mMethO; rw [ho, Option.bind_some]; dsimp only; rw [hk, Option.bind_some, if_pos hc, e]; rfl, c⟩
  | inr v =>
    obtain ⟨z, ω3, e2, c⟩ := c
    exact ⟨_, _, _, by unfold mMethO; rw [ho, Option.bind_some]; dsimp only; rw [hk, Option.bind_some, if_pos hc, e, Option.bind_some]; dsimp only; rw [e2]; rfl, c⟩
theorem vo_callV {m : FnV} {r C} (h : WAo r ρ δ ω fun x δ' ω' => match x with | .inl x => C (.inl x) δ' ω' | .inr vs => ∃ ds, ovDats vs = some ds ∧ match m ds with | some (.inl y) => C (.inl y) δ' ω' | some (.inr d) => C (.inr (.dat d)) δ' ω' | none => False) : WEo (mCallV m r) ρ δ ω C := by
  obtain ⟨x, δ1, ω1, e, c⟩ := h
  cases x with
  | inl x => exact ⟨_, _, _, by unfold mCallV; rw [e]; rfl, c⟩
  | inr v =>
    obtain ⟨ds, e1, c⟩ := c
    split at c
    · rename_i y hy
      exact ⟨_, _, _, by unfold mCallV; rw [e, Option.bind_some]; dsimp only; rw [e1, Option.bind_some, hy]; rfl, c⟩
    · rename_i y hy
      exact ⟨_, _, _, by unfold mCallV; rw [e, Option.bind_some]; dsimp only; rw [e1, Option.bind_some, hy]; rfl, c⟩
    · exact c.elim
theorem vo_eq {c : Nat} {tys : List String} {neg : Bool} {m : FnO} {ma mb C} {k : Nat} {o : Ob} {y : OV} {b : Bool} {δ1 δ2 : Dk} {ω1 ω2 ω3 : Os} (ha : ma ρ δ ω = some (.inr (.ob k), δ1, ω1)) (hb : mb ρ δ1 ω1 = some (.inr y, δ2, ω2)) (hk : ω2.o[k]? = some o) (hc : o.c = c ∧ okTy c tys (tyOV ω2 y) = true) (hm : m [.ob k, y] ω2 = some (.inr (.dat (.bool b)), ω3)) (h : C (.inr (.dat (.bool (xor neg b)))) δ2 ω3) : WEo (mEqO c tys neg m ma mb) ρ δ ω C :=
  ⟨_, _, _, by unfold mEqO; rw [bO_inr ha, bO_inr hb]; dsimp only; rw [hk, Option.bind_some, if_pos hc, hm]; rfl, h⟩
theorem vo_lenI {c : Nat} {m : FnO} {ma C} {k : Nat} {o : Ob} {i : Int} {δ1 : Dk} {ω1 ω2 : Os} (ha : ma ρ δ ω = some (.inr (.ob k), δ1, ω1)) (hk : ω1.o[k]? = some o) (hc : o.c = c) (hm : m [.ob k] ω1 = some (.inr (.dat (.int i)), ω2)) (hi : 0 ≤ i ∧ i < 2 ^ 63) (h : C (.inr (.dat (.int i))) δ1 ω2) : WEo (mLenI c m ma) ρ δ ω C :=
  ⟨_, _, _, by unfold mLenI; rw [bO_inr ha]; dsimp only; rw [hk, Option.bind_some, if_pos hc, hm, Option.bind_some]; dsimp only; rw [if_pos hi], h⟩
theorem vo_and {a b C} (h : WEo a ρ δ ω fun r δ' ω' => match r with | .inl x => C (.inl x) δ' ω' | .inr (.dat (.bool true)) => WEo b ρ δ' ω' C | .inr (.dat (.bool false)) => C (.inr (.dat (.bool false))) δ' ω' | _ => False) : WEo (oAndV a b) ρ δ ω C := by
  obtain ⟨r, δ', ω', e, c⟩ := h
  match r, c with
  | .inl x, c => exact ⟨_, _, _, by unfold oAndV; rw [bO_inl e], c⟩
  | .inr (.dat (.bool true)), c => obtain ⟨r, δ2, ω2, e2, c⟩ := c; exact ⟨r, δ2, ω2, by unfold oAndV; rw [bO_inr e]; exact e2, c⟩
  | .inr (.dat (.bool false)), c => exact ⟨_, _, _, by unfold oAndV; rw [bO_inr e], c⟩
theorem wq_try {m l C} (h : WQ m ρ δ ω fun r ρ' δ' ω' => match r with | .inl x => WQ (hdM l x) ρ' δ' ω' C | r => C r ρ' δ' ω') : WQ (qTry m l) ρ δ ω C := by
  obtain ⟨r, ρ', δ', ω', e, c⟩ := h
  cases r with
  | inl x => obtain ⟨r, ρ2, δ2, ω2, e2, c⟩ := c; exact ⟨r, ρ2, δ2, ω2, by unfold qTry; rw [e]; exact e2, c⟩
  | inr x => exact ⟨_, _, _, _, by unfold qTry; rw [e]; rfl, c⟩
/-- a for, by what holds at each turn -/
theorem wq_for {mi g s C} {I : List D → List Sl → Dk → Os → Prop} {ds : List D} {δ1 : Dk} (hi : mi ρ δ = some (ds, δ1)) (h0 : I ds ρ δ1 ω)
    (step : ∀ d r ρ δ ω, I (d :: r) ρ δ ω → ∃ ρ1, g d ρ = some ρ1 ∧ WQ s ρ1 δ ω fun f ρ' δ' ω' => match f with | .inr .nx => I r ρ' δ' ω' | .inr .ct => I r ρ' δ' ω' | .inr .bk => C (.inr .nx) ρ' δ' ω' | f => C f ρ' δ' ω')
    (done : ∀ ρ δ ω, I [] ρ δ ω → C (.inr .nx) ρ δ ω) : WQ (qFor mi g s) ρ δ ω C := by
  suffices h : ∀ ds ρ δ ω, I ds ρ δ ω → WQ (qForL g s ds) ρ δ ω C by
    obtain ⟨r, ρ', δ', ω', e, c⟩ := h ds ρ δ1 ω h0
    exact ⟨r, ρ', δ', ω', by unfold qFor; rw [hi]; exact e, c⟩
  intro ds
  induction ds with
  | nil => intro ρ δ ω h; exact ⟨_, _, _, _, rfl, done ρ δ ω h⟩
  | cons d ds ih =>
    intro ρ δ ω h
    obtain ⟨ρ1, e1, r, ρ', δ', ω', e, c⟩ := step d ds ρ δ ω h
    match r, c with
    | .inl x, c => exact ⟨_, _, _, _, by unfold qForL; rw [e1, Option.bind_some, e]; rfl, c⟩
    | .inr .nx, c => obtain ⟨r, ρ2, δ2, ω2, e2, c⟩ := ih _ _ _ c; exact ⟨r, ρ2, δ2, ω2, by unfold qForL; rw [e1, Option.bind_some, e]; exact e2, c⟩
    | .inr .ct, c => obtain ⟨r, ρ2, δ2, ω2, e2, c⟩ := ih _ _ _ c; exact ⟨r, ρ2, δ2, ω2, by unfold qForL; rw [e1, Option.bind_some, e]; exact e2, c⟩
    | .inr .bk, c => exact ⟨_, _, _, _, by unfold qForL; rw [e1, Option.bind_some, e]; rfl, c⟩
    | .inr (.rt x), c => exact ⟨_, _, _, _, by unfold qForL; rw [e1, Option.bind_some, e]; rfl, c⟩
end
end PD
namespace PD
open PySem PySem.Spec PyProof.Rows L2
section
variable {ρ : List Sl} {δ : Dk} {ω : Os}
theorem fnO_of {n np : Nat} {m : MSo} {xs : List OV} {r : Rs OV} {ω' : Os} (hl : xs.length = np ∧ np ≤ n) (h : WQ m (slots n (xs.map slO)) δ0 ω fun f _ _ ω2 => match f with
    | .inl x => r = .inl x ∧ ω' = ω2
    | .inr (.rt v) => r = .inr v ∧ ω' = ω2
    | .inr .nx => r = .inr (.dat .none) ∧ ω' = ω2
    | _ => False) : fnO n np m xs ω = some (r, ω') := by
  obtain ⟨f, ρ', δ', ω2, e, c⟩ := h
  unfold fnO
  rw [if_pos hl, e]
  match f, c with
  | .inl x, c => obtain ⟨rfl, rfl⟩ := c; rfl
  | .inr (.rt v), c => obtain ⟨rfl, rfl⟩ := c; rfl
  | .inr .nx, c => obtain ⟨rfl, rfl⟩ := c; rfl
theorem vo_fld {c : Nat} {f : Str} {m : MEo} {C} (h : WEo m ρ δ ω fun r δ' ω' => match r with
    | .inl x => C (.inl x) δ' ω'
    | .inr (.ob k) => ∃ o x, ω'.o[k]? = some o ∧ o.c = c ∧ o.fs.lookup f = some (.val x) ∧ C (.inr x) δ' ω'
    | _ => False) : WEo (mFld c f m) ρ δ ω C := by
  obtain ⟨r, δ', ω', e, c1⟩ := h
  match r, c1 with
  | .inl x, c1 => exact ⟨_, _, _, by unfold mFld; rw [e]; rfl, c1⟩
  | .inr (.ob k), c1 =>
    obtain ⟨o, x, h1, h2, h3, c1⟩ := c1
    exact ⟨_, _, _, by unfold mFld; rw [e, Option.bind_some]; dsimp only; rw [h1, Option.bind_some, if_pos h2, h3]; rfl, c1⟩
theorem wq_setF {c : Nat} {f : Str} {mo mv : MEo} {C} (h : WEo mv ρ δ ω fun r δ' ω' => match r with
    | .inl x => C (.inl x) ρ δ' ω'
    | .inr v => WEo mo ρ δ' ω' fun r2 δ2 ω2 => match r2 with
      | .inl x => C (.inl x) ρ δ2 ω2
      | .inr (.ob k) => ∃ o, ω2.o[k]? = some o ∧ (o.c = c ∧ o.fs.length < 1000) ∧ C (.inr .nx) ρ δ2 (ω2.put k ⟨o.c, putV f (.val v) o.fs⟩)
      | _ => False) : WQ (qSetF c f mo mv) ρ δ ω C := by
  obtain ⟨r, δ1, ω1, e, c1⟩ := h
  cases r with
  | inl x => exact ⟨_, _, _, _, by unfold qSetF; rw [e]; rfl, c1⟩
  | inr v =>
    obtain ⟨r2, δ2, ω2, e2, c2⟩ := c1
    match r2, c2 with
    | .inl x, c2 => exact ⟨_, _, _, _, by unfold qSetF; rw [e, Option.bind_some]; dsimp only; rw [e2]; rfl, c2⟩
    | .inr (.ob k), c2 =>
      obtain ⟨o, h1, h2, c2⟩ := c2
      exact ⟨_, _, _, _, by unfold qSetF; rw [e, Option.bind_some]; dsimp only; rw [e2, Option.bind_some]; dsimp only; rw [h1, Option.bind_some, if_pos h2], c2⟩
theorem wq_augF {c : Nat} {f : Str} {mo : MEo} {me : ME} {C} (h : WEo mo ρ δ ω fun r δ' ω' => match r with
    | .inl x => C (.inl x) ρ δ' ω'
    | .inr (.ob k) => ∃ o i, ω'.o[k]? = some o ∧ (o.c = c ∧ o.fs.length < 1000) ∧ o.fs.lookup f = some (.val (.dat (.int i))) ∧ WE me ρ δ' fun d δ2 => ∃ j, d = .int j ∧ C (.inr .nx) ρ δ2 (ω'.put k ⟨o.c, putV f (.val (.dat (.int (i + j)))) o.fs⟩)
    | _ => False) : WQ (qAugF c f mo me) ρ δ ω C := by
  obtain ⟨r, δ1, ω1, e, c1⟩ := h
  match r, c1 with
  | .inl x, c1 => exact ⟨_, _, _, _, by unfold qAugF; rw [e]; rfl, c1⟩
  | .inr (.ob k), c1 =>
    obtain ⟨o, i, h1, h2, h3, d, δ2, e2, j, rfl, c1⟩ := c1
    exact ⟨_, _, _, _, by unfold qAugF; rw [e, Option.bind_some]; dsimp only; rw [h1, Option.bind_some, if_pos h2, h3]; dsimp only; rw [e2]; rfl, c1⟩
theorem vo_isi {g : String ⊕ Nat → Option Bool} {m : MEo} {C} (h : WEo m ρ δ ω fun r δ' ω' => match r with
    | .inl x => C (.inl x) δ' ω'
    | .inr v => ∃ t b, tyOV ω' v = some t ∧ g t = some b ∧ C (.inr (.dat (.bool b))) δ' ω') : WEo (mIsiO g m) ρ δ ω C := by
  obtain ⟨r, δ', ω', e, c1⟩ := h
  cases r with
  | inl x => exact ⟨_, _, _, by unfold mIsiO; rw [bO_inl e], c1⟩
  | inr v =>
    obtain ⟨t, b, h1, h2, c1⟩ := c1
    exact ⟨_, _, _, by unfold mIsiO; rw [bO_inr e, h1, Option.bind_some, h2]; rfl, c1⟩
theorem vo_binW {f : D → D → Option D} {a b : MEo} {C} (h : WEo a ρ δ ω fun r δ' ω' => match r with
    | .inl x => C (.inl x) δ' ω'
    | .inr (.dat x) => WEo b ρ δ' ω' fun r2 δ2 ω2 => match r2 with
      | .inl x => C (.inl x) δ2 ω2
      | .inr (.dat y) => ∃ z, f x y = some z ∧ C (.inr (.dat z)) δ2 ω2
      | _ => False
    | _ => False) : WEo (mBinO f a b) ρ δ ω C := by
  obtain ⟨r, δ', ω', e, c1⟩ := h
  match r, c1 with
  | .inl x, c1 => exact ⟨_, _, _, by unfold mBinO; rw [bO_inl e], c1⟩
  | .inr (.dat x), c1 =>
    obtain ⟨r2, δ2, ω2, e2, c2⟩ := c1
    match r2, c2 with
    | .inl y, c2 => exact ⟨_, _, _, by unfold mBinO; rw [bO_inr e, bO_inl e2], c2⟩
    | .inr (.dat y), c2 =>
      obtain ⟨z, hz, c2⟩ := c2
      exact ⟨_, _, _, by unfold mBinO; rw [bO_inr e, bO_inr e2]; simp only [datO, Option.bind_some, hz, Option.map_some], c2⟩
theorem vo_eqW {c : Nat} {tys : List String} {neg : Bool} {m : FnO} {ma mb : MEo} {C} (h : WEo ma ρ δ ω fun r δ' ω' => match r with
    | .inl x => C (.inl x) δ' ω'
    | .inr (.ob k) => WEo mb ρ δ' ω' fun r2 δ2 ω2 => match r2 with
      | .inl x => C (.inl x) δ2 ω2
      | .inr y => ∃ o b ω3, ω2.o[k]? = some o ∧ (o.c = c ∧ okTy c tys (tyOV ω2 y) = true) ∧ m [.ob k, y] ω2 = some (.inr (.dat (.bool b)), ω3) ∧ C (.inr (.dat (.bool (xor neg b)))) δ2 ω3
    | _ => False) : WEo (mEqO c tys neg m ma mb) ρ δ ω C := by
  obtain ⟨r, δ', ω', e, c1⟩ := h
  match r, c1 with
  | .inl x, c1 => exact ⟨_, _, _, by unfold mEqO; rw [bO_inl e], c1⟩
  | .inr (.ob k), c1 =>
    obtain ⟨r2, δ2, ω2, e2, c2⟩ := c1
    cases r2 with
    | inl x => exact ⟨_, _, _, by unfold mEqO; rw [bO_inr e, bO_inl e2], c2⟩
    | inr y =>
      obtain ⟨o, b, ω3, h1, h2, h3, c2⟩ := c2
      exact vo_eq e e2 h1 h2 h3 c2
theorem vot_tru {m : MEo} {C} (h : WEo m ρ δ ω fun r δ' ω' => match r with
    | .inl x => C (.inl x) δ' ω'
    | .inr (.dat d) => ∃ b, truD d = some b ∧ C (.inr b) δ' ω'
    | _ => False) : WTo (mTruO m) ρ δ ω C := by
  obtain ⟨r, δ', ω', e, c1⟩ := h
  match r, c1 with
  | .inl x, c1 => exact ⟨_, _, _, by unfold mTruO; rw [bO_inl e], c1⟩
  | .inr (.dat d), c1 =>
    obtain ⟨b, hb, c1⟩ := c1
    exact ⟨_, _, _, by unfold mTruO; rw [bO_inr e]; simp only [datO, Option.bind_some, hb, Option.map_some], c1⟩
theorem vot_not {m : MTo} {C} (h : WTo m ρ δ ω fun r δ' ω' => match r with
    | .inl x => C (.inl x) δ' ω'
    | .inr b => C (.inr (!b)) δ' ω') : WTo (oNotT m) ρ δ ω C := by
  obtain ⟨r, δ', ω', e, c1⟩ := h
  cases r with
  | inl x => exact ⟨_, _, _, by unfold oNotT; rw [e]; rfl, c1⟩
  | inr b => exact ⟨_, _, _, by unfold oNotT; rw [e]; rfl, c1⟩
theorem wq_raise {j n : Nat} {r : MAo} {C} (h : WAo r ρ δ ω fun x δ' ω' => match x with
    | .inl x => C (.inl x) ρ δ' ω'
    | .inr vs => ∃ ds, ovDats vs = some ds ∧ (ds.length = n ∧ ds.all intOk = true) ∧ C (.inl ⟨j, ds⟩) ρ δ' ω') : WQ (qRaise j n r) ρ δ ω C := by
  obtain ⟨x, δ', ω', e, c1⟩ := h
  cases x with
  | inl x => exact ⟨_, _, _, _, by unfold qRaise; rw [e]; rfl, c1⟩
  | inr vs =>
    obtain ⟨ds, h1, h2, c1⟩ := c1
    exact ⟨_, _, _, _, by unfold qRaise; rw [e, Option.bind_some]; dsimp only; rw [h1, Option.bind_some, if_pos h2], c1⟩
theorem put_at {ω : Os} {k : Nat} {o x : Ob} (h : ω.o[k]? = some o) : (ω.put k x).o[k]? = some x := by
  unfold Os.put
  exact List.getElem?_set_self (List.getElem?_eq_some_iff.mp h).1
theorem put_put {ω : Os} {k : Nat} {x y : Ob} : (ω.put k x).put k y = ω.put k y := by
  unfold Os.put
  simp only [List.set_set]
theorem put_ne {ω : Os} {k j : Nat} {x : Ob} (h : k ≠ j) : (ω.put k x).o[j]? = ω.o[j]? := by
  unfold Os.put
  exact List.getElem?_set_ne h
theorem put_len {ω : Os} {k : Nat} {x : Ob} : (ω.put k x).o.length = ω.o.length := by
  unfold Os.put
  exact List.length_set
theorem add_old {ω : Os} {k : Nat} {o x : Ob} (h : ω.o[k]? = some o) : (ω.add x).o[k]? = some o := by
  unfold Os.add
  exact (List.getElem?_append_left (List.getElem?_eq_some_iff.mp h).1).trans h
theorem add_new {ω : Os} {x : Ob} : (ω.add x).o[ω.o.length]? = some x := by
  unfold Os.add
  exact List.getElem?_concat_length
end
end PD
set_option maxHeartbeats 1000000
namespace K69
open PySem PySem.Spec PyProof.Rows L2 PD
def topS (i : Nat) : Stmt := PySem.Challenge.pw_tonguehouse_k69_programs_and_deltas.main.body.getD i (.Pass ⟨0, 0, 0, 0⟩)
abbrev s_is_number : Stmt := topS 7
abbrev N_is_number : List Str := ["thing", "low", "high"]
theorem sc_is_number : FnScope N_is_number ["thing", "low", "high"] (defScope s_is_number) := ⟨rfl, rfl, rfl, by decide +kernel, rfl, by decide +kernel, by decide +kernel⟩
abbrev s_rows_by_name : Stmt := topS 9
abbrev N_rows_by_name : List Str := ["rows", "row"]
theorem sc_rows_by_name : FnScope N_rows_by_name ["rows"] (defScope s_rows_by_name) := ⟨rfl, rfl, rfl, by decide +kernel, rfl, by decide +kernel, by decide +kernel⟩
abbrev s_delta : Stmt := topS 10
abbrev N_delta : List Str := ["one", "other", "old", "new", "gone", "name", "come", "row"]
theorem sc_delta : FnScope N_delta ["one", "other"] (defScope s_delta) := ⟨rfl, rfl, rfl, by decide +kernel, rfl, by decide +kernel, by decide +kernel⟩
abbrev s_led : Stmt := topS 11
abbrev N_led : List Str := ["rows", "delta", "gone", "come", "names", "name"]
theorem sc_led : FnScope N_led ["rows", "delta"] (defScope s_led) := ⟨rfl, rfl, rfl, by decide +kernel, rfl, by decide +kernel, by decide +kernel⟩
abbrev s_l_draws : Stmt := topS 15
abbrev N_l_draws : List Str := ["_law_script", "_law_cells", "_law_cell"]
theorem sc_l_draws : FnScope N_l_draws ["_law_script"] (defScope s_l_draws) := ⟨rfl, rfl, rfl, by decide +kernel, rfl, by decide +kernel, by decide +kernel⟩
abbrev s_l_next : Stmt := topS 16
abbrev N_l_next : List Str := ["_law_drawn", "_law_many", "_law_cells", "_law_nth", "_law_rests", "_law_spot", "_law_digit", "_law_prime", "_law_mixed", "_law_again"]
theorem sc_l_next : FnScope N_l_next ["_law_drawn", "_law_many"] (defScope s_l_next) := ⟨rfl, rfl, rfl, by decide +kernel, rfl, by decide +kernel, by decide +kernel⟩
abbrev s_l_names : Stmt := topS 17
abbrev N_l_names : List Str := ["_law_drawn", "_law_many", "_law_left", "_law_stem", "_law_k", "_law_spot"]
theorem sc_l_names : FnScope N_l_names ["_law_drawn", "_law_many"] (defScope s_l_names) := ⟨rfl, rfl, rfl, by decide +kernel, rfl, by decide +kernel, by decide +kernel⟩
abbrev s_l_forms : Stmt := topS 18
abbrev N_l_forms : List Str := ["_law_drawn", "_law_one", "_law_few", "_law_many", "_law_way", "_law_test", "_law_ends", "_law_low", "_law_high"]
theorem sc_l_forms : FnScope N_l_forms ["_law_drawn"] (defScope s_l_forms) := ⟨rfl, rfl, rfl, by decide +kernel, rfl, by decide +kernel, by decide +kernel⟩
abbrev s_l_tongue : Stmt := topS 19
abbrev N_l_tongue : List Str := ["_law_drawn", "_law_point", "_law_group", "_law_one", "_law_quotes"]
theorem sc_l_tongue : FnScope N_l_tongue ["_law_drawn"] (defScope s_l_tongue) := ⟨rfl, rfl, rfl, by decide +kernel, rfl, by decide +kernel, by decide +kernel⟩
abbrev s_l_row : Stmt := topS 20
abbrev N_l_row : List Str := ["_law_drawn", "_law_name", "_law_pieces"]
theorem sc_l_row : FnScope N_l_row ["_law_drawn", "_law_name"] (defScope s_l_row) := ⟨rfl, rfl, rfl, by decide +kernel, rfl, by decide +kernel, by decide +kernel⟩
abbrev s_l_list : Stmt := topS 21
abbrev N_l_list : List Str := ["_law_drawn", "_law_names_here", "_law_name"]
theorem sc_l_list : FnScope N_l_list ["_law_drawn", "_law_names_here"] (defScope s_l_list) := ⟨rfl, rfl, rfl, by decide +kernel, rfl, by decide +kernel, by decide +kernel⟩
abbrev s_l_turned : Stmt := topS 22
abbrev N_l_turned : List Str := ["_law_drawn", "_law_rows", "_law_names_here", "_law_found", "_law_name", "_law_own", "_law_row_here", "_law_way"]
theorem sc_l_turned : FnScope N_l_turned ["_law_drawn", "_law_rows", "_law_names_here"] (defScope s_l_turned) := ⟨rfl, rfl, rfl, by decide +kernel, rfl, by decide +kernel, by decide +kernel⟩
abbrev s_l_some_tongues : Stmt := topS 23
abbrev N_l_some_tongues : List Str := ["_law_drawn", "_law_name"]
theorem sc_l_some_tongues : FnScope N_l_some_tongues ["_law_drawn"] (defScope s_l_some_tongues) := ⟨rfl, rfl, rfl, by decide +kernel, rfl, by decide +kernel, by decide +kernel⟩
abbrev s_law : Stmt := topS 24
abbrev N_law : List Str := ["_law_script", "_law_drawn", "_law_names_here", "_law_rows", "_law_one", "_law_other", "_law_taken", "_law_turn", "_law_wanted", "_law_change", "_law_name", "_law_number", "_law_is_fit", "_law_row_here", "_law_kept", "_law_told", "e", "_law_due"]
theorem sc_law : FnScope N_law ["_law_script"] (defScope s_law) := ⟨rfl, rfl, rfl, by decide +kernel, rfl, by decide +kernel, by decide +kernel⟩
abbrev s_Program___init__ : Stmt := (clsBody (topS 13)).getD 0 (.Pass ⟨0, 0, 0, 0⟩)
abbrev N_Program___init__ : List Str := ["self", "rows", "tongues"]
theorem sc_Program___init__ : FnScope N_Program___init__ ["self", "rows", "tongues"] (defScope s_Program___init__) := ⟨rfl, rfl, rfl, by decide +kernel, rfl, by decide +kernel, by decide +kernel⟩
abbrev s_Program_its_number : Stmt := (clsBody (topS 13)).getD 1 (.Pass ⟨0, 0, 0, 0⟩)
abbrev N_Program_its_number : List Str := ["self"]
theorem sc_Program_its_number : FnScope N_Program_its_number ["self"] (defScope s_Program_its_number) := ⟨rfl, rfl, rfl, by decide +kernel, rfl, by decide +kernel, by decide +kernel⟩
abbrev s_Program_take_delta : Stmt := (clsBody (topS 13)).getD 2 (.Pass ⟨0, 0, 0, 0⟩)
abbrev N_Program_take_delta : List Str := ["self", "number", "delta"]
theorem sc_Program_take_delta : FnScope N_Program_take_delta ["self", "number", "delta"] (defScope s_Program_take_delta) := ⟨rfl, rfl, rfl, by decide +kernel, rfl, by decide +kernel, by decide +kernel⟩
abbrev s_Program_its_rows : Stmt := (clsBody (topS 13)).getD 3 (.Pass ⟨0, 0, 0, 0⟩)
abbrev N_Program_its_rows : List Str := ["self"]
theorem sc_Program_its_rows : FnScope N_Program_its_rows ["self"] (defScope s_Program_its_rows) := ⟨rfl, rfl, rfl, by decide +kernel, rfl, by decide +kernel, by decide +kernel⟩
abbrev s_Program___len__ : Stmt := (clsBody (topS 13)).getD 5 (.Pass ⟨0, 0, 0, 0⟩)
abbrev N_Program___len__ : List Str := ["self"]
theorem sc_Program___len__ : FnScope N_Program___len__ ["self"] (defScope s_Program___len__) := ⟨rfl, rfl, rfl, by decide +kernel, rfl, by decide +kernel, by decide +kernel⟩
abbrev s_Program___eq__ : Stmt := (clsBody (topS 13)).getD 6 (.Pass ⟨0, 0, 0, 0⟩)
abbrev N_Program___eq__ : List Str := ["self", "other"]
theorem sc_Program___eq__ : FnScope N_Program___eq__ ["self", "other"] (defScope s_Program___eq__) := ⟨rfl, rfl, rfl, by decide +kernel, rfl, by decide +kernel, by decide +kernel⟩
abbrev s_ini1 : Stmt := (clsBody (topS 4)).getD 0 (.Pass ⟨0, 0, 0, 0⟩)
theorem sc_ini1 : SupScope ["self", "number"] (defScope s_ini1) := ⟨rfl, rfl, rfl, by decide +kernel, by decide +kernel, by decide +kernel, by decide +kernel, by decide +kernel, by decide +kernel⟩
structure Tx (P : Program) (K : PySem.W.Frag) (mg : Str → Option Value) where
  a_is_number : Addr
  d_is_number : FuncData
  F_is_number : FunD K "is_number" "is_number" (defArgs s_is_number) (defBody s_is_number) (defScope s_is_number) [.int 0, .int 1000000000000] [] a_is_number d_is_number
  g_is_number : mg "is_number" = some (.ref a_is_number)
  b_is_number : Binds K d_is_number ["thing", "low", "high"] []
  a_rows_by_name : Addr
  d_rows_by_name : FuncData
  F_rows_by_name : Fun K "rows_by_name" "rows_by_name" s_rows_by_name a_rows_by_name d_rows_by_name
  g_rows_by_name : mg "rows_by_name" = some (.ref a_rows_by_name)
  b_rows_by_name : Binds K d_rows_by_name ["rows"] []
  a_delta : Addr
  d_delta : FuncData
  F_delta : Fun K "delta" "delta" s_delta a_delta d_delta
  g_delta : mg "delta" = some (.ref a_delta)
  b_delta : Binds K d_delta ["one", "other"] []
  a_led : Addr
  d_led : FuncData
  F_led : Fun K "led" "led" s_led a_led d_led
  g_led : mg "led" = some (.ref a_led)
  b_led : Binds K d_led ["rows", "delta"] []
  a_l_draws : Addr
  d_l_draws : FuncData
  F_l_draws : Fun K "_law_draws" "_law_draws" s_l_draws a_l_draws d_l_draws
  g_l_draws : mg "_law_draws" = some (.ref a_l_draws)
  b_l_draws : Binds K d_l_draws ["_law_script"] []
  a_l_next : Addr
  d_l_next : FuncData
  F_l_next : Fun K "_law_next" "_law_next" s_l_next a_l_next d_l_next
  g_l_next : mg "_law_next" = some (.ref a_l_next)
  b_l_next : Binds K d_l_next ["_law_drawn", "_law_many"] []
  a_l_names : Addr
  d_l_names : FuncData
  F_l_names : Fun K "_law_names" "_law_names" s_l_names a_l_names d_l_names
  g_l_names : mg "_law_names" = some (.ref a_l_names)
  b_l_names : Binds K d_l_names ["_law_drawn", "_law_many"] []
  a_l_forms : Addr
  d_l_forms : FuncData
  F_l_forms : Fun K "_law_forms" "_law_forms" s_l_forms a_l_forms d_l_forms
  g_l_forms : mg "_law_forms" = some (.ref a_l_forms)
  b_l_forms : Binds K d_l_forms ["_law_drawn"] []
  a_l_tongue : Addr
  d_l_tongue : FuncData
  F_l_tongue : Fun K "_law_tongue" "_law_tongue" s_l_tongue a_l_tongue d_l_tongue
  g_l_tongue : mg "_law_tongue" = some (.ref a_l_tongue)
  b_l_tongue : Binds K d_l_tongue ["_law_drawn"] []
  a_l_row : Addr
  d_l_row : FuncData
  F_l_row : Fun K "_law_row" "_law_row" s_l_row a_l_row d_l_row
  g_l_row : mg "_law_row" = some (.ref a_l_row)
  b_l_row : Binds K d_l_row ["_law_drawn", "_law_name"] []
  a_l_list : Addr
  d_l_list : FuncData
  F_l_list : Fun K "_law_list" "_law_list" s_l_list a_l_list d_l_list
  g_l_list : mg "_law_list" = some (.ref a_l_list)
  b_l_list : Binds K d_l_list ["_law_drawn", "_law_names_here"] []
  a_l_turned : Addr
  d_l_turned : FuncData
  F_l_turned : Fun K "_law_turned" "_law_turned" s_l_turned a_l_turned d_l_turned
  g_l_turned : mg "_law_turned" = some (.ref a_l_turned)
  b_l_turned : Binds K d_l_turned ["_law_drawn", "_law_rows", "_law_names_here"] []
  a_l_some_tongues : Addr
  d_l_some_tongues : FuncData
  F_l_some_tongues : Fun K "_law_some_tongues" "_law_some_tongues" s_l_some_tongues a_l_some_tongues d_l_some_tongues
  g_l_some_tongues : mg "_law_some_tongues" = some (.ref a_l_some_tongues)
  b_l_some_tongues : Binds K d_l_some_tongues ["_law_drawn"] []
  a_law : Addr
  d_law : FuncData
  F_law : Fun K "law" "law" s_law a_law d_law
  g_law : mg "law" = some (.ref a_law)
  b_law : Binds K d_law ["_law_script"] []
  m_bool : mg "bool" = none
  m_dict : mg "dict" = none
  m_int : mg "int" = none
  m_isinstance : mg "isinstance" = none
  m_len : mg "len" = none
  m_list : mg "list" = none
  m_range : mg "range" = none
  m_repr : mg "repr" = none
  m_sorted : mg "sorted" = none
  m_super : mg "super" = none
  m_tuple : mg "tuple" = none
  x_a : Addr
  x_g : mg "NoFit" = some (.ref x_a)
  x_k : PySem.W.keepIn K (.ref x_a) = true
  x_x : PySem.W.excIn K x_a [.type "ValueError", .type "Exception", .type "BaseException", .type "object"] "ValueError.__new__" = true
  x_s : PySem.W.subIn K (.ref x_a) (.type "BaseException") = some true
  x_t : PySem.W.typeIn K (.ref x_a) = some (.type "type")
  x_c : ExcC K x_a
  x_m : PySem.W.exmOne K (.ref x_a) (.ref x_a) = some true
  y_a : Addr
  y_g : mg "HouseError" = some (.ref y_a)
  x_i : PySem.W.kitOne K (.ref x_a) (.ref y_a) = some true
  c0_a : Addr
  c0_g : mg "Program" = some (.ref c0_a)
  c0_c : Cls K c0_a
  c0_n_rows : NoAttr K c0_a "rows"
  c0_n_tongues : NoAttr K c0_a "tongues"
  c0_n_number : NoAttr K c0_a "number"
  a_Program___init__ : Addr
  d_Program___init__ : FuncData
  F_Program___init__ : Fun K "__init__" "Program.__init__" s_Program___init__ a_Program___init__ d_Program___init__
  b_Program___init__ : Binds K d_Program___init__ ["self", "rows", "tongues"] []
  h_Program___init__ : Mk K c0_a a_Program___init__
  a_Program_its_number : Addr
  d_Program_its_number : FuncData
  F_Program_its_number : Fun K "its_number" "Program.its_number" s_Program_its_number a_Program_its_number d_Program_its_number
  b_Program_its_number : Binds K d_Program_its_number ["self"] []
  h_Program_its_number : Meth K c0_a "its_number" a_Program_its_number
  a_Program_take_delta : Addr
  d_Program_take_delta : FuncData
  F_Program_take_delta : Fun K "take_delta" "Program.take_delta" s_Program_take_delta a_Program_take_delta d_Program_take_delta
  b_Program_take_delta : Binds K d_Program_take_delta ["self", "number", "delta"] []
  h_Program_take_delta : Meth K c0_a "take_delta" a_Program_take_delta
  a_Program_its_rows : Addr
  d_Program_its_rows : FuncData
  F_Program_its_rows : Fun K "its_rows" "Program.its_rows" s_Program_its_rows a_Program_its_rows d_Program_its_rows
  b_Program_its_rows : Binds K d_Program_its_rows ["self"] []
  h_Program_its_rows : Meth K c0_a "its_rows" a_Program_its_rows
  a_Program___len__ : Addr
  d_Program___len__ : FuncData
  F_Program___len__ : Fun K "__len__" "Program.__len__" s_Program___len__ a_Program___len__ d_Program___len__
  b_Program___len__ : Binds K d_Program___len__ ["self"] []
  l_Program___len__ : PySem.W.findIn K (.ref c0_a) "__len__" = some (some (.ref a_Program___len__))
  i_Program___len__ : PySem.W.isFn K (.ref a_Program___len__) = true
  a_Program___eq__ : Addr
  d_Program___eq__ : FuncData
  F_Program___eq__ : Fun K "__eq__" "Program.__eq__" s_Program___eq__ a_Program___eq__ d_Program___eq__
  b_Program___eq__ : Binds K d_Program___eq__ ["self", "other"] []
  e_Program___eq__ : EqC K c0_a a_Program___eq__
  nf0 : PySem.W.notFirst K c0_a (.type "tuple") = true
  nf1 : PySem.W.notFirst K c0_a (.type "int") = true
  kt0 : PySem.W.kitOne K (.ref c0_a) (.ref c0_a) = some true
  kt1 : PySem.W.kitOne K (.type "tuple") (.ref c0_a) = some false
  kt2 : PySem.W.kitOne K (.type "int") (.ref c0_a) = some false
  ic_ha : PySem.W.findIn K (.ref c0_a) "__class__" = some (some (.builtin "object.__class__"))
  ic_hn : PySem.W.specialIn K (.builtin "object.__class__") "__get__" = some (some (.builtin "getset_descriptor.__get__"))
  ic_ht : PySem.W.takesIn K (.builtin "object.__class__") = some true
  ic_hm : PySem.W.mroIn K c0_a (.type "object") = some true
  x1_a : Addr
  x1_I : Addr
  x1_d : FuncData
  x1_g : mg "Behind" = some (.ref x1_a)
  x1_i : IniF P K x1_a x1_I "Behind.__init__" s_ini1 "self" x1_d
  x1_b : Binds K x1_d ["self", "number"] []
  x1_f0 : PySem.W.findIn K (.ref x1_a) "number" = some none
  x1_c : ExcC K x1_a
  x1_x : XfC K x1_a
  x1_h : PySem.W.kitOne K (.ref x1_a) (.ref y_a) = some true
  xm_01 : PySem.W.exmOne K (.ref x_a) (.ref x1_a) = some false
  xm_11 : PySem.W.exmOne K (.ref x1_a) (.ref x1_a) = some true
  xm_10 : PySem.W.exmOne K (.ref x1_a) (.ref x_a) = some false
section
variable {P : Program} {w : World} {K : PySem.W.Frag} {mg : Str → Option Value} {base : Heap}
def m_is_number : MS := (sRet (mAnd (mUn (isiD "int") (mVar 0)) (mAnd (mUn notD (mUn (isiD "bool") (mVar 0))) (mChain leD leD (mVar 1) (mVar 0) (mVar 2)))))
def f_is_number : List D → Option D := fnP 3 3 m_is_number
theorem ok_is_number (T : Tx P K mg) : FnOk P w K mg base CX0 1 T.a_is_number T.d_is_number ["thing", "low", "high"] (spP K f_is_number) := okPD (k := 0) T.F_is_number sc_is_number (by decide) fun cdv A outer s0 H E hr =>
  ((pdss_one (pds_ret (pd_and (pd_isi (T := "int") (t := "int") (by decide +kernel) T.m_isinstance T.m_int (pd_var 0)) (pd_and (pd_not (pd_isi (T := "bool") (t := "bool") (by decide +kernel) T.m_isinstance T.m_bool (pd_var 0))) (pd_one (pd_chain cs_le cs_le (pd_var 1) (pd_var 0) (pd_var 2))))))) : PDSs _ _ m_is_number)
def m_rows_by_name : MS := (sRet (mDcN (kFor (mItems (mVar 0)) [1] (gSet 1) mYes (kOne (mBin subD' (mVar 1) (mC (.int 0))) (mVar 1)))))
def f_rows_by_name : List D → Option D := fnP 2 1 m_rows_by_name
theorem ok_rows_by_name (T : Tx P K mg) : FnOk P w K mg base CX0 1 T.a_rows_by_name T.d_rows_by_name ["rows"] (spP K f_rows_by_name) := okP (k := 0) T.F_rows_by_name sc_rows_by_name (by decide) fun cdv A outer s0 H E hr =>
  ((pdss_one (pds_ret (pd_dcN (own := [("row", 1)]) rfl sc_rows_by_name.nd (pdi_seq (pd_var 0)) (blkOk_by (own := [("row", 1)]) (N := N_rows_by_name) (sc := defScope s_rows_by_name) (by decide +kernel)) (fun _ _ _ _ _ => (pdg_name 1 sc_rows_by_name.nd)) (fun _ _ _ _ _ => pdts_nil) (by decide) (bk_nil (fun _ _ _ _ _ => (pd_ix (hu_of hr) (pd_var 1) pd_int)) (fun _ _ _ _ _ => (pd_var 1)))))) : PDSs _ _ m_rows_by_name)
def n_rows_by_name : MN := (mDcE (kFor (mItems (mVar 0)) [1] (gSet 1) mYes (kOne (mBin subD' (mVar 1) (mC (.int 0))) (mVar 1))))
def fN_rows_by_name : List D → Option (List (D × D)) := fnN 2 1 n_rows_by_name
theorem okN_rows_by_name (T : Tx P K mg) : FnOk P w K mg base CX0 1 T.a_rows_by_name T.d_rows_by_name ["rows"] (spN K fN_rows_by_name) := okN (k := 0) T.F_rows_by_name sc_rows_by_name (by decide) rfl fun cdv A outer s0 H E hr =>
  ((pdn_dc (own := [("row", 1)]) rfl sc_rows_by_name.nd (pdi_seq (pd_var 0)) (blkOk_by (own := [("row", 1)]) (N := N_rows_by_name) (sc := defScope s_rows_by_name) (by decide +kernel)) (fun _ _ _ _ _ => (pdg_name 1 sc_rows_by_name.nd)) (fun _ _ _ _ _ => pdts_nil) (by decide) (bk_nil (fun _ _ _ _ _ => (pd_ix (hu_of hr) (pd_var 1) pd_int)) (fun _ _ _ _ _ => (pd_var 1)))) : PDN _ _ n_rows_by_name)
theorem ok_l_draws (T : Tx P K mg) : FnOk P w K mg base CX0 1 T.a_l_draws T.d_l_draws ["_law_script"] (spDeck K) := by
  refine T.F_l_draws.ok sc_l_draws (fun vs H Q E h => ?_) (fun cdv A outer s0 H vs Q E hr h => ?_)
  · obtain ⟨a, ns, rfl, _⟩ := h
    rfl
  · obtain ⟨a, ns, rfl, hS, q⟩ := h
    refine ⟨_, pss_cons (ps_set (i := 1) sc_l_draws.nd rfl (by first | exact Or.inl rfl | exact Or.inr rfl)
        (pe_op op_cat (pe_callTy call_list_of (by rfl) T.m_list (by decide +kernel) (pa_cons (pe_slice sl_list (pv 0) po_none (po_some pe_int)) pa_nil))
          (pe_op op_rep (pe_lst (pa_cons pe_int pa_nil)) (pe_callTy call_int1 (by rfl) T.m_int (by decide +kernel) (pa_cons (pe_cmp (pc_eqI (pe_callB call_len (by rfl) T.m_len PySem.boot_len (pa_cons (pv 0) pa_nil)) pe_int)) pa_nil)))))
      (pss_one (ps_ret (pe_lst (pa_cons (pv 1) (pa_cons pe_int (pa_cons (pe_lc (own := [("_law_cell", 2)]) (g := gName 2) (tt := tYes) rfl sc_l_draws.nd (pi_list (pv 1))
        (blkOk_by (own := [("_law_cell", 2)]) (N := N_l_draws) (sc := defScope s_l_draws) (by decide +kernel)) (fun _ _ _ _ _ => pg_name (i := 2) sc_l_draws.nd rfl (Or.inl rfl)) (fun _ _ _ _ _ => pts_nil)
        (fun _ _ _ _ _ => pe_op op_mul (pv 2) (pe_callTy call_int1 (by rfl) T.m_int (by decide +kernel) (pa_cons (pe_cmp (pc_ge (pv 2) (pe_op op_pow pe_int pe_int))) pa_nil)))) pa_nil)))))), ?_⟩
    refine ⟨.ref a, rfl, 63, rfl, a, _, rfl, hS, fun s hs => ?_⟩
    have e63 : cutV (ns.map V.int) none (some 63) = (ns.take 63).map V.int := by rw [cut63, List.map_take]
    rw [e63]
    refine ⟨s, _, rfl, .inl (SqL.of upd_same), fun l hl => ?_⟩
    refine ⟨by decide, fun z hz => ?_⟩
    have sm1 : Same H (upd (upd (upd H s (.lst ((ns.take 63).map V.int))) l (.lst ((ns.take 63).map V.int))) z (.lst [.int 0])) := ((same_new hs).trans (same_new hl)).trans (same_new hz)
    refine ⟨.ref a, rfl, .ref a, _, rfl, .inl ⟨_, sm1.seq hS, rfl⟩, ?_⟩
    refine ⟨_, _, rfl, rfl, .inr ⟨decide (((ns.map V.int).length : Int) = 0), rfl, ?_⟩⟩
    generalize hbb : (decide (((ns.map V.int).length : Int) = 0)) = bb
    refine ⟨z, _, _, rfl, rfl, upd_same, by cases bb <;> decide, by cases bb <;> decide, by cases bb <;> decide, fun r hr2 => ?_⟩
    rw [rep0]
    have nlz : l ≠ z := ne_of_none (show (upd (upd H s (.lst ((ns.take 63).map V.int))) l (.lst ((ns.take 63).map V.int))) l = some _ from upd_same) hz
    have nlr : l ≠ r := ne_of_none (show (upd (upd (upd H s (.lst ((ns.take 63).map V.int))) l (.lst ((ns.take 63).map V.int))) z (.lst [.int 0])) l = some _ by rw [upd_ne nlz, upd_same]) hr2
    refine ⟨l, r, _, _, rfl, rfl, by rw [upd_ne nlr, upd_ne nlz, upd_same], upd_same, ?_, fun c hc => ?_⟩
    · rw [List.length_map, List.length_map, List.length_take]
      have : (if bb = true then [(0 : Int)] else []).length ≤ 1 := by cases bb <;> decide
      have := sizeBig
      omega
    have ec : (ns.take 63).map V.int ++ (if bb = true then [(0 : Int)] else []).map V.int = (cellsOf ns).map V.int := by
      rw [← List.map_append, cells_eq (by rw [← hbb, List.length_map])]
    rw [ec]
    generalize hH1 : upd (upd (upd (upd (upd H s (.lst ((ns.take 63).map V.int))) l (.lst ((ns.take 63).map V.int))) z (.lst [.int 0])) r (.lst ((if bb = true then [(0 : Int)] else []).map V.int))) c (.lst ((cellsOf ns).map V.int)) = H1
    have sm2 : Same H H1 := by rw [← hH1]; exact (sm1.trans (same_new hr2)).trans (same_new hc)
    have hc1 : H1 c = some (.lst ((cellsOf ns).map V.int)) := by rw [← hH1]; exact upd_same
    refine ⟨.ref c, rfl, ?_⟩
    refine ⟨.ref c, rfl, c, rfl, ⟨_, SqL.of hc1⟩, fun d hd => ?_⟩
    have ncd : c ≠ d := ne_of_none hc1 hd
    refine lc_list (xs := (cellsOf ns).map V.int) (fun i H2 => Same H H2 ∧ H2 c = some (.lst ((cellsOf ns).map V.int)) ∧ H2 d = some (.lst ((((cellsOf ns).map restOf).take i).map V.int))) ⟨sm2.trans (same_new hd), by rw [upd_ne ncd]; exact hc1, by rw [upd_same]; rfl⟩ (fun i H2 _ h => SqL.of h.2.1) (fun i x H2 hx h => ?_) (fun H2 h => ?_)
    · obtain ⟨h1, h2, h3⟩ := h
      rw [List.getElem?_map] at hx
      obtain ⟨n, hn, rfl⟩ := Option.map_eq_some_iff.mp hx
      refine ⟨rfl, ?_⟩
      simp only [tYes, ↓reduceIte]
      refine ⟨.int n, rfl, .int n, rfl, 10, 18, rfl, rfl, ⟨by decide, by decide, by decide⟩, n, _, rfl, rfl, .inr ⟨_, rfl, n, _, rfl, rfl, .inr ?_, _, h3, ?_, fun b o e => ?_, ?_, ?_⟩⟩
      · split <;> decide
      · have := (cells_len ns).2
        have sb := sizeBig
        simp only [List.length_map, List.length_take]
        omega
      · have hb : b ≠ d := ne_of_none (sm2 b o e) hd
        rw [upd_ne hb]
        exact h1 b o e
      · rw [upd_ne ncd]; exact h2
      · rw [upd_same, List.take_add_one (l := (cellsOf ns).map restOf) (i := i), List.getElem?_map, hn, List.map_append]
        congr 3
        unfold restOf
        have e18 : (10 : Int) ^ (18 : Int).toNat = 1000000000000000000 := by decide
        rw [e18]
        by_cases hb : (1000000000000000000 : Int) ≤ n
        · simp [hb]
        · simp [hb]
    · obtain ⟨h1, h2, h3⟩ := h
      have ei : ((cellsOf ns).map restOf).take ((cellsOf ns).map V.int).length = (cellsOf ns).map restOf := List.take_of_length_le (by simp)
      rw [ei] at h3
      refine ⟨by show 3 ≤ sizeLine; decide, fun p hp => ?_⟩
      have npc : c ≠ p := ne_of_none h2 hp
      have npd : d ≠ p := ne_of_none h3 hp
      exact q ⟨p, d, c, [], none, none⟩ _ (h1.trans (same_new hp)) (DeckAt.mk2 rfl rfl (fun z => by have e := congrArg List.length z; have := (cells_len ns).1; unfold deckOf at e; simp at e; rw [e] at this; simp at this) npd.symm npc.symm ncd.symm upd_same (by show upd H2 p _ d = _; rw [upd_ne npd]; exact h3) (by show upd H2 p _ c = _; rw [upd_ne npc]; exact h2))
def prA : List Int := [2147483647, 2147483587, 2147483563]
def mxA (c k : Int) : Int := (c % 2147483629 + 69621 * k + 54321) ^ (3 : Int).toNat % prA.getD (k % 3).toNat 0
def mixA (c k : Int) : Int := ((mxA c k + 7129 * k + 41) ^ (2 : Int).toNat % 2147483477 * 2147483423 + mxA c k) % 4611686018427387847
def f_l_next : List D → Dk → Option (D × Dk) := fNext mixA
theorem ok_l_next (T : Tx P K mg) : FnOk P w K mg base CX0 1 T.a_l_next T.d_l_next ["_law_drawn", "_law_many"] (spK K f_l_next) := by
  refine T.F_l_next.ok sc_l_next (fun vs H Q E h => ?_) (fun cdv A outer s0 H vs Q E hr h => ?_)
  · obtain ⟨M, p, ws, ds, δ, r, δ', rfl, hM, _, _, _, _, R, hm, q⟩ := h
    unfold f_l_next fNext at hm
    split at hm
    · rw [List.length_cons, R.length]; rfl
    · cases hm
  · obtain ⟨M, p, ws, ds, δ, rr, δ', rfl, hM, m1, m2, m3, dk, R, hm, q⟩ := h
    unfold f_l_next fNext at hm
    split at hm
    · rename_i many
      split at hm
      · rename_i ok
        obtain ⟨b0, b1, b2, b3, b4, b5, b6⟩ := of_decide_eq_true (p := 0 < many ∧ many ≤ 10000000000000 ∧ 0 < δ.cells.length ∧ δ.rests.length = δ.cells.length ∧ 0 ≤ δ.k ∧ δ.k ≤ 1000000000 ∧ δ.lft = none) ok
        have hrs : δ.rests ≠ [] := fun z => by rw [z] at b3; simp only [List.length_nil] at b3; omega
        have dkA := dk
        replace dk := dk.new hrs
        rw [b6] at dk
        obtain ⟨cu, hcu, su⟩ : ∃ u, H p.cA = some u ∧ (u = .lst (δ.cells.map V.int) ∨ ∃ o, u = .frz o (.lst (δ.cells.map V.int))) := dk.tri.elim (fun e => ⟨_, e, .inl rfl⟩) fun ⟨o, e⟩ => ⟨_, e, .inr ⟨o, rfl⟩⟩
        have sqc : ∀ H' : Hp, H' p.cA = some cu → SqL K H' p.cA (δ.cells.map V.int) := fun H' e => su.elim (fun z => .inl (.inl (by rw [e, z]))) fun ⟨o, z⟩ => .inl (.inr ⟨o, by rw [e, z]⟩)
        have one' : H p.o = some (.lst [V.ref p.cA, V.int δ.k, V.ref p.rA]) := dk.one
        have eL : dkLf δ.lft = [] := by rw [b6]; rfl
        obtain ⟨v, rfl, rv⟩ := reps1 R
        cases rv
        refine ⟨_, pss_cons (ps_asg (pv 0) (L2.pg_lst rfl (pgs_cons (pg_name (i := 2) sc_l_next.nd rfl (by first | exact Or.inl rfl | exact Or.inr rfl)) (pgs_cons (pg_name (i := 3) sc_l_next.nd rfl (by first | exact Or.inl rfl | exact Or.inr rfl)) (pgs_cons (pg_name (i := 4) sc_l_next.nd rfl (by first | exact Or.inl rfl | exact Or.inr rfl)) pgs_nil)))))
          (pss_cons (ps_set (i := 5) sc_l_next.nd rfl (by first | exact Or.inl rfl | exact Or.inr rfl) (pe_op op_mod (pv 3) (pe_callB call_len (by rfl) T.m_len PySem.boot_len (pa_cons (pv 2) pa_nil))))
          (pss_cons (ps_asg (pe_op op_add (pv 3) pe_int) (pg_sub (pv 0) pe_int set_list))
          (pss_cons (ps_if (pt_cmp (pc_gt (pe_ix ix_list (pv 4) (pv 5) (fun _ _ => rfl)) pe_int))
              (pss_cons (ps_set (i := 6) sc_l_next.nd rfl (by first | exact Or.inl rfl | exact Or.inr rfl) (pe_op op_mod (pe_ix ix_list (pv 4) (pv 5) (fun _ _ => rfl)) (pv 1)))
              (pss_cons (ps_asg (pe_op op_fdivW (pe_ix ix_list (pv 4) (pv 5) (fun _ _ => rfl)) (pv 1)) (pg_sub (pv 4) (pv 5) set_list))
              (pss_one (ps_ret (pv 6)))))
              pss_nil)
          (pss_cons (ps_set (i := 7) sc_l_next.nd rfl (by first | exact Or.inl rfl | exact Or.inr rfl) (pe_ix ix_list (pe_lst (pa_cons pe_int (pa_cons pe_int (pa_cons pe_int pa_nil)))) (pe_op op_mod (pv 3) pe_int) (fun _ _ => rfl)))
          (pss_cons (ps_set (i := 8) sc_l_next.nd rfl (by first | exact Or.inl rfl | exact Or.inr rfl) (pe_op op_mod (pe_op op_pow (pe_op op_add (pe_op op_add (pe_op op_mod (pe_ix ix_list (pv 2) (pv 5) (fun _ _ => rfl)) pe_int) (pe_op op_mul pe_int (pv 3))) pe_int) pe_int) (pv 7)))
          (pss_cons (ps_set (i := 9) sc_l_next.nd rfl (by first | exact Or.inl rfl | exact Or.inr rfl) (pe_op op_mod (pe_op op_pow (pe_op op_add (pe_op op_add (pv 8) (pe_op op_mul pe_int (pv 3))) pe_int) pe_int) pe_int))
          (pss_one (ps_ret (pe_op op_mod (pe_op op_mod (pe_op op_add (pe_op op_mul (pv 9) pe_int) (pv 8)) pe_int) (pv 1)))))))))), ?_⟩
        have hlen : 0 < (((δ.cells.map V.int).length : Nat) : Int) := by rw [List.length_map]; omega
        refine ⟨.ref p.o, rfl, p.o, _, rfl, SqL.of one', rfl, _, _, rfl, _, _, rfl, _, _, rfl, rfl, ?_⟩
        refine ⟨.int δ.k, rfl, .ref p.cA, rfl, .ref p.cA, _, rfl, .inl ⟨_, sqc H hcu, rfl⟩, δ.k, _, rfl, rfl, hlen, ?_⟩
        refine ⟨.int δ.k, rfl, δ.k, 1, rfl, rfl, .ref p.o, rfl, p.o, _, 1, 1, rfl, rfl, one', rfl, ?_⟩
        obtain ⟨at_, hat⟩ : ∃ at_ : Int, δ.k % (((δ.cells.map V.int).length : Nat) : Int) = at_ := ⟨_, rfl⟩
        have hat0 : 0 ≤ at_ := by rw [← hat]; exact Int.emod_nonneg _ (by omega)
        have hat1 : at_ < δ.cells.length := by rw [← hat]; have := Int.emod_lt_of_pos δ.k hlen; rw [List.length_map] at this ⊢; exact this
        have hatN : atOf δ = at_.toNat := by unfold atOf; rw [← hat, List.length_map]
        have hset : [V.ref p.cA, V.int δ.k, V.ref p.rA].set 1 (.int (δ.k + 1)) = [V.ref p.cA, V.int (δ.k + 1), V.ref p.rA] := rfl
        rw [hset]
        generalize hH1 : upd H p.o (.lst [V.ref p.cA, V.int (δ.k + 1), V.ref p.rA]) = H1
        have f1 : H1 p.o = some (.lst [V.ref p.cA, V.int (δ.k + 1), V.ref p.rA]) := by rw [← hH1]; exact upd_same
        have f2 : H1 p.rA = some (.lst (δ.rests.map V.int)) := by rw [← hH1, upd_ne dk.ne.symm]; exact dk.two
        have f3 : H1 p.cA = some cu := by rw [← hH1, upd_ne dk.ne2.symm]; exact hcu
        have f4 : ∀ a o, a ≠ p.o → H a = some o → H1 a = some o := fun a o n e => by rw [← hH1, upd_ne n]; exact e
        have gr := atI_getD (xs := δ.rests) hat0 (by omega)
        have gc := atI_getD (xs := δ.cells) hat0 hat1
        generalize hrr : δ.rests.getD at_.toNat 0 = rv at gr
        refine ⟨.ref p.rA, rfl, .int at_, (by rw [← hat]; rfl), p.rA, _, at_, .int rv, rfl, rfl, SqL.of f2, gr, rv, 0, rfl, rfl, _, rfl, ?_⟩
        have en : nextOf mixA δ many = if 0 < rv then (rv % many, ⟨δ.cells, δ.k + 1, δ.rests.set at_.toNat (rv / many), δ.lft⟩) else (mixA (δ.cells.getD at_.toNat 0) δ.k % many, ⟨δ.cells, δ.k + 1, δ.rests, δ.lft⟩) := by
          unfold nextOf
          rw [hatN, hrr]
        rw [en] at hm
        by_cases hpos : 0 < rv
        · rw [if_pos hpos] at hm
          simp only [Option.some.injEq, Prod.mk.injEq] at hm
          obtain ⟨rfl, rfl⟩ := hm
          refine Eq.mpr (if_pos (c := decide (0 < rv) = true) (decide_eq_true hpos)) ?_
          refine ⟨.ref p.rA, rfl, .int at_, (by rw [← hat]; rfl), p.rA, _, at_, .int rv, rfl, rfl, SqL.of f2, gr, .int many, rfl, rv, many, rfl, rfl, b0, ?_⟩
          refine ⟨.ref p.rA, rfl, .int at_, (by rw [← hat]; rfl), p.rA, _, at_, .int rv, rfl, rfl, SqL.of f2, gr, .int many, rfl, rv, many, rfl, rfl, ⟨b0, log_ok b0 b1⟩, ?_⟩
          refine ⟨.ref p.rA, rfl, .int at_, (by rw [← hat]; rfl), p.rA, _, at_, at_.toNat, rfl, rfl, f2, by rw [List.length_map]; exact ixN_in hat0 (by omega), ?_⟩
          refine ⟨_, rfl, ?_⟩
          exact q _ _ (fun a o n1 n2 n3 e => by rw [upd_ne (fun z => dk.rn.elim (fun y => n2 (z.trans y)) fun y => n3 (z.trans y))]; exact f4 a o n1 e) (dkA.back hrs (fun z => hrs (by have e := congrArg List.length z; rw [List.length_set, List.length_nil] at e; exact List.length_eq_zero_iff.mp e)) rfl (by rw [upd_ne dk.ne]; exact f1.trans (by rw [eL])) (by rw [upd_same, List.map_set]) (fun a o n1 n2 e => by rw [upd_ne n2]; exact f4 a o n1 e)) (.int _)
        · rw [if_neg hpos] at hm
          simp only [Option.some.injEq, Prod.mk.injEq] at hm
          obtain ⟨rfl, rfl⟩ := hm
          refine Eq.mpr (if_neg (c := decide (0 < rv) = true) (fun z => hpos (of_decide_eq_true z))) ?_
          refine ⟨by decide, fun y hy => ?_⟩
          have npo : p.o ≠ y := ne_of_none f1 hy
          have npr : p.rA ≠ y := ne_of_none f2 hy
          have npc : p.cA ≠ y := ne_of_none f3 hy
          have k7 := Int.emod_nonneg δ.k (show (3 : Int) ≠ 0 by decide)
          have k7' := Int.emod_lt_of_pos δ.k (show (0 : Int) < 3 by decide)
          have gp := atI_getD (xs := prA) k7 (by show δ.k % 3 < ((3 : Nat) : Int); omega)
          have gp0 : 0 < prA.getD (δ.k % 3).toNat 0 ∧ prA.getD (δ.k % 3).toNat 0 ≤ 4000000000 := by
            have : ∀ j, j < 3 → 0 < prA.getD j 0 ∧ prA.getD j 0 ≤ 4000000000 := by decide
            exact this _ (by omega)
          generalize hc : δ.cells.getD at_.toNat 0 = cv at gc
          refine ⟨.int δ.k, rfl, δ.k, 3, rfl, rfl, (show (0 : Int) < 3 by decide), y, _, δ.k % 3, .int (prA.getD (δ.k % 3).toNat 0), rfl, rfl, SqL.of upd_same, gp, ?_⟩
          refine ⟨.ref p.cA, rfl, .int at_, (by rw [← hat]; rfl), p.cA, _, at_, .int cv, rfl, rfl, sqc _ (by rw [upd_ne npc]; exact f3), gc, cv, 2147483629, rfl, rfl, (show (0 : Int) < 2147483629 by decide), .int δ.k, rfl, 69621, δ.k, rfl, rfl, .inl ⟨by decide, by decide⟩, _, _, rfl, rfl, _, 54321, rfl, rfl, _, 3, rfl, rfl, ⟨by decide, by decide, mod_small cv δ.k (by decide) (by decide) (by decide) (by decide) (by decide) (by decide) b4 b5⟩, .int (prA.getD (δ.k % 3).toNat 0), rfl, _, _, rfl, rfl, gp0.1, ?_⟩
          refine ⟨.int (mxA cv δ.k), rfl, .int δ.k, rfl, 7129, δ.k, rfl, rfl, .inl ⟨by decide, by decide⟩, _, _, rfl, rfl, _, 41, rfl, rfl, _, 2, rfl, rfl, ⟨by decide, by decide, mod_small _ δ.k gp0.1 gp0.2 (by decide) (by decide) (by decide) (by decide) b4 b5⟩, _, 2147483477, rfl, rfl, (show (0 : Int) < 2147483477 by decide), ?_⟩
          refine ⟨_, rfl, _, 2147483423, rfl, rfl, .inr ⟨by decide, by decide⟩, .int (mxA cv δ.k), rfl, _, _, rfl, rfl, _, 4611686018427387847, rfl, rfl, (show (0 : Int) < 4611686018427387847 by decide), .int many, rfl, _, many, rfl, rfl, b0, ?_⟩
          exact q _ _ (fun a o n1 n2 n3 e => by
            have : a ≠ y := ne_of_none (f4 a o n1 e) hy
            rw [upd_ne this]; exact f4 a o n1 e) (dkA.back hrs hrs rfl (by rw [upd_ne npo]; exact f1.trans (by rw [eL])) (by rw [upd_ne npr]; exact f2) (fun a o n1 n2 e => by
            have : a ≠ y := ne_of_none (f4 a o n1 e) hy
            rw [upd_ne this]; exact f4 a o n1 e)) (by rw [hc]; exact Rep.int (mixA cv δ.k % many))
      · cases hm
    · cases hm
def m_delta : MS := (sSeq (sAsg (mTup (mCons (mCall f_rows_by_name (mCons (mVar 0) mNil)) (mCons (mCall f_rows_by_name (mCons (mVar 1) mNil)) mNil))) (gTupM 2 (gsCons (gSet 2) (gsCons (gSet 3) gsNil))))
  (sSeq (sAsg (mLcKeys 2 [5] (gSet 5) (mB (mBin (inDict true) (mVar 5) (mVar 3))) (mVar 5)) (gSet 4))
  (sSeq (sAsg (mLc (mItems (mVar 1)) [7] (gSet 7) (tOrM (mB (mBin (inDict true) (mBin subD' (mVar 7) (mC (.int 0))) (mVar 2))) (mB (mBin neD (mBin subD' (mVar 2) (mBin subD' (mVar 7) (mC (.int 0)))) (mVar 7)))) (mVar 7)) (gSet 6))
  (sRet (mTup (mCons (mCall tupD (mCons (mVar 4) mNil)) (mCons (mCall tupD (mCons (mVar 6) mNil)) mNil)))))))
def f_delta : List D → Option D := fnP 8 2 m_delta
theorem ok_delta (T : Tx P K mg) : FnOk P w K mg base CX0 2 T.a_delta T.d_delta ["one", "other"] (spP K f_delta) := okP (k := 1) T.F_delta sc_delta (by decide) fun cdv A outer s0 H E hr =>
  ((pdss_cons (pds_asg (pd_tup (pda_cons (pd_callP (ok_rows_by_name T) (hr.mono (by decide)) T.g_rows_by_name T.F_rows_by_name.kp T.b_rows_by_name pass0 (pda_cons (pd_var 0) pda_nil)) (pda_cons (pd_callP (ok_rows_by_name T) (hr.mono (by decide)) T.g_rows_by_name T.F_rows_by_name.kp T.b_rows_by_name pass0 (pda_cons (pd_var 1) pda_nil)) pda_nil))) (pdg_tup rfl (pdgs_cons (pdg_name 2 sc_delta.nd) (pdgs_cons (pdg_name 3 sc_delta.nd) pdgs_nil)))) (pdss_cons (pds_setLcKeys 4 2 (own := [("name", 5)]) rfl sc_delta.nd (blkOk_by (own := [("name", 5)]) (N := N_delta) (sc := defScope s_delta) (by decide +kernel)) ⟨fun _ _ _ _ _ => (pdg_name 5 sc_delta.nd), fun _ _ _ _ _ => (pdts_one (pdt_cmp (cs_notInDict (hu_of hr)) (pd_var 5) (pd_var 3) (by with_unfolding_all rfl))), fun _ _ _ _ _ => (pd_var 5), by decide⟩ (sw_true rfl rfl rfl (by decide +kernel))) (pdss_cons (pds_setLc 6 (own := [("row", 7)]) rfl sc_delta.nd (pdi_seq (pd_var 1)) (blkOk_by (own := [("row", 7)]) (N := N_delta) (sc := defScope s_delta) (by decide +kernel)) ⟨fun _ _ _ _ _ => (pdg_name 7 sc_delta.nd), fun _ _ _ _ _ => (pdts_one (PDW.pt (pdw_or (pdt_cmp (cs_notInDict (hu_of hr)) (pd_ix (hu_of hr) (pd_var 7) pd_int) (pd_var 2) (by with_unfolding_all rfl)) (pdw_or1 (pdt_cmp (cs_ne hr.units) (pd_ix (hu_of hr) (pd_var 2) (pd_ix (hu_of hr) (pd_var 7) pd_int)) (pd_var 7) (nomark _)))))), fun _ _ _ _ _ => (pd_var 7), by decide⟩ (sw_true rfl rfl rfl (by decide +kernel))) (pdss_one (pds_ret (pd_tup (pda_cons (pd_ctup T.m_tuple (pda_cons (pd_var 4) pda_nil)) (pda_cons (pd_ctup T.m_tuple (pda_cons (pd_var 6) pda_nil)) pda_nil)))))))) : PDSs _ _ m_delta)
def m_led : MR1 := (exSeq (exLift (sAsg (mVar 1) (gTupM 2 (gsCons (gSet 2) (gsCons (gSet 3) gsNil)))))
  (exSeq (exLift (sOwnC 4 fN_rows_by_name (mCons (mVar 0) mNil)))
  (exSeq (exFor (mItems (mVar 2)) (gSet 5) (exSeq (exIf (tInO true 4 (mVar 5)) exRaise (exLift sNext))
  (exLift (sDelD 4 (mVar 5)))))
  (exSeq (exLift (sUpdD 4 (mCall f_rows_by_name (mCons (mVar 3) mNil))))
  (exLift (sRet (mCall tupD (mCons (mLc (mItems (mSortO 4)) [5] (gSet 5) mYes (mGetO 4 (mVar 5))) mNil))))))))
def f_led : List D → Option (Option D) := fnR 6 2 m_led
theorem ok_led (T : Tx P K mg) : FnOk P w K mg base (L2.CX P w) 2 T.a_led T.d_led ["rows", "delta"] (spR K T.x_a f_led) := okR (k := 1) T.F_led sc_led (by decide) fun cdv A outer s0 H E hr =>
  ((pdrs_cons (pdr_of (pds_asg (pd_var 1) (pdg_tup rfl (pdgs_cons (pdg_name 2 sc_led.nd) (pdgs_cons (pdg_name 3 sc_led.nd) pdgs_nil))))) (pdrs_cons (pdr_of (pds_ownC 4 sc_led.nd (okN_rows_by_name T) (hr.mono (by decide)) T.g_rows_by_name T.F_rows_by_name.kp T.b_rows_by_name pass0 (pda_cons (pd_var 0) pda_nil))) (pdrs_cons (pdr_for (passes_of rfl) rfl (pdi_seq (pd_var 2)) (pdg_name 5 sc_led.nd) (pdrs_cons (pdr_if (pdt_notInO 4 (hu_of hr) (pd_var 5)) (pdrs_one (pdr_raise (Wx := fun cls d _ H => E cls d H) rfl (takes_of rfl rfl rfl rfl) PySem.F.excBase_ValueError T.x_x T.x_g T.x_k (raises_own T.x_s T.x_t))) (pdrs_of pdss_nil)) (pdrs_one (pdr_of (pds_delD 4 (pd_var 5)))))) (pdrs_cons (pdr_of (pds_updD 4 (pd_callP (ok_rows_by_name T) (hr.mono (by decide)) T.g_rows_by_name T.F_rows_by_name.kp T.b_rows_by_name pass0 (pda_cons (pd_var 3) pda_nil)))) (pdrs_one (pdr_of (pds_ret (pd_ctup T.m_tuple (pda_cons (pd_lc (own := [("name", 5)]) rfl sc_led.nd (pdi_seq (pd_sortO 4 rfl T.m_sorted)) (blkOk_by (own := [("name", 5)]) (N := N_led) (sc := defScope s_led) (by decide +kernel)) ⟨fun _ _ _ _ _ => (pdg_name 5 sc_led.nd), fun _ _ _ _ _ => pdts_nil, fun _ _ _ _ _ => (pd_getO 4 (hu_of hr) (pd_var 5)), by decide⟩) pda_nil))))))))) : PDExcs _ _ _ m_led)
def m_l_names : MS := (sSeq (sUniS 2 (mC (.str "abcdefghijklmnopqrstuvwxyz")))
  (sSeq (sAsg (mBin joinD (mC (.str "")) (mLc (mRng1 (mCallK 0 f_l_next (mCons (mC (.int 8)) mNil))) [4] (gSet 4) mYes (mIxU 2 (mCallK 0 f_l_next (mCons (mC (.int 26)) mNil))))) (gSet 3))
  (sSeq (sAsg (mCallK 0 f_l_next (mCons (mBin addD (mCall lenD (mCons (mVar 3) mNil)) (mC (.int 1))) mNil)) (gSet 5))
  (sRetX (xLc (mRng1 (mVar 1)) [4] (gSet 4) (xBinL addD (xBin addD (mSl (mVar 3) oNo (oSome (mVar 5))) (xPop 2 (mCallK 0 f_l_next (mCons (mLenU 2) mNil)))) (mSl (mVar 3) (oSome (mVar 5)) oNo)))))))
def f_l_names : List D → Dk → Option (D × Dk) := fnK 6 2 m_l_names
theorem ok_l_names (T : Tx P K mg) : FnOk P w K mg base CX0 2 T.a_l_names T.d_l_names ["_law_drawn", "_law_many"] (spK K f_l_names) := okK (k := 1) T.F_l_names sc_l_names (by decide) fun cdv A outer s0 H E hr =>
  ((pdss_cons (pds_uniS 2 rfl sc_l_names.nd T.m_list pd_str) (pdss_cons (pds_set 3 sc_l_names.nd (pd_join pd_str (pd_lc (own := [("_law_k", 4)]) rfl sc_l_names.nd (pdi_range1 T.m_range (pd_callK 0 (ok_l_next T) (hr.mono (by decide)) T.g_l_next T.F_l_next.kp T.b_l_next pass0 (pda_cons pd_int pda_nil))) (blkOk_by (own := [("_law_k", 4)]) (N := N_l_names) (sc := defScope s_l_names) (by decide +kernel)) ⟨fun _ _ _ _ _ => (pdg_name 4 sc_l_names.nd), fun _ _ _ _ _ => pdts_nil, fun _ _ _ _ _ => (pd_ixU 2 (pd_callK 0 (ok_l_next T) (hr.mono (by decide)) T.g_l_next T.F_l_next.kp T.b_l_next pass0 (pda_cons pd_int pda_nil))), by decide⟩))) (pdss_cons (pds_set 5 sc_l_names.nd (pd_callK 0 (ok_l_next T) (hr.mono (by decide)) T.g_l_next T.F_l_next.kp T.b_l_next pass0 (pda_cons (pd_add (pd_len T.m_len (pda_cons (pd_var 3) pda_nil)) pd_int) pda_nil))) (pdss_one (pds_retX (pdx_lc (own := [("_law_k", 4)]) rfl sc_l_names.nd (pdi_range1 T.m_range (pd_var 1)) (blkOk_by (own := [("_law_k", 4)]) (N := N_l_names) (sc := defScope s_l_names) (by decide +kernel)) ⟨fun _ _ _ _ _ => (pdg_name 4 sc_l_names.nd), fun _ _ _ _ _ => (pdx_addL (pdx_add (pd_sl (pd_var 3) pdo_no (pdo_some (pd_var 5))) (pdx_pop 2 (pd_callK 0 (ok_l_next T) (hr.mono (by decide)) T.g_l_next T.F_l_next.kp T.b_l_next pass0 (pda_cons (pd_lenU 2 T.m_len) pda_nil)))) (pd_sl (pd_var 3) (pdo_some (pd_var 5)) pdo_no)), by decide⟩)))))) : PDSs _ _ m_l_names)
def m_l_row : MS := (sSeq (sAsg (mBin subD' (mLst (mCons (mTup mNil) (mCons (mTup (mCons (mC (.str "go")) mNil)) (mCons (mTup (mCons (mC (.str "go")) (mCons (mTup (mCons (mC (.str "say")) (mCons (mC (.str "n")) mNil))) mNil))) (mCons (mTup (mCons (mTup (mCons (mC (.str "by")) (mCons (mC (.str "n")) (mCons (mTup (mCons (mTup (mCons (mC (.str "one")) (mCons (mTup (mCons (mC (.str "x")) mNil)) mNil))) (mCons (mTup (mCons (mC (.str "many")) (mCons (mTup mNil) mNil))) mNil))) mNil)))) mNil)) mNil))))) (mCallK 0 f_l_next (mCons (mC (.int 4)) mNil))) (gSet 2))
  (sRet (mTup (mCons (mVar 1) (mCons (mBin subD' (mLst (mCons (mC (.str "en")) (mCons (mC (.str "de")) (mCons (mC (.str "fr")) mNil)))) (mCallK 0 f_l_next (mCons (mC (.int 3)) mNil))) (mCons (mBin subD' (mLst (mCons (mC .none) (mCons (mC (.int 0)) (mCons (mC (.int 1)) (mCons (mC (.int 12)) mNil))))) (mCallK 0 f_l_next (mCons (mC (.int 4)) mNil))) (mCons (mVar 2) mNil)))))))
def f_l_row : List D → Dk → Option (D × Dk) := fnK 3 2 m_l_row
theorem ok_l_row (T : Tx P K mg) : FnOk P w K mg base CX0 2 T.a_l_row T.d_l_row ["_law_drawn", "_law_name"] (spK K f_l_row) := okK (k := 1) T.F_l_row sc_l_row (by decide) fun cdv A outer s0 H E hr =>
  ((pdss_cons (pds_set 2 sc_l_row.nd (pd_ix (hu_of hr) (pd_lst (pda_cons (pd_tup pda_nil) (pda_cons (pd_tup (pda_cons pd_str pda_nil)) (pda_cons (pd_tup (pda_cons pd_str (pda_cons (pd_tup (pda_cons pd_str (pda_cons pd_str pda_nil))) pda_nil))) (pda_cons (pd_tup (pda_cons (pd_tup (pda_cons pd_str (pda_cons pd_str (pda_cons (pd_tup (pda_cons (pd_tup (pda_cons pd_str (pda_cons (pd_tup (pda_cons pd_str pda_nil)) pda_nil))) (pda_cons (pd_tup (pda_cons pd_str (pda_cons (pd_tup pda_nil) pda_nil))) pda_nil))) pda_nil)))) pda_nil)) pda_nil))))) (pd_callK 0 (ok_l_next T) (hr.mono (by decide)) T.g_l_next T.F_l_next.kp T.b_l_next pass0 (pda_cons pd_int pda_nil)))) (pdss_one (pds_ret (pd_tup (pda_cons (pd_var 1) (pda_cons (pd_ix (hu_of hr) (pd_lst (pda_cons pd_str (pda_cons pd_str (pda_cons pd_str pda_nil)))) (pd_callK 0 (ok_l_next T) (hr.mono (by decide)) T.g_l_next T.F_l_next.kp T.b_l_next pass0 (pda_cons pd_int pda_nil))) (pda_cons (pd_ix (hu_of hr) (pd_lst (pda_cons pd_non (pda_cons pd_int (pda_cons pd_int (pda_cons pd_int pda_nil))))) (pd_callK 0 (ok_l_next T) (hr.mono (by decide)) T.g_l_next T.F_l_next.kp T.b_l_next pass0 (pda_cons pd_int pda_nil))) (pda_cons (pd_var 2) pda_nil)))))))) : PDSs _ _ m_l_row)
def m_l_forms : MS := (sSeq (sAsg (mCallK 0 f_l_names (mCons (mC (.int 3)) mNil)) (gLstM 3 (gsCons (gSet 1) (gsCons (gSet 2) (gsCons (gSet 3) gsNil)))))
  (sSeq (sAsg (mCallK 0 f_l_next (mCons (mC (.int 4)) mNil)) (gSet 4))
  (sSeq (sIf (mB (mBin eqD (mVar 4) (mC (.int 0)))) (sRet (mTup (mCons (mTup (mCons (mVar 1) (mCons (mTup (mCons (mTup mNil) mNil)) mNil))) mNil))) sNext)
  (sSeq (sIf (mB (mBin ltD (mVar 4) (mC (.int 3)))) (sSeq (sAsg (mBin subD' (mLst (mCons (mTup (mCons (mC (.str "whole")) (mCons (mC (.int 0)) (mCons (mC (.int 1)) (mCons (mC (.int 1)) mNil))))) (mCons (mTup (mCons (mC (.str "rest")) (mCons (mC (.int 0)) (mCons (mC (.int 0)) (mCons (mC (.int 4)) mNil))))) mNil))) (mBin subD (mVar 4) (mC (.int 1)))) (gSet 5))
  (sRet (mTup (mCons (mTup (mCons (mVar 1) (mCons (mTup (mCons (mTup (mCons (mBin addD (mVar 5) (mTup (mCons (mC (.bool true)) mNil))) mNil)) mNil)) mNil))) (mCons (mTup (mCons (mVar 3) (mCons (mTup (mCons (mTup (mCons (mBin addD (mVar 5) (mTup (mCons (mC (.bool false)) mNil))) mNil)) mNil)) mNil))) mNil))))) sNext)
  (sSeq (sAsg (mLc (mItems (mLst (mCons (mTup (mCons (mC (.int 1)) (mCons (mC (.int 1)) mNil))) (mCons (mTup (mCons (mC (.int 2)) (mCons (mC (.int 4)) mNil))) (mCons (mTup (mCons (mC (.int 5)) (mCons (mC (.int 9)) mNil))) (mCons (mTup (mCons (mC (.int 0)) (mCons (mC (.int 0)) mNil))) mNil)))))) [7, 8] (gTupM 2 (gsCons (gSet 7) (gsCons (gSet 8) gsNil))) mYes (mTup (mCons (mC (.str "whole")) (mCons (mC (.int 10)) (mCons (mVar 7) (mCons (mVar 8) (mCons (mC (.bool true)) mNil))))))) (gSet 6))
  (sRet (mTup (mCons (mTup (mCons (mVar 1) (mCons (mTup (mCons (mTup (mCons (mBin subD' (mVar 6) (mC (.int 0))) mNil)) mNil)) mNil))) (mCons (mTup (mCons (mVar 2) (mCons (mTup (mCons (mTup (mCons (mBin subD' (mVar 6) (mC (.int 1))) mNil)) mNil)) mNil))) (mCons (mTup (mCons (mVar 3) (mCons (mTup (mCons (mTup (mCons (mBin subD' (mVar 6) (mC (.int 2))) mNil)) (mCons (mTup (mCons (mBin subD' (mVar 6) (mC (.int 3))) mNil)) mNil))) mNil))) mNil))))))))))
def f_l_forms : List D → Dk → Option (D × Dk) := fnK 9 1 m_l_forms
theorem ok_l_forms (T : Tx P K mg) : FnOk P w K mg base CX0 3 T.a_l_forms T.d_l_forms ["_law_drawn"] (spK K f_l_forms) := okK (k := 2) T.F_l_forms sc_l_forms (by decide) fun cdv A outer s0 H E hr =>
  ((pdss_cons (pds_asg (pd_callK 0 (ok_l_names T) (hr.mono (by decide)) T.g_l_names T.F_l_names.kp T.b_l_names pass0 (pda_cons pd_int pda_nil)) (pdg_lst rfl (pdgs_cons (pdg_name 1 sc_l_forms.nd) (pdgs_cons (pdg_name 2 sc_l_forms.nd) (pdgs_cons (pdg_name 3 sc_l_forms.nd) pdgs_nil))))) (pdss_cons (pds_set 4 sc_l_forms.nd (pd_callK 0 (ok_l_next T) (hr.mono (by decide)) T.g_l_next T.F_l_next.kp T.b_l_next pass0 (pda_cons pd_int pda_nil))) (pdss_cons (pds_if (pdt_cmp (cs_eq hr.units) (pd_var 4) pd_int (nomark _)) (pdss_one (pds_ret (pd_tup (pda_cons (pd_tup (pda_cons (pd_var 1) (pda_cons (pd_tup (pda_cons (pd_tup pda_nil) pda_nil)) pda_nil))) pda_nil)))) pdss_nil) (pdss_cons (pds_if (pdt_cmp cs_lt (pd_var 4) pd_int (nomark _)) (pdss_cons (pds_set 5 sc_l_forms.nd (pd_ix (hu_of hr) (pd_lst (pda_cons (pd_tup (pda_cons pd_str (pda_cons pd_int (pda_cons pd_int (pda_cons pd_int pda_nil))))) (pda_cons (pd_tup (pda_cons pd_str (pda_cons pd_int (pda_cons pd_int (pda_cons pd_int pda_nil))))) pda_nil))) (pd_sub (pd_var 4) pd_int))) (pdss_one (pds_ret (pd_tup (pda_cons (pd_tup (pda_cons (pd_var 1) (pda_cons (pd_tup (pda_cons (pd_tup (pda_cons (pd_add (pd_var 5) (pd_tup (pda_cons pd_bl pda_nil))) pda_nil)) pda_nil)) pda_nil))) (pda_cons (pd_tup (pda_cons (pd_var 3) (pda_cons (pd_tup (pda_cons (pd_tup (pda_cons (pd_add (pd_var 5) (pd_tup (pda_cons pd_bl pda_nil))) pda_nil)) pda_nil)) pda_nil))) pda_nil)))))) pdss_nil) (pdss_cons (pds_setLc 6 (own := [("_law_low", 7), ("_law_high", 8)]) rfl sc_l_forms.nd (pdi_seq (pd_lst (pda_cons (pd_tup (pda_cons pd_int (pda_cons pd_int pda_nil))) (pda_cons (pd_tup (pda_cons pd_int (pda_cons pd_int pda_nil))) (pda_cons (pd_tup (pda_cons pd_int (pda_cons pd_int pda_nil))) (pda_cons (pd_tup (pda_cons pd_int (pda_cons pd_int pda_nil))) pda_nil)))))) (blkOk_by (own := [("_law_low", 7), ("_law_high", 8)]) (N := N_l_forms) (sc := defScope s_l_forms) (by decide +kernel)) ⟨fun _ _ _ _ _ => (pdg_tup rfl (pdgs_cons (pdg_name 7 sc_l_forms.nd) (pdgs_cons (pdg_name 8 sc_l_forms.nd) pdgs_nil))), fun _ _ _ _ _ => pdts_nil, fun _ _ _ _ _ => (pd_tup (pda_cons pd_str (pda_cons pd_int (pda_cons (pd_var 7) (pda_cons (pd_var 8) (pda_cons pd_bl pda_nil)))))), by decide⟩ (sw_true rfl rfl rfl (by decide +kernel))) (pdss_one (pds_ret (pd_tup (pda_cons (pd_tup (pda_cons (pd_var 1) (pda_cons (pd_tup (pda_cons (pd_tup (pda_cons (pd_ix (hu_of hr) (pd_var 6) pd_int) pda_nil)) pda_nil)) pda_nil))) (pda_cons (pd_tup (pda_cons (pd_var 2) (pda_cons (pd_tup (pda_cons (pd_tup (pda_cons (pd_ix (hu_of hr) (pd_var 6) pd_int) pda_nil)) pda_nil)) pda_nil))) (pda_cons (pd_tup (pda_cons (pd_var 3) (pda_cons (pd_tup (pda_cons (pd_tup (pda_cons (pd_ix (hu_of hr) (pd_var 6) pd_int) pda_nil)) (pda_cons (pd_tup (pda_cons (pd_ix (hu_of hr) (pd_var 6) pd_int) pda_nil)) pda_nil))) pda_nil))) pda_nil))))))))))) : PDSs _ _ m_l_forms)
def m_l_list : MS := (sRet (mCall tupD (mCons (mLc (mItems (mCall sortedD (mCons (mVar 1) mNil))) [2] (gSet 2) (mB (mBin gtD (mCallK 0 f_l_next (mCons (mC (.int 3)) mNil)) (mC (.int 0)))) (mCallK 0 f_l_row (mCons (mVar 2) mNil))) mNil)))
def f_l_list : List D → Dk → Option (D × Dk) := fnK 3 2 m_l_list
theorem ok_l_list (T : Tx P K mg) : FnOk P w K mg base CX0 3 T.a_l_list T.d_l_list ["_law_drawn", "_law_names_here"] (spK K f_l_list) := okK (k := 2) T.F_l_list sc_l_list (by decide) fun cdv A outer s0 H E hr =>
  ((pdss_one (pds_ret (pd_ctup T.m_tuple (pda_cons (pd_lc (own := [("_law_name", 2)]) rfl sc_l_list.nd (pdi_seq (pd_sorted T.m_sorted (pda_cons (pd_var 1) pda_nil))) (blkOk_by (own := [("_law_name", 2)]) (N := N_l_list) (sc := defScope s_l_list) (by decide +kernel)) ⟨fun _ _ _ _ _ => (pdg_name 2 sc_l_list.nd), fun _ _ _ _ _ => (pdts_one (pdt_cmp cs_gt (pd_callK 0 (ok_l_next T) (hr.mono (by decide)) T.g_l_next T.F_l_next.kp T.b_l_next pass0 (pda_cons pd_int pda_nil)) pd_int (nomark _))), fun _ _ _ _ _ => (pd_callK 0 (ok_l_row T) (hr.mono (by decide)) T.g_l_row T.F_l_row.kp T.b_l_row pass0 (pda_cons (pd_var 2) pda_nil)), by decide⟩) pda_nil)))) : PDSs _ _ m_l_list)
def m_l_turned : MS := (sSeq (sAsg (mLst mNil) (gSet 3))
  (sSeq (sFor (mItems (mCall sortedD (mCons (mVar 2) mNil))) (gSet 4) (sSeq (sAsg (mLc (mItems (mVar 1)) [6] (gSet 6) (mB (mBin eqD (mBin subD' (mVar 6) (mC (.int 0))) (mVar 4))) (mVar 6)) (gSet 5))
  (sSeq (sAsg (mCallK 0 f_l_next (mCons (mC (.int 4)) mNil)) (gSet 7))
  (sSeq (sIf (mB (mBin eqD (mVar 7) (mC (.int 0)))) (sAsg (mLst (mCons (mCallK 0 f_l_row (mCons (mVar 4) mNil)) mNil)) (gSet 5)) sNext)
  (sIf (tOrM (mB (mBin gtD (mVar 7) (mC (.int 1)))) (tOrM (tAndM (mB (mBin neD (mVar 5) (mLst mNil))) (tAndM (mB (mBin eqD (mVar 7) (mC (.int 1)))) (mB (mBin eqD (mCallK 0 f_l_next (mCons (mC (.int 2)) mNil)) (mC (.int 0)))))) (mB (mBin eqD (mVar 7) (mC (.int 0)))))) (sAsg (mBin addD (mVar 3) (mVar 5)) (gSet 3)) sNext)))))
  (sRet (mCall tupD (mCons (mVar 3) mNil)))))
def f_l_turned : List D → Dk → Option (D × Dk) := fnK 8 3 m_l_turned
theorem ok_l_turned (T : Tx P K mg) : FnOk P w K mg base CX0 3 T.a_l_turned T.d_l_turned ["_law_drawn", "_law_rows", "_law_names_here"] (spK K f_l_turned) := okK (k := 2) T.F_l_turned sc_l_turned (by decide) fun cdv A outer s0 H E hr =>
  ((pdss_cons (pds_set 3 sc_l_turned.nd (pd_lst pda_nil)) (pdss_cons (pds_for PassesOwn.never rfl (pdi_seq (pd_sorted T.m_sorted (pda_cons (pd_var 2) pda_nil))) (pdg_name 4 sc_l_turned.nd) (pdss_cons (pds_setLc 5 (own := [("_law_row_here", 6)]) rfl sc_l_turned.nd (pdi_seq (pd_var 1)) (blkOk_by (own := [("_law_row_here", 6)]) (N := N_l_turned) (sc := defScope s_l_turned) (by decide +kernel)) ⟨fun _ _ _ _ _ => (pdg_name 6 sc_l_turned.nd), fun _ _ _ _ _ => (pdts_one (pdt_cmp (cs_eq hr.units) (pd_ix (hu_of hr) (pd_var 6) pd_int) (pd_var 4) (nomark _))), fun _ _ _ _ _ => (pd_var 6), by decide⟩ (sw_true rfl rfl rfl (by decide +kernel))) (pdss_cons (pds_set 7 sc_l_turned.nd (pd_callK 0 (ok_l_next T) (hr.mono (by decide)) T.g_l_next T.F_l_next.kp T.b_l_next pass0 (pda_cons pd_int pda_nil))) (pdss_cons (pds_if (pdt_cmp (cs_eq hr.units) (pd_var 7) pd_int (nomark _)) (pdss_one (pds_set 5 sc_l_turned.nd (pd_lst (pda_cons (pd_callK 0 (ok_l_row T) (hr.mono (by decide)) T.g_l_row T.F_l_row.kp T.b_l_row pass0 (pda_cons (pd_var 4) pda_nil)) pda_nil)))) pdss_nil) (pdss_one (pds_if (PDW.pt (pdw_or (pdt_cmp cs_gt (pd_var 7) pd_int (nomark _)) (pdw_or (PDW.pt (pdw_and (pdt_cmp (cs_ne hr.units) (pd_var 5) (pd_lst pda_nil) (nomark _)) (pdw_and (pdt_cmp (cs_eq hr.units) (pd_var 7) pd_int (nomark _)) (pdw_and1 (pdt_cmp (cs_eq hr.units) (pd_callK 0 (ok_l_next T) (hr.mono (by decide)) T.g_l_next T.F_l_next.kp T.b_l_next pass0 (pda_cons pd_int pda_nil)) pd_int (nomark _)))))) (pdw_or1 (pdt_cmp (cs_eq hr.units) (pd_var 7) pd_int (nomark _)))))) (pdss_one (pds_set 3 sc_l_turned.nd (pd_add (pd_var 3) (pd_var 5)))) pdss_nil)))))) (pdss_one (pds_ret (pd_ctup T.m_tuple (pda_cons (pd_var 3) pda_nil)))))) : PDSs _ _ m_l_turned)
def m_l_tongue : MS := (sSeq (sAsg (mBin subD' (mLst (mCons (mC (.str ".")) (mCons (mC (.str ",")) (mCons (mC (.str "'")) mNil)))) (mCallK 0 f_l_next (mCons (mC (.int 3)) mNil))) (gSet 1))
  (sSeq (sAsg (mBin subD' (mLc (mItems (mLst (mCons (mC (.str "")) (mCons (mC (.str ",")) (mCons (mC (.str ".")) (mCons (mC (.str "_")) mNil)))))) [3] (gSet 3) (mB (mBin neD (mVar 3) (mVar 1))) (mVar 3)) (mCallK 0 f_l_next (mCons (mC (.int 3)) mNil))) (gSet 2))
  (sSeq (sAsg (mBin subD' (mLst (mCons (mTup (mCons (mC (.str "<")) (mCons (mC (.str ">")) mNil))) (mCons (mTup (mCons (mC (.str "")) (mCons (mC (.str "")) mNil))) (mCons (mTup (mCons (mC (.str "((")) (mCons (mC (.str "))")) mNil))) (mCons (mTup (mCons (mC (.str "'")) (mCons (mC (.str "")) mNil))) mNil))))) (mCallK 0 f_l_next (mCons (mC (.int 4)) mNil))) (gSet 4))
  (sRet (mTup (mCons (mCallK 0 f_l_forms mNil) (mCons (mTup (mCons (mVar 2) (mCons (mVar 1) (mCons (mC (.str "y-m-d")) (mCons (mVar 4) mNil))))) mNil)))))))
def f_l_tongue : List D → Dk → Option (D × Dk) := fnK 5 1 m_l_tongue
theorem ok_l_tongue (T : Tx P K mg) : FnOk P w K mg base CX0 4 T.a_l_tongue T.d_l_tongue ["_law_drawn"] (spK K f_l_tongue) := okK (k := 3) T.F_l_tongue sc_l_tongue (by decide) fun cdv A outer s0 H E hr =>
  ((pdss_cons (pds_set 1 sc_l_tongue.nd (pd_ix (hu_of hr) (pd_lst (pda_cons pd_str (pda_cons pd_str (pda_cons pd_str pda_nil)))) (pd_callK 0 (ok_l_next T) (hr.mono (by decide)) T.g_l_next T.F_l_next.kp T.b_l_next pass0 (pda_cons pd_int pda_nil)))) (pdss_cons (pds_set 2 sc_l_tongue.nd (pd_ix (hu_of hr) (pd_lc (own := [("_law_one", 3)]) rfl sc_l_tongue.nd (pdi_seq (pd_lst (pda_cons pd_str (pda_cons pd_str (pda_cons pd_str (pda_cons pd_str pda_nil)))))) (blkOk_by (own := [("_law_one", 3)]) (N := N_l_tongue) (sc := defScope s_l_tongue) (by decide +kernel)) ⟨fun _ _ _ _ _ => (pdg_name 3 sc_l_tongue.nd), fun _ _ _ _ _ => (pdts_one (pdt_cmp (cs_ne hr.units) (pd_var 3) (pd_var 1) (nomark _))), fun _ _ _ _ _ => (pd_var 3), by decide⟩) (pd_callK 0 (ok_l_next T) (hr.mono (by decide)) T.g_l_next T.F_l_next.kp T.b_l_next pass0 (pda_cons pd_int pda_nil)))) (pdss_cons (pds_set 4 sc_l_tongue.nd (pd_ix (hu_of hr) (pd_lst (pda_cons (pd_tup (pda_cons pd_str (pda_cons pd_str pda_nil))) (pda_cons (pd_tup (pda_cons pd_str (pda_cons pd_str pda_nil))) (pda_cons (pd_tup (pda_cons pd_str (pda_cons pd_str pda_nil))) (pda_cons (pd_tup (pda_cons pd_str (pda_cons pd_str pda_nil))) pda_nil))))) (pd_callK 0 (ok_l_next T) (hr.mono (by decide)) T.g_l_next T.F_l_next.kp T.b_l_next pass0 (pda_cons pd_int pda_nil)))) (pdss_one (pds_ret (pd_tup (pda_cons (pd_callK 0 (ok_l_forms T) (hr.mono (by decide)) T.g_l_forms T.F_l_forms.kp T.b_l_forms pass0 pda_nil) (pda_cons (pd_tup (pda_cons (pd_var 2) (pda_cons (pd_var 1) (pda_cons pd_str (pda_cons (pd_var 4) pda_nil))))) pda_nil)))))))) : PDSs _ _ m_l_tongue)
def m_l_some_tongues : MS := (sRet (mCall dictLD (mCons (mLc (mItems (mLst (mCons (mC (.str "en")) (mCons (mC (.str "de")) (mCons (mC (.str "fr")) mNil))))) [1] (gSet 1) mYes (mTup (mCons (mVar 1) (mCons (mCallK 0 f_l_tongue mNil) mNil)))) mNil)))
def f_l_some_tongues : List D → Dk → Option (D × Dk) := fnK 2 1 m_l_some_tongues
theorem ok_l_some_tongues (T : Tx P K mg) : FnOk P w K mg base CX0 5 T.a_l_some_tongues T.d_l_some_tongues ["_law_drawn"] (spK K f_l_some_tongues) := okK (k := 4) T.F_l_some_tongues sc_l_some_tongues (by decide) fun cdv A outer s0 H E hr =>
  ((pdss_one (pds_ret (pd_dictL rfl T.m_dict (pda_cons (pd_lc (own := [("_law_name", 1)]) rfl sc_l_some_tongues.nd (pdi_seq (pd_lst (pda_cons pd_str (pda_cons pd_str (pda_cons pd_str pda_nil))))) (blkOk_by (own := [("_law_name", 1)]) (N := N_l_some_tongues) (sc := defScope s_l_some_tongues) (by decide +kernel)) ⟨fun _ _ _ _ _ => (pdg_name 1 sc_l_some_tongues.nd), fun _ _ _ _ _ => pdts_nil, fun _ _ _ _ _ => (pd_tup (pda_cons (pd_var 1) (pda_cons (pd_callK 0 (ok_l_tongue T) (hr.mono (by decide)) T.g_l_tongue T.F_l_tongue.kp T.b_l_tongue pass0 pda_nil) pda_nil))), by decide⟩) pda_nil)))) : PDSs _ _ m_l_some_tongues)
def xnL : Nat → List Str
  | 0 => []
  | _ => ["number"]
def PP (T : Tx P K mg) : OPar := ⟨fun _ => T.c0_a, fun n => match n with | 0 => T.x_a | _ => T.x1_a, xnL⟩
def em_Behind : Nat → Bool
  | 0 => false
  | _ => true
def em_NoFit : Nat → Bool
  | 0 => true
  | _ => false
theorem exm_Behind (T : Tx P K mg) : ∀ j, PySem.W.exmOne K (.ref ((PP T).xc j)) (.ref T.x1_a) = some (em_Behind j)
  | 0 => T.xm_01
  | _ + 1 => T.xm_11
theorem exm_NoFit (T : Tx P K mg) : ∀ j, PySem.W.exmOne K (.ref ((PP T).xc j)) (.ref T.x_a) = some (em_NoFit j)
  | 0 => T.x_m
  | _ + 1 => T.xm_10
def k_HouseError : Nat → Option Bool := fun _ => some true
theorem ki_HouseError (T : Tx P K mg) : ∀ j b, k_HouseError j = some b → ExcC K ((PP T).xc j) ∧ PySem.W.kitOne K (.ref ((PP T).xc j)) (.ref T.y_a) = some b
  | 0, _, e => by cases e; exact ⟨T.x_c, T.x_i⟩
  | _ + 1, _, e => by cases e; exact ⟨T.x1_c, T.x1_h⟩
theorem xf_number (T : Tx P K mg) : ∀ j, ("number" : Str) ∈ (PP T).xn j → XfC K ((PP T).xc j) ∧ PySem.W.findIn K (.ref ((PP T).xc j)) "number" = some none ∧ ((PP T).xn j).length = 1
  | 0, e => by cases e
  | _ + 1, _ => ⟨T.x1_x, T.x1_f0, rfl⟩
def g_Program : String ⊕ Nat → Option Bool
  | .inr _ => some true
  | .inl "tuple" => some false
  | .inl "int" => some false
  | _ => none
theorem isi_Program (T : Tx P K mg) : ∀ t b, g_Program t = some b → PySem.W.kitOne K (tyVal (PP T) t) (.ref T.c0_a) = some b ∧ ∀ c, t = .inr c → IsiC K ((PP T).cl c) := by
  intro t b e
  unfold g_Program at e
  split at e
  · cases e; exact ⟨T.kt0, fun c _ => ⟨T.c0_c, T.ic_ha, T.ic_hn, T.ic_ht, T.ic_hm⟩⟩
  · cases e; exact ⟨T.kt1, fun c z => by cases z⟩
  · cases e; exact ⟨T.kt2, fun c z => by cases z⟩
  · cases e
abbrev tys_Program : List String := ["tuple", "int"]
theorem nf_Program (T : Tx P K mg) : ∀ t ∈ tys_Program, PySem.W.notFirst K T.c0_a (.type t) = true := by
  intro t ht
  rcases List.mem_cons.mp ht with rfl | ht
  · exact T.nf0
  · cases List.mem_singleton.mp ht
    exact T.nf1
theorem ok_ini1 (T : Tx P K mg) : FnOk P w K mg base CX0 1 T.x1_I T.x1_d ["self", "number"] (spI T.x1_a ["number"]) := okIni (k := 0) T.x1_i sc_ini1 T.m_super rfl rfl fun cc cda A outer s H vs Q E hr h => semI1 (s1 := "the program is at ") (pe_joined (.cons pe_str (.cons (pe_fmtR (pv 1)) .nil))) (pss_one (ps_ost (pv 0) (pv 1))) T.x1_i.T T.x1_f0 (by decide) h
def fV_led : FnV := rV 0 f_led
theorem okV_led (T : Tx P K mg) : FnOk P w K mg base (L2.CX P w) 2 T.a_led T.d_led ["rows", "delta"] (spV (PP T) K fV_led) := okR_V (PP := PP T) rfl rfl (ok_led T)
def m_Program___init__ : MSo := (qSeq (qSetF 0 "rows" (mVarO 0) (liftE (mCall tupD (mCons (mVar 1) mNil))))
  (qSeq (qSetF 0 "tongues" (mVarO 0) (liftE (mCall dictCD (mCons (mVar 2) mNil))))
  (qSetF 0 "number" (mVarO 0) (liftE (mC (.int 0))))))
def f_Program___init__ : FnO := fnO 3 3 m_Program___init__
theorem ok_Program___init__ (T : Tx P K mg) : FnOk P w K mg base (L2.CX P w) 1 T.a_Program___init__ T.d_Program___init__ ["self", "rows", "tongues"] (spO (PP T) K f_Program___init__) := okO (k := 0) T.F_Program___init__ sc_Program___init__ (by decide) fun cdv A outer s0 H E hr =>
  ((pdqs_cons (pdq_fld (c := 0) T.c0_c T.c0_n_rows (pdo_var 0) (pdo_of fun pn xe => (pd_ctup T.m_tuple (pda_cons (pd_var 1) pda_nil)))) (pdqs_cons (pdq_fld (c := 0) T.c0_c T.c0_n_tongues (pdo_var 0) (pdo_of fun pn xe => (pd_dictC T.m_dict (pda_cons (pd_var 2) pda_nil)))) (pdqs_one (pdq_fld (c := 0) T.c0_c T.c0_n_number (pdo_var 0) (pdo_of fun pn xe => pd_int))))) : PDSso (PP T) _ _ m_Program___init__)
def m_Program_its_number : MSo := (qRet (mFld 0 "number" (mVarO 0)))
def f_Program_its_number : FnO := fnO 1 1 m_Program_its_number
theorem ok_Program_its_number (T : Tx P K mg) : FnOk P w K mg base (L2.CX P w) 1 T.a_Program_its_number T.d_Program_its_number ["self"] (spO (PP T) K f_Program_its_number) := okO (k := 0) T.F_Program_its_number sc_Program_its_number (by decide) fun cdv A outer s0 H E hr =>
  ((pdqs_one (pdq_ret (pdo_fld (c := 0) T.c0_c T.c0_n_number (pdo_var 0)))) : PDSso (PP T) _ _ m_Program_its_number)
def m_Program_its_rows : MSo := (qRet (mFld 0 "rows" (mVarO 0)))
def f_Program_its_rows : FnO := fnO 1 1 m_Program_its_rows
theorem ok_Program_its_rows (T : Tx P K mg) : FnOk P w K mg base (L2.CX P w) 1 T.a_Program_its_rows T.d_Program_its_rows ["self"] (spO (PP T) K f_Program_its_rows) := okO (k := 0) T.F_Program_its_rows sc_Program_its_rows (by decide) fun cdv A outer s0 H E hr =>
  ((pdqs_one (pdq_ret (pdo_fld (c := 0) T.c0_c T.c0_n_rows (pdo_var 0)))) : PDSso (PP T) _ _ m_Program_its_rows)
def m_Program___len__ : MSo := (qRet (mCbO lenD (oCons (mFld 0 "rows" (mVarO 0)) oNil)))
def f_Program___len__ : FnO := fnO 1 1 m_Program___len__
theorem ok_Program___len__ (T : Tx P K mg) : FnOk P w K mg base (L2.CX P w) 1 T.a_Program___len__ T.d_Program___len__ ["self"] (spO (PP T) K f_Program___len__) := okO (k := 0) T.F_Program___len__ sc_Program___len__ (by decide) fun cdv A outer s0 H E hr =>
  ((pdqs_one (pdq_ret (pdo_lenD T.m_len (pdao_cons (pdo_fld (c := 0) T.c0_c T.c0_n_rows (pdo_var 0)) pdao_nil)))) : PDSso (PP T) _ _ m_Program___len__)
def m_Program___eq__ : MSo := (qRet (oAndV (mIsiO g_Program (mVarO 1)) (oAndV (mBinO eqD (mFld 0 "rows" (mVarO 0)) (mFld 0 "rows" (mVarO 1))) (mBinO eqD (mFld 0 "number" (mVarO 0)) (mFld 0 "number" (mVarO 1))))))
def f_Program___eq__ : FnO := fnO 2 2 m_Program___eq__
theorem ok_Program___eq__ (T : Tx P K mg) : FnOk P w K mg base (L2.CX P w) 1 T.a_Program___eq__ T.d_Program___eq__ ["self", "other"] (spO (PP T) K f_Program___eq__) := okO (k := 0) T.F_Program___eq__ sc_Program___eq__ (by decide) fun cdv A outer s0 H E hr =>
  ((pdqs_one (pdq_ret (pdo_and (pdo_isiO (P := PP T) (g := g_Program) (isi_Program T) T.m_isinstance T.c0_g (pdo_var 1)) (pdo_and (pdo_cmp (cmp_meet fun pn xe => (cs_eq hr.units)) (pdo_fld (c := 0) T.c0_c T.c0_n_rows (pdo_var 0)) (pdo_fld (c := 0) T.c0_c T.c0_n_rows (pdo_var 1)) (nomark _)) (pdo_one (pdo_cmp (cmp_meet fun pn xe => (cs_eq hr.units)) (pdo_fld (c := 0) T.c0_c T.c0_n_number (pdo_var 0)) (pdo_fld (c := 0) T.c0_c T.c0_n_number (pdo_var 1)) (nomark _))))))) : PDSso (PP T) _ _ m_Program___eq__)
def m_Program_take_delta : MSo := (qSeq (qIf (oNotT (mTruO (mCbO f_is_number (oCons (liftE (mVar 1)) (oCons (mFld 0 "number" (mVarO 0)) (oCons (mFld 0 "number" (mVarO 0)) oNil)))))) (qRaise 1 1 (oCons (mFld 0 "number" (mVarO 0)) oNil)) qNext)
  (qSeq (qSetF 0 "rows" (mVarO 0) (mCallV fV_led (oCons (mFld 0 "rows" (mVarO 0)) (liftA (mCons (mVar 2) mNil)))))
  (qAugF 0 "number" (mVarO 0) (mC (.int 1)))))
def f_Program_take_delta : FnO := fnO 3 3 m_Program_take_delta
theorem ok_Program_take_delta (T : Tx P K mg) : FnOk P w K mg base (L2.CX P w) 3 T.a_Program_take_delta T.d_Program_take_delta ["self", "number", "delta"] (spO (PP T) K f_Program_take_delta) := okO (k := 2) T.F_Program_take_delta sc_Program_take_delta (by decide) fun cdv A outer s0 H E hr =>
  ((pdqs_cons (pdq_if (pdto_not (pdto_tru (pdo_callP (ok_is_number T) (hr.mono (by decide)) T.g_is_number T.F_is_number.kp T.b_is_number (fun _ _ => pass0) (pdao_cons (pdo_of fun pn xe => (pd_var 1)) (pdao_cons (pdo_fld (c := 0) T.c0_c T.c0_n_number (pdo_var 0)) (pdao_cons (pdo_fld (c := 0) T.c0_c T.c0_n_number (pdo_var 0)) pdao_nil)))))) (pdqs_one (pdq_raise (j := 1) (ns := xnL 1) rfl rfl rfl T.x1_i.T T.x1_i.ini T.x1_i.tyI (ok_ini1 T) (hr.mono (by decide)) T.x1_b (fun _ _ => pass0) T.x1_g (by decide) (pdao_cons (pdo_fld (c := 0) T.c0_c T.c0_n_number (pdo_var 0)) pdao_nil))) pdqs_nil) (pdqs_cons (pdq_fld (c := 0) T.c0_c T.c0_n_rows (pdo_var 0) (pdo_callV (okV_led T) (hr.mono (by decide)) T.g_led T.F_led.kp T.b_led (pdao_cons (pdo_fld (c := 0) T.c0_c T.c0_n_rows (pdo_var 0)) (pdao_of fun pn xe => (pda_cons (pd_var 2) pda_nil))))) (pdqs_one (pdq_augF (c := 0) T.c0_c T.c0_n_number (pdo_var 0) (fun pn xe => pd_int))))) : PDSso (PP T) _ _ m_Program_take_delta)
def m_law : MSo := (qSeq (liftS (sAsg (mCallK 1 f_l_names (mCons (mC (.int 8)) mNil)) (gSet 2)))
  (qSeq (liftS (sAsg (mCallK 1 f_l_list (mCons (mVar 2) mNil)) (gSet 3)))
  (qSeq (qPair 4 5 (oCons (mMakeO 0 f_Program___init__ (liftA (mCons (mVar 3) (mCons (mCallK 1 f_l_some_tongues mNil) mNil)))) (oCons (mMakeO 0 f_Program___init__ (liftA (mCons (mVar 3) (mCons (mCallK 1 f_l_some_tongues mNil) mNil)))) oNil)))
  (qSeq (qIf (oOrT (mBO (mEqO 0 tys_Program true f_Program___eq__ (mVarO 4) (mVarO 5))) (oOrT (mBO (mEqO 0 tys_Program false f_Program___eq__ (mVarO 4) (liftE (mVar 3)))) (oOrT (mBO (mEqO 0 tys_Program false f_Program___eq__ (mVarO 4) (liftE (mC (.int 5))))) (mBO (mBinO neD (mLenI 0 f_Program___len__ (mVarO 4)) (liftE (mCall lenD (mCons (mVar 3) mNil)))))))) (liftS (sRet (mC (.bool false)))) qNext)
  (qSeq (liftS (sAsg (mC (.int 0)) (gSet 6)))
  (qSeq (qFor (mRng1 (mC (.int 8))) (gSet 7) (qSeq (liftS (sAsg (mCallK 1 f_l_turned (mCons (mVar 3) (mCons (mVar 2) mNil))) (gSet 8)))
  (qSeq (liftS (sAsg (mCall f_delta (mCons (mVar 3) (mCons (mVar 8) mNil))) (gSet 9)))
  (qSeq (liftS (sIf (mB (mBin eqD (mCallK 1 f_l_next (mCons (mC (.int 4)) mNil)) (mC (.int 0)))) (sAsg (mTup (mCons (mCall tupD (mCons (mLc (mItems (mCall sortedD (mCons (mVar 2) mNil))) [10] (gSet 10) (mB (mBin eqD (mCallK 1 f_l_next (mCons (mC (.int 4)) mNil)) (mC (.int 0)))) (mVar 10)) mNil)) (mCons (mBin subD' (mVar 9) (mC (.int 1))) mNil))) (gSet 9)) sNext))
  (qSeq (liftS (sAsg (mBin subD' (mLst (mCons (mVar 6) (mCons (mBin addD (mVar 6) (mC (.int 1))) (mCons (mC (.int 0)) (mCons (mVar 6) mNil))))) (mCallK 1 f_l_next (mCons (mC (.int 4)) mNil))) (gSet 11)))
  (qSeq (liftS (sAsg (mBin eqD (mLc (mItems (mBin subD' (mVar 9) (mC (.int 0)))) [10] (gSet 10) (mB (mBin (inD true) (mVar 10) (mLc (mItems (mVar 3)) [13] (gSet 13) mYes (mBin subD' (mVar 13) (mC (.int 0)))))) (mVar 10)) (mLst mNil)) (gSet 12)))
  (qSeq (liftS (sAsg (mTup (mCons (mCall reprD (mCons (mLst (mCons (mVar 3) (mCons (mVar 9) mNil))) mNil)) (mCons (mC .none) mNil))) (gSwapM 14 15)))
  (qSeq (qTry (qExpr (mMethO 0 "take_delta" f_Program_take_delta (mVarO 4) (liftA (mCons (mVar 11) (mCons (mVar 9) mNil))))) [(em_Behind, hAsg 16 15 (fun x : Xv => ((fun x : Xv => ((fun x : Xv => if xnL x.c = [("number" : Str)] then x.fs.head? else none) x).bind fun d => ((fun x : Xv => ((fun x : Xv => (k_HouseError x.c).map .bool) x).bind fun d => ((fun _ : Xv => some []) x).map fun ds => d :: ds) x).map fun ds => d :: ds) x).bind fun ds => if ds.length ≤ 100 then some (.tuple ds) else none)), (em_NoFit, hAsg 16 15 (fun x : Xv => (k_HouseError x.c).map .bool))])
  (qSeq (liftS (sIf (mB (mBin neS (mCall reprD (mCons (mLst (mCons (mVar 3) (mCons (mVar 9) mNil))) mNil)) (mVar 14))) (sRet (mC (.bool false))) sNext))
  (qSeq (liftS (sAsg (mBin subD' (mLst (mCons (mBin subD' (mLst (mCons (mC (.bool true)) (mCons (mC .none) mNil))) (mCall intD (mCons (mVar 12) mNil))) (mCons (mTup (mCons (mVar 6) (mCons (mC (.bool true)) mNil))) mNil))) (mCall intD (mCons (mBin neD (mVar 11) (mVar 6)) mNil))) (gSet 17)))
  (qSeq (liftS (sIf (mB (mBin neS (mCall reprD (mCons (mVar 15) mNil)) (mCall reprD (mCons (mVar 17) mNil)))) (sRet (mC (.bool false))) sNext))
  (qSeq (qIf (liftT (mB (mBin isD' (mVar 17) (mC .none)))) (qSeq (qAsg 3 (mCallV fV_led (liftA (mCons (mVar 3) (mCons (mVar 9) mNil)))))
  (liftS (sAsg (mBin addD (mVar 6) (mC (.int 1))) (gSet 6)))) qNext)
  (qSeq (qIf (oOrT (mBO (mBinO neS (mCbO reprD (oCons (mMethO 0 "its_rows" f_Program_its_rows (mVarO 4) oNil) oNil)) (liftE (mCall reprD (mCons (mVar 3) mNil))))) (oOrT (mBO (mBinO neD (mMethO 0 "its_number" f_Program_its_number (mVarO 4) oNil) (liftE (mVar 6)))) (mBO (mBinO neD (mLenI 0 f_Program___len__ (mVarO 4)) (liftE (mCall lenD (mCons (mVar 3) mNil))))))) (liftS (sRet (mC (.bool false)))) qNext)
  (qIf (mBO (mBinO neD (mEqO 0 tys_Program false f_Program___eq__ (mVarO 4) (mMakeO 0 f_Program___init__ (liftA (mCons (mVar 3) (mCons (mCallK 1 f_l_some_tongues mNil) mNil))))) (liftE (mBin eqD (mVar 6) (mC (.int 0)))))) (liftS (sRet (mC (.bool false)))) qNext))))))))))))))
  (qRet (oAndV (mBinO eqD (mMethO 0 "its_number" f_Program_its_number (mVarO 5) oNil) (liftE (mC (.int 0)))) (mBinO eqD (mEqO 0 tys_Program false f_Program___eq__ (mVarO 4) (mVarO 5)) (liftE (mBin eqD (mVar 6) (mC (.int 0)))))))))))))
theorem ok_law (T : Tx P K mg) (hm : ∀ ns : List Int, ns.length ≤ 63 → ∃ ρ' δ' ω', m_law (slots N_law.length [.no, .deck]) (deckOf ns) ω0 = some (.inr (.rt (.dat (.bool true))), ρ', δ', ω')) : FnG P w K mg base 7 T.a_law T.d_law ["_law_script"] (spLaw K) :=
  okLawGO (PP := PP T) (k := 6) T.F_law sc_law (by decide) rfl
    (fun cdv A outer s0 H E hr gd => ps_set (i := 1) sc_law.nd rfl (by first | exact Or.inl rfl | exact Or.inr rfl) (pe_call (ok_l_draws T) (hr.mono (by decide)) (by rfl) T.g_l_draws T.F_l_draws.kp T.b_l_draws .nil pass0 (pa_cons (pv 0) pa_nil)))
    (fun cdv A outer s0 H E hr gd => ((pdqs_cons (pdq_of fun pn xe _ => (pds_set 2 sc_law.nd (pd_callK 1 (ok_l_names T) (hr.mono (by decide)) T.g_l_names T.F_l_names.kp T.b_l_names pass0 (pda_cons pd_int pda_nil)))) (pdqs_cons (pdq_of fun pn xe _ => (pds_set 3 sc_law.nd (pd_callK 1 (ok_l_list T) (hr.mono (by decide)) T.g_l_list T.F_l_list.kp T.b_l_list pass0 (pda_cons (pd_var 2) pda_nil)))) (pdqs_cons (pdq_pair 4 5 rfl (pdao_cons (pdo_make (c := 0) T.h_Program___init__ (ok_Program___init__ T) (hr.mono (by decide)) T.c0_g T.b_Program___init__ (pdao_of fun pn xe => (pda_cons (pd_var 3) (pda_cons (pd_callK 1 (ok_l_some_tongues T) (hr.mono (by decide)) T.g_l_some_tongues T.F_l_some_tongues.kp T.b_l_some_tongues pass0 pda_nil) pda_nil)))) (pdao_cons (pdo_make (c := 0) T.h_Program___init__ (ok_Program___init__ T) (hr.mono (by decide)) T.c0_g T.b_Program___init__ (pdao_of fun pn xe => (pda_cons (pd_var 3) (pda_cons (pd_callK 1 (ok_l_some_tongues T) (hr.mono (by decide)) T.g_l_some_tongues T.F_l_some_tongues.kp T.b_l_some_tongues pass0 pda_nil) pda_nil)))) pdao_nil)) sc_law.nd) (pdqs_cons (pdq_if (PDWo.pt (pdwo_or (pdto_neO (c := 0) T.e_Program___eq__ (nf_Program T) (ok_Program___eq__ T) (hr.mono (by decide)) T.b_Program___eq__ (pdo_var 4) (pdo_var 5) (nomark _)) (pdwo_or (pdto_eqO (c := 0) T.e_Program___eq__ (nf_Program T) (ok_Program___eq__ T) (hr.mono (by decide)) T.b_Program___eq__ (pdo_var 4) (pdo_of fun pn xe => (pd_var 3)) (nomark _)) (pdwo_or (pdto_eqO (c := 0) T.e_Program___eq__ (nf_Program T) (ok_Program___eq__ T) (hr.mono (by decide)) T.b_Program___eq__ (pdo_var 4) (pdo_of fun pn xe => pd_int) (nomark _)) (pdwo_or1 (pdto_cmp (cmp_meet fun pn xe => (cs_ne hr.units)) (pdo_lenI (c := 0) T.l_Program___len__ T.i_Program___len__ T.m_len (ok_Program___len__ T) (hr.mono (by decide)) T.b_Program___len__ (pdo_var 4)) (pdo_of fun pn xe => (pd_len T.m_len (pda_cons (pd_var 3) pda_nil))) (nomark _))))))) (pdqs_one (pdq_of fun pn xe _ => (pds_ret pd_bl))) pdqs_nil) (pdqs_cons (pdq_of fun pn xe _ => (pds_set 6 sc_law.nd pd_int)) (pdqs_cons (pdq_for rfl (fun pn xe => (pdi_range1 T.m_range pd_int)) (fun pn xe => (pdg_name 7 sc_law.nd)) (pdqs_cons (pdq_of fun pn xe _ => (pds_set 8 sc_law.nd (pd_callK 1 (ok_l_turned T) (hr.mono (by decide)) T.g_l_turned T.F_l_turned.kp T.b_l_turned pass0 (pda_cons (pd_var 3) (pda_cons (pd_var 2) pda_nil))))) (pdqs_cons (pdq_of fun pn xe _ => (pds_set 9 sc_law.nd (pd_callP (ok_delta T) (hr.mono (by decide)) T.g_delta T.F_delta.kp T.b_delta pass0 (pda_cons (pd_var 3) (pda_cons (pd_var 8) pda_nil))))) (pdqs_cons (pdq_of fun pn xe _ => (pds_if (pdt_cmp (cs_eq hr.units) (pd_callK 1 (ok_l_next T) (hr.mono (by decide)) T.g_l_next T.F_l_next.kp T.b_l_next pass0 (pda_cons pd_int pda_nil)) pd_int (nomark _)) (pdss_one (pds_set 9 sc_law.nd (pd_tup (pda_cons (pd_ctup T.m_tuple (pda_cons (pd_lc (own := [("_law_name", 10)]) rfl sc_law.nd (pdi_seq (pd_sorted T.m_sorted (pda_cons (pd_var 2) pda_nil))) (blkOk_by (own := [("_law_name", 10)]) (N := N_law) (sc := defScope s_law) (by decide +kernel)) ⟨fun _ _ _ _ _ => (pdg_name 10 sc_law.nd), fun _ _ _ _ _ => (pdts_one (pdt_cmp (cs_eq hr.units) (pd_callK 1 (ok_l_next T) (hr.mono (by decide)) T.g_l_next T.F_l_next.kp T.b_l_next pass0 (pda_cons pd_int pda_nil)) pd_int (nomark _))), fun _ _ _ _ _ => (pd_var 10), by decide⟩) pda_nil)) (pda_cons (pd_ix (hu_of hr) (pd_var 9) pd_int) pda_nil))))) pdss_nil)) (pdqs_cons (pdq_of fun pn xe _ => (pds_set 11 sc_law.nd (pd_ix (hu_of hr) (pd_lst (pda_cons (pd_var 6) (pda_cons (pd_add (pd_var 6) pd_int) (pda_cons pd_int (pda_cons (pd_var 6) pda_nil))))) (pd_callK 1 (ok_l_next T) (hr.mono (by decide)) T.g_l_next T.F_l_next.kp T.b_l_next pass0 (pda_cons pd_int pda_nil))))) (pdqs_cons (pdq_of fun pn xe _ => (pds_set 12 sc_law.nd (pd_cmp (cs_eq hr.units) (pd_lc (own := [("_law_name", 10)]) rfl sc_law.nd (pdi_seq (pd_ix (hu_of hr) (pd_var 9) pd_int)) (blkOk_by (own := [("_law_name", 10)]) (N := N_law) (sc := defScope s_law) (by decide +kernel)) ⟨fun _ _ _ _ _ => (pdg_name 10 sc_law.nd), fun _ _ _ _ _ => (pdts_one (pdt_cmp (cs_notin (u65 hr)) (pd_var 10) (pd_lc (own := [("_law_row_here", 13)]) rfl sc_law.nd (pdi_seq (pd_var 3)) (blkOk_by (own := [("_law_row_here", 13)]) (N := N_law) (sc := relS _ (defScope s_law)) (by decide +kernel)) ⟨fun _ _ _ _ _ => (pdg_name 13 sc_law.nd), fun _ _ _ _ _ => pdts_nil, fun _ _ _ _ _ => (pd_ix (hu_of hr) (pd_var 13) pd_int), by decide⟩) (by with_unfolding_all rfl))), fun _ _ _ _ _ => (pd_var 10), by decide⟩) (pd_lst pda_nil) (nomark _)))) (pdqs_cons (pdq_of fun pn xe _ => (pds_swap 14 15 rfl sc_law.nd (pd_tup (pda_cons (pd_repr T.m_repr gd (u65 hr) (pda_cons (pd_lst (pda_cons (pd_var 3) (pda_cons (pd_var 9) pda_nil))) pda_nil)) (pda_cons pd_non pda_nil))))) (pdqs_cons (pdq_try rfl rfl sc_law.nd (pdqs_one (pdq_expr (pdo_meth (c := 0) T.c0_c T.h_Program_take_delta (ok_Program_take_delta T) (hr.mono (by decide)) T.b_Program_take_delta (pdo_var 4) (pdao_of fun pn xe => (pda_cons (pd_var 11) (pda_cons (pd_var 9) pda_nil)))))) (clo_asg (j := 15) (by exact ⟨by rfl, by decide, .inl T.x1_g⟩) (sue_tup (sua_cons (sue_fld (i := 16) (fn := "number") rfl (xf_number T)) (sua_cons (sue_isi (i := 16) (g := k_HouseError) (ki_HouseError T) T.m_isinstance T.y_g) sua_nil))) sc_law.nd (exm_Behind T) (clo_asg (j := 15) (by exact ⟨by rfl, by decide, .inl T.x_g⟩) (sue_isi (i := 16) (g := k_HouseError) (ki_HouseError T) T.m_isinstance T.y_g) sc_law.nd (exm_NoFit T) .nil))) (pdqs_cons (pdq_of fun pn xe _ => (pds_if (pdt_cmp cs_neS (pd_repr T.m_repr gd (u65 hr) (pda_cons (pd_lst (pda_cons (pd_var 3) (pda_cons (pd_var 9) pda_nil))) pda_nil)) (pd_var 14) (nomark _)) (pdss_one (pds_ret pd_bl)) pdss_nil)) (pdqs_cons (pdq_of fun pn xe _ => (pds_set 17 sc_law.nd (pd_ix (hu_of hr) (pd_lst (pda_cons (pd_ix (hu_of hr) (pd_lst (pda_cons pd_bl (pda_cons pd_non pda_nil))) (pd_cint T.m_int (pda_cons (pd_var 12) pda_nil))) (pda_cons (pd_tup (pda_cons (pd_var 6) (pda_cons pd_bl pda_nil))) pda_nil))) (pd_cint T.m_int (pda_cons (pd_cmp (cs_ne hr.units) (pd_var 11) (pd_var 6) (nomark _)) pda_nil))))) (pdqs_cons (pdq_of fun pn xe _ => (pds_if (pdt_cmp cs_neS (pd_repr T.m_repr gd (u65 hr) (pda_cons (pd_var 15) pda_nil)) (pd_repr T.m_repr gd (u65 hr) (pda_cons (pd_var 17) pda_nil)) (nomark _)) (pdss_one (pds_ret pd_bl)) pdss_nil)) (pdqs_cons (pdq_if (pdto_of fun pn xe => (pdt_cmp cs_is (pd_var 17) pd_non (nomark _))) (pdqs_cons (pdq_asg 3 (pdo_callV (okV_led T) (hr.mono (by decide)) T.g_led T.F_led.kp T.b_led (pdao_of fun pn xe => (pda_cons (pd_var 3) (pda_cons (pd_var 9) pda_nil)))) sc_law.nd) (pdqs_one (pdq_of fun pn xe _ => (pds_set 6 sc_law.nd (pd_add (pd_var 6) pd_int))))) pdqs_nil) (pdqs_cons (pdq_if (PDWo.pt (pdwo_or (pdto_cmp (cmp_meet fun pn xe => cs_neS) (pdo_repr T.m_repr gd (u65 hr) (pdao_cons (pdo_meth0 (c := 0) T.c0_c T.h_Program_its_rows (ok_Program_its_rows T) (hr.mono (by decide)) T.b_Program_its_rows (pdo_var 4)) pdao_nil)) (pdo_of fun pn xe => (pd_repr T.m_repr gd (u65 hr) (pda_cons (pd_var 3) pda_nil))) (nomark _)) (pdwo_or (pdto_cmp (cmp_meet fun pn xe => (cs_ne hr.units)) (pdo_meth0 (c := 0) T.c0_c T.h_Program_its_number (ok_Program_its_number T) (hr.mono (by decide)) T.b_Program_its_number (pdo_var 4)) (pdo_of fun pn xe => (pd_var 6)) (nomark _)) (pdwo_or1 (pdto_cmp (cmp_meet fun pn xe => (cs_ne hr.units)) (pdo_lenI (c := 0) T.l_Program___len__ T.i_Program___len__ T.m_len (ok_Program___len__ T) (hr.mono (by decide)) T.b_Program___len__ (pdo_var 4)) (pdo_of fun pn xe => (pd_len T.m_len (pda_cons (pd_var 3) pda_nil))) (nomark _)))))) (pdqs_one (pdq_of fun pn xe _ => (pds_ret pd_bl))) pdqs_nil) (pdqs_one (pdq_if (pdto_cmp (cmp_meet fun pn xe => (cs_ne hr.units)) (pdo_eqO (c := 0) T.e_Program___eq__ (nf_Program T) (ok_Program___eq__ T) (hr.mono (by decide)) T.b_Program___eq__ (pdo_var 4) (pdo_make (c := 0) T.h_Program___init__ (ok_Program___init__ T) (hr.mono (by decide)) T.c0_g T.b_Program___init__ (pdao_of fun pn xe => (pda_cons (pd_var 3) (pda_cons (pd_callK 1 (ok_l_some_tongues T) (hr.mono (by decide)) T.g_l_some_tongues T.F_l_some_tongues.kp T.b_l_some_tongues pass0 pda_nil) pda_nil)))) (nomark _)) (pdo_of fun pn xe => (pd_cmp (cs_eq hr.units) (pd_var 6) pd_int (nomark _))) (nomark _)) (pdqs_one (pdq_of fun pn xe _ => (pds_ret pd_bl))) pdqs_nil))))))))))))))) (pdqs_one (pdq_ret (pdo_and (pdo_cmp (cmp_meet fun pn xe => (cs_eq hr.units)) (pdo_meth0 (c := 0) T.c0_c T.h_Program_its_number (ok_Program_its_number T) (hr.mono (by decide)) T.b_Program_its_number (pdo_var 5)) (pdo_of fun pn xe => pd_int) (nomark _)) (pdo_one (pdo_cmp (cmp_meet fun pn xe => (cs_eq hr.units)) (pdo_eqO (c := 0) T.e_Program___eq__ (nf_Program T) (ok_Program___eq__ T) (hr.mono (by decide)) T.b_Program___eq__ (pdo_var 4) (pdo_var 5) (nomark _)) (pdo_of fun pn xe => (pd_cmp (cs_eq hr.units) (pd_var 6) pd_int (nomark _))) (nomark _)))))))))))) : PDSso (PP T) _ _ m_law)) hm
end
end K69
namespace MT
variable {α : Type} [DecidableEq α]
/-- as many as both begin with -/
def pfx : List α → List α → Nat
  | x :: xs, y :: ys => if x = y then pfx xs ys + 1 else 0
  | _, _ => 0
theorem pfx_le : ∀ a b : List α, pfx a b ≤ a.length ∧ pfx a b ≤ b.length
  | [], _ => by simp [pfx]
  | _ :: _, [] => by simp [pfx]
  | x :: xs, y :: ys => by
    have := pfx_le xs ys
    unfold pfx
    split
    · simp only [List.length_cons]; omega
    · simp
theorem pfx_take : ∀ a b : List α, a.take (pfx a b) = b.take (pfx a b)
  | [], b => by simp [pfx]
  | _ :: _, [] => by simp [pfx]
  | x :: xs, y :: ys => by
    unfold pfx
    split
    · rename_i h; subst h; rw [List.take_succ_cons, List.take_succ_cons, pfx_take xs ys]
    · simp
/-- as many as both end with, of those that are left -/
def sfx (a b : List α) : Nat := min (pfx a.reverse b.reverse) (min a.length b.length - pfx a b)
/-- the change of a base: begin, end, what came -/
structure Ch (a b : List α) (i j : Nat) (c : List α) : Prop where
  i_eq : i = pfx a b
  j_eq : j = a.length - sfx a b
  c_eq : c = (b.drop i).take (b.length - sfx a b - i)
theorem sfx_le (a b : List α) : sfx a b ≤ a.length - pfx a b ∧ sfx a b ≤ b.length - pfx a b := by
  unfold sfx; omega
theorem sfx_drop (a b : List α) : a.drop (a.length - sfx a b) = b.drop (b.length - sfx a b) := by
  have h := pfx_take a.reverse b.reverse
  have hl : sfx a b ≤ pfx a.reverse b.reverse := Nat.min_le_left _ _
  have h2 : a.reverse.take (sfx a b) = b.reverse.take (sfx a b) := by
    have e := congrArg (List.take (sfx a b)) h
    rwa [List.take_take, List.take_take, Nat.min_eq_left hl] at e
  rw [List.take_reverse, List.take_reverse] at h2
  exact List.reverse_inj.mp h2
theorem Ch.le {a b : List α} {i j : Nat} {c : List α} (h : Ch a b i j c) : i ≤ j ∧ j ≤ a.length := by
  have := sfx_le a b
  have := pfx_le a b
  rw [h.i_eq, h.j_eq]
  omega
/-- the change made is the other row -/
theorem Ch.made {a b : List α} {i j : Nat} {c : List α} (h : Ch a b i j c) : a.take i ++ c ++ a.drop j = b := by
  have h1 := sfx_le a b
  have h2 := pfx_le a b
  rw [h.c_eq, h.j_eq, sfx_drop, h.i_eq, pfx_take]
  have e : (b.drop (pfx a b)).take (b.length - sfx a b - pfx a b) ++ b.drop (b.length - sfx a b) = b.drop (pfx a b) := by
    have : b.drop (b.length - sfx a b) = (b.drop (pfx a b)).drop (b.length - sfx a b - pfx a b) := by
      rw [List.drop_drop]
      congr 1
      omega
    rw [this, List.take_append_drop]
  rw [List.append_assoc, e, List.take_append_drop]
theorem Ch.len {a b : List α} {i j : Nat} {c : List α} (h : Ch a b i j c) : c.length + a.length = b.length + (j - i) := by
  have e := congrArg List.length h.made
  have := h.le
  rw [List.length_append, List.length_append, List.length_take, List.length_drop] at e
  omega
theorem mark_cancel {x : α} : ∀ {f n l m : List α}, x ∉ f → x ∉ n → f ++ x :: l = n ++ x :: m → f = n ∧ l = m
  | [], [], l, m, _, _, e => by simpa using e
  | [], y :: n, l, m, _, h2, e => by simp at e; exact absurd e.1 fun q => h2 (by rw [q]; simp)
  | y :: f, [], l, m, h1, _, e => by simp at e; exact absurd e.1 fun q => h1 (by rw [q]; simp)
  | y :: f, z :: n, l, m, h1, h2, e => by
    simp only [List.cons_append, List.cons.injEq] at e
    obtain ⟨rfl, e⟩ := e
    obtain ⟨rfl, rfl⟩ := mark_cancel (fun q => h1 (.tail _ q)) (fun q => h2 (.tail _ q)) e
    exact ⟨rfl, rfl⟩
end MT
namespace DL
open PySem PySem.Spec PyProof.Rows L2 TL PD MT
local macro_rules | `(tactic| walk_at "lx") => `(tactic| simp only [wl_gen, wl_seq, wl_app, wl_at, wl_for, ws_hid, we_lenU, we_ixU, ws_setU, ws_asgX, wx_pop, wx_bin, ws_asg, ws_ret, ws_if, ws_next, ws_uni, ws_app, ws_frz, ws_aug, ws_for, onNx_nx, onNx_rt, onNx_bk, onNx_ct, onRt_rt, onRt_nx, we_var, we_c, we_bin, we_un, we_call, we_callK, wa_nil, wa_cons, we_tup, we_lst, wo_no, wo_some, we_sl, wt_b, wt_tru, wt_and, wt_or, wt_not, we_if, we_and, we_or, we_chain, we_get2, wp_nil, wp_cons, we_disp, wa_items, we_lc, wg_set, wg_tup, wg_lst, w_eqS, w_neS, wgs_nil, wgs_cons, List.getElem?_cons_zero, List.getElem?_cons_succ, Option.some.injEq, Sl.val.injEq, Sl.uni.injEq, exists_eq_left', exists_eq_left, List.set_cons_zero, List.set_cons_succ, true_and, and_true, List.length_cons, List.length_nil, List.map_cons, List.map_nil, PyData.int.injEq, PyData.bool.injEq, PyData.tuple.injEq, PyData.list.injEq, PyData.str.injEq, w_add, w_sub, w_lt, w_le, w_gt, w_ge, w_eqI, w_neI, w_intB, itemsD, truD, slots, wipeR, List.cons_append, List.nil_append, Nat.reduceAdd, Nat.reduceSub, List.replicate_succ, List.replicate_zero, ↓reduceIte, Bool.false_eq_true, Bool.not_true, Bool.not_false, decide_true, decide_false, if_true, if_false])
structure Rw where
  nm : Str
  t : Fin 3
  n : Fin 4
  p : Fin 4
  deriving DecidableEq
def tgS (t : Fin 3) : Str := match t with | 0 => "en" | 1 => "de" | 2 => "fr"
def nbD (n : Fin 4) : D := match n with | 0 => .none | 1 => .int 0 | 2 => .int 1 | 3 => .int 12
def pcD (p : Fin 4) : D := match p with
  | 0 => .tuple []
  | 1 => .tuple [.str "go"]
  | 2 => .tuple [.str "go", .tuple [.str "say", .str "n"]]
  | 3 => .tuple [.tuple [.str "by", .str "n", .tuple [.tuple [.str "one", .tuple [.str "x"]], .tuple [.str "many", .tuple []]]]]
def er (r : Rw) : D := .tuple [.str r.nm, .str (tgS r.t), nbD r.n, pcD r.p]
def TR (rs : List Rw) : D := .tuple (rs.map er)
def az : Str := "abcdefghijklmnopqrstuvwxyz"
structure NmOk (n : Str) : Prop where
  ln : n.length ≤ 8
  asc : ∀ c ∈ tl n, 97 ≤ c ∧ c ≤ 122
theorem strOk_lt {x : Str} (h : ∀ c ∈ tl x, c < 128) : PyData.strOk x = true := by
  unfold PyData.strOk
  rw [Array.all_eq_true_iff_forall_mem]
  intro c hc
  have := h c (by unfold tl; exact Array.mem_toList_iff.mpr hc)
  exact decide_eq_true (by omega)
theorem NmOk.ok {n : Str} (h : NmOk n) : PyData.strOk n = true := strOk_lt fun c hc => by have := h.asc c hc; omega
def rest (t : Fin 3) (n p : Fin 4) : List Nat := [44, 32] ++ tl (PyData.shown (.str (tgS t))) ++ [44, 32] ++ tl (nbD n).shown ++ [44, 32] ++ tl (pcD p).shown ++ [41]
structure Sw (m k : Nat) (d : D) : Prop where
  a : ascD d = true
  b : shB d ≤ k
  s : d.showable = true
  n : d.hasDict = false
  p : d.depth ≤ m
theorem Sw.all {m k : Nat} : ∀ {ds : List D}, (∀ d ∈ ds, Sw m k d) → ascDs ds = true ∧ shBs ds ≤ (k + 2) * ds.length ∧ PyData.showableAll ds = true ∧ PyData.hasDictAll ds = false ∧ PyData.depthAll ds ≤ m
  | [], _ => by simp [ascDs, shBs, PyData.showableAll, PyData.hasDictAll, PyData.depthAll]
  | d :: ds, h => by
    have h1 := h d (.head _)
    obtain ⟨a, b, c, e, f⟩ := Sw.all fun x hx => h x (.tail _ hx)
    refine ⟨by simp only [ascDs, h1.a, a, Bool.and_self], ?_, by simp only [PyData.showableAll, h1.s, c, Bool.and_self], by simp only [PyData.hasDictAll, h1.n, e, Bool.or_self], ?_⟩
    · have := h1.b
      rw [shBs, List.length_cons, Nat.mul_succ]
      omega
    · have := h1.p
      simp only [PyData.depthAll]
      omega
theorem Sw.tup {m k : Nat} {ds : List D} (h : ∀ d ∈ ds, Sw m k d) : Sw (m + 1) ((k + 2) * ds.length + 3) (.tuple ds) := by
  obtain ⟨a, b, c, e, f⟩ := Sw.all h
  refine ⟨by simpa [ascD] using a, by simp only [shB]; omega, by simpa [PyData.showable] using c, by simpa [PyData.hasDict] using e, by simp only [PyData.depth]; omega⟩
theorem Sw.lst {m k : Nat} {ds : List D} (h : ∀ d ∈ ds, Sw m k d) : Sw (m + 1) ((k + 2) * ds.length + 3) (.list ds) := by
  obtain ⟨a, b, c, e, f⟩ := Sw.all h
  refine ⟨by simpa [ascD] using a, by simp only [shB]; omega, by simpa [PyData.showable] using c, by simpa [PyData.hasDict] using e, by simp only [PyData.depth]; omega⟩
theorem Sw.mono {m k m' k' : Nat} {d : D} (h : Sw m k d) (hm : m ≤ m') (hk : k ≤ k') : Sw m' k' d := ⟨h.a, Nat.le_trans h.b hk, h.s, h.n, Nat.le_trans h.p hm⟩
theorem Sw.ok {m k : Nat} {d : D} (h : Sw m k d) (hm : m ≤ 60) (hk : k ≤ 1000000) : ShowOk d := ⟨h.s, h.n, Nat.le_trans h.p hm, by have := shown_le d h.a; have := h.b; have := sizeBig; omega⟩
theorem sw_nm {x : Str} (h : NmOk x) : Sw 0 82 (.str x) := by
  refine ⟨?_, ?_, by simp [PyData.showable], by simp [PyData.hasDict], by simp [PyData.depth]⟩
  · simp only [ascD]
    refine List.all_eq_true.mpr fun c hc => decide_eq_true ?_
    have := h.asc c hc
    exact Nat.lt_of_le_of_lt this.2 (by decide)
  · have := h.ln
    simp only [shB]
    omega
theorem sw_tg : ∀ t : Fin 3, Sw 0 82 (.str (tgS t)) := fun t => by
  refine ⟨?_, ?_, by simp [PyData.showable], by simp [PyData.hasDict], by simp [PyData.depth]⟩
  · revert t; decide +kernel
  · revert t; decide +kernel
theorem sw_nb : ∀ n : Fin 4, Sw 0 82 (nbD n) := fun n => by
  refine ⟨?_, ?_, ?_, ?_, ?_⟩ <;> (revert n; decide +kernel)
theorem sw_pc : ∀ p : Fin 4, Sw 8 1000 (pcD p) := fun p => by
  refine ⟨?_, ?_, ?_, ?_, ?_⟩ <;> (revert p; decide +kernel)
theorem sw_er {r : Rw} (h : NmOk r.nm) : Sw 9 4100 (er r) := by
  refine Sw.mono (Sw.tup (m := 8) (k := 1000) fun d hd => ?_) (by decide) (by simp)
  simp only [List.mem_cons, List.not_mem_nil, or_false] at hd
  rcases hd with rfl | rfl | rfl | rfl
  · exact (sw_nm h).mono (by decide) (by decide)
  · exact (sw_tg _).mono (by decide) (by decide)
  · exact (sw_nb _).mono (by decide) (by decide)
  · exact sw_pc _
structure RsOk (rs : List Rw) : Prop where
  nm : ∀ r ∈ rs, NmOk r.nm
  nd : (rs.map (·.nm)).Nodup
  ln : rs.length ≤ 8
theorem sw_TR {rs : List Rw} (h : ∀ r ∈ rs, NmOk r.nm) (hl : rs.length ≤ 8) : Sw 10 33000 (TR rs) := by
  refine Sw.mono (Sw.tup (m := 9) (k := 4100) (ds := rs.map er) fun d hd => ?_) (by decide) ?_
  · obtain ⟨r, hr, rfl⟩ := List.mem_map.mp hd
    exact sw_er (h r hr)
  · rw [List.length_map]
    have : (4100 + 2) * rs.length ≤ 4102 * 8 := Nat.mul_le_mul (Nat.le_refl _) hl
    omega
theorem repr_of {m k : Nat} {d : D} (h : Sw m k d) (hm : m ≤ 60 := by decide) (hk : k ≤ 1000000 := by decide) : reprD [d] = some (.str d.shown) := if_pos (h.ok hm hk)
theorem sh_er {r : Rw} (h : NmOk r.nm) : Sh 9 (er r) := by
  have hp : ∀ p : Fin 4, Sh 8 (pcD p) := fun p => ⟨by revert p; decide +kernel, by revert p; decide +kernel⟩
  have hn : ∀ n : Fin 4, Sh 8 (nbD n) := fun n => ⟨by revert n; decide +kernel, by revert n; decide +kernel⟩
  have ht : ∀ t : Fin 3, Sh 8 (.str (tgS t)) := fun t => ⟨by revert t; decide +kernel, by revert t; decide +kernel⟩
  refine Sh.tup (k := 8) fun d hd => ?_
  simp only [List.mem_cons, List.not_mem_nil, or_false] at hd
  rcases hd with rfl | rfl | rfl | rfl
  · exact (Sh.str h.ok).mono (by decide)
  · exact ht _
  · exact hn _
  · exact hp _
theorem eqv_er (a b : Rw) : PyData.eqv (er a) (er b) = decide (a = b) := by
  obtain ⟨n, t, m, p⟩ := a
  obtain ⟨n', t', m', p'⟩ := b
  have h1 : ∀ t t' : Fin 3, PyData.eqv (.str (tgS t)) (.str (tgS t')) = decide (t = t') := by decide +kernel
  have h2 : ∀ m m' : Fin 4, PyData.eqv (nbD m) (nbD m') = decide (m = m') := by decide +kernel
  have h3 : ∀ p p' : Fin 4, PyData.eqv (pcD p) (pcD p') = decide (p = p') := by decide +kernel
  unfold er
  simp only [PyData.eqv, PyData.eqvAll, h2, h3]
  have h1' := h1 t t'
  simp only [PyData.eqv] at h1'
  rw [h1', Bool.eq_iff_iff]
  simp [Rw.mk.injEq]
theorem ne_er {a b : Rw} (ha : NmOk a.nm) (hb : NmOk b.nm) : neD (er a) (er b) = some (.bool (!decide (a = b))) := by
  rw [neD_of (sh_er ha) (sh_er hb) (by decide) (by decide), eqv_er]
end DL
namespace DL
open PySem PySem.Spec PyProof.Rows L2 PD
def prA : List Int := [2147483647, 2147483587, 2147483563]
def mxA (c k : Int) : Int := (c % 2147483629 + 69621 * k + 54321) ^ (3 : Int).toNat % prA.getD (k % 3).toNat 0
def mixA (c k : Int) : Int := ((mxA c k + 7129 * k + 41) ^ (2 : Int).toNat % 2147483477 * 2147483423 + mxA c k) % 4611686018427387847
def f_l_next : List D → Dk → Option (D × Dk) := fNext mixA
def m_rows_by_name : MS := (sRet (mDcN (kFor (mItems (mVar 0)) [1] (gSet 1) mYes (kOne (mBin subD' (mVar 1) (mC (.int 0))) (mVar 1)))))
def f_rows_by_name : List D → Option D := fnP 2 1 m_rows_by_name
def m_delta : MS := (sSeq (sAsg (mTup (mCons (mCall f_rows_by_name (mCons (mVar 0) mNil)) (mCons (mCall f_rows_by_name (mCons (mVar 1) mNil)) mNil))) (gTupM 2 (gsCons (gSet 2) (gsCons (gSet 3) gsNil))))
  (sSeq (sAsg (mLcKeys 2 [5] (gSet 5) (mB (mBin (inDict true) (mVar 5) (mVar 3))) (mVar 5)) (gSet 4))
  (sSeq (sAsg (mLc (mItems (mVar 1)) [7] (gSet 7) (tOrM (mB (mBin (inDict true) (mBin subD' (mVar 7) (mC (.int 0))) (mVar 2))) (mB (mBin neD (mBin subD' (mVar 2) (mBin subD' (mVar 7) (mC (.int 0)))) (mVar 7)))) (mVar 7)) (gSet 6))
  (sRet (mTup (mCons (mCall tupD (mCons (mVar 4) mNil)) (mCons (mCall tupD (mCons (mVar 6) mNil)) mNil)))))))
def f_delta : List D → Option D := fnP 8 2 m_delta
def m_l_names : MS := (sSeq (sUniS 2 (mC (.str "abcdefghijklmnopqrstuvwxyz")))
  (sSeq (sAsg (mBin joinD (mC (.str "")) (mLc (mRng1 (mCallK 0 f_l_next (mCons (mC (.int 8)) mNil))) [4] (gSet 4) mYes (mIxU 2 (mCallK 0 f_l_next (mCons (mC (.int 26)) mNil))))) (gSet 3))
  (sSeq (sAsg (mCallK 0 f_l_next (mCons (mBin addD (mCall lenD (mCons (mVar 3) mNil)) (mC (.int 1))) mNil)) (gSet 5))
  (sRetX (xLc (mRng1 (mVar 1)) [4] (gSet 4) (xBinL addD (xBin addD (mSl (mVar 3) oNo (oSome (mVar 5))) (xPop 2 (mCallK 0 f_l_next (mCons (mLenU 2) mNil)))) (mSl (mVar 3) (oSome (mVar 5)) oNo)))))))
def f_l_names : List D → Dk → Option (D × Dk) := fnK 6 2 m_l_names
def m_l_row : MS := (sSeq (sAsg (mBin subD' (mLst (mCons (mTup mNil) (mCons (mTup (mCons (mC (.str "go")) mNil)) (mCons (mTup (mCons (mC (.str "go")) (mCons (mTup (mCons (mC (.str "say")) (mCons (mC (.str "n")) mNil))) mNil))) (mCons (mTup (mCons (mTup (mCons (mC (.str "by")) (mCons (mC (.str "n")) (mCons (mTup (mCons (mTup (mCons (mC (.str "one")) (mCons (mTup (mCons (mC (.str "x")) mNil)) mNil))) (mCons (mTup (mCons (mC (.str "many")) (mCons (mTup mNil) mNil))) mNil))) mNil)))) mNil)) mNil))))) (mCallK 0 f_l_next (mCons (mC (.int 4)) mNil))) (gSet 2))
  (sRet (mTup (mCons (mVar 1) (mCons (mBin subD' (mLst (mCons (mC (.str "en")) (mCons (mC (.str "de")) (mCons (mC (.str "fr")) mNil)))) (mCallK 0 f_l_next (mCons (mC (.int 3)) mNil))) (mCons (mBin subD' (mLst (mCons (mC .none) (mCons (mC (.int 0)) (mCons (mC (.int 1)) (mCons (mC (.int 12)) mNil))))) (mCallK 0 f_l_next (mCons (mC (.int 4)) mNil))) (mCons (mVar 2) mNil)))))))
def f_l_row : List D → Dk → Option (D × Dk) := fnK 3 2 m_l_row
def m_l_list : MS := (sRet (mCall tupD (mCons (mLc (mItems (mCall sortedD (mCons (mVar 1) mNil))) [2] (gSet 2) (mB (mBin gtD (mCallK 0 f_l_next (mCons (mC (.int 3)) mNil)) (mC (.int 0)))) (mCallK 0 f_l_row (mCons (mVar 2) mNil))) mNil)))
def f_l_list : List D → Dk → Option (D × Dk) := fnK 3 2 m_l_list
def m_l_turned : MS := (sSeq (sAsg (mLst mNil) (gSet 3))
  (sSeq (sFor (mItems (mCall sortedD (mCons (mVar 2) mNil))) (gSet 4) (sSeq (sAsg (mLc (mItems (mVar 1)) [6] (gSet 6) (mB (mBin eqD (mBin subD' (mVar 6) (mC (.int 0))) (mVar 4))) (mVar 6)) (gSet 5))
  (sSeq (sAsg (mCallK 0 f_l_next (mCons (mC (.int 4)) mNil)) (gSet 7))
  (sSeq (sIf (mB (mBin eqD (mVar 7) (mC (.int 0)))) (sAsg (mLst (mCons (mCallK 0 f_l_row (mCons (mVar 4) mNil)) mNil)) (gSet 5)) sNext)
  (sIf (tOrM (mB (mBin gtD (mVar 7) (mC (.int 1)))) (tOrM (tAndM (mB (mBin neD (mVar 5) (mLst mNil))) (tAndM (mB (mBin eqD (mVar 7) (mC (.int 1)))) (mB (mBin eqD (mCallK 0 f_l_next (mCons (mC (.int 2)) mNil)) (mC (.int 0)))))) (mB (mBin eqD (mVar 7) (mC (.int 0)))))) (sAsg (mBin addD (mVar 3) (mVar 5)) (gSet 3)) sNext)))))
  (sRet (mCall tupD (mCons (mVar 3) mNil)))))
def f_l_turned : List D → Dk → Option (D × Dk) := fnK 8 3 m_l_turned
end DL
namespace DL
open PySem PySem.Spec PyProof.Rows L2 TL PD MT
local macro_rules | `(tactic| walk_at "lx") => `(tactic| simp only [wl_gen, wl_seq, wl_app, wl_at, wl_for, ws_hid, we_lenU, we_ixU, ws_setU, ws_asgX, ws_retX, ws_uniS, wx_binL, we_lcKeys, wx_pop, wx_bin, ws_asg, ws_ret, ws_if, ws_next, ws_uni, ws_app, ws_frz, ws_aug, ws_for, onNx_nx, onNx_rt, onNx_bk, onNx_ct, onRt_rt, onRt_nx, we_var, we_c, we_bin, we_un, we_call, we_callK, wa_nil, wa_cons, we_tup, we_lst, wo_no, wo_some, we_sl, wt_b, wt_tru, wt_and, wt_or, wt_not, we_if, we_and, we_or, we_chain, we_get2, wp_nil, wp_cons, we_disp, wa_items, we_lc, wg_set, wg_tup, wg_lst, w_eqS, w_neS, wgs_nil, wgs_cons, List.getElem?_cons_zero, List.getElem?_cons_succ, Option.some.injEq, Sl.val.injEq, Sl.uni.injEq, exists_eq_left', exists_eq_left, List.set_cons_zero, List.set_cons_succ, true_and, and_true, List.length_cons, List.length_nil, List.map_cons, List.map_nil, PyData.int.injEq, PyData.bool.injEq, PyData.tuple.injEq, PyData.list.injEq, PyData.str.injEq, w_add, w_sub, w_lt, w_le, w_gt, w_ge, w_eqI, w_neI, w_intB, itemsD, truD, slots, wipeR, List.cons_append, List.nil_append, Nat.reduceAdd, Nat.reduceSub, List.replicate_succ, List.replicate_zero, ↓reduceIte, Bool.false_eq_true, Bool.not_true, Bool.not_false, decide_true, decide_false, if_true, if_false])
theorem nx : f_l_next = fNext mixA := rfl
theorem az_len : az.length = 26 := by decide +kernel
theorem az_in : ∀ c ∈ tl az, 97 ≤ c ∧ c ≤ 122 := by decide +kernel
theorem az_nd : (tl az).Nodup := by decide +kernel
theorem signs_ch (x : Str) : PD.signs x = (tl x).map ch := rfl
theorem joinL_nil : ∀ l : List (List Nat), joinL [] l = l.flatten
  | [] => rfl
  | [a] => by simp [joinL]
  | a :: b :: r => by
    rw [joinL, joinL_nil (b :: r)]; simp
theorem chs_of {L : Str} : ∀ {out : List D}, (∀ y ∈ out, ∃ c, y = .str (ch c) ∧ c ∈ tl L) → ∃ cs : List Nat, out = (cs.map ch).map .str ∧ ∀ c ∈ cs, c ∈ tl L
  | [], _ => ⟨[], rfl, fun c hc => by simp at hc⟩
  | y :: out, h => by
    obtain ⟨c, rfl, hc⟩ := h y (.head _)
    obtain ⟨cs, rfl, hcs⟩ := chs_of fun z hz => h z (.tail _ hz)
    exact ⟨c :: cs, rfl, fun d hd => (List.mem_cons.mp hd).elim (fun e => e ▸ hc) (hcs d)⟩
theorem flat_ch : ∀ cs : List Nat, ((cs.map ch).map tl).flatten = cs
  | [] => rfl
  | c :: cs => by
    rw [List.map_cons, List.map_cons, List.flatten_cons, flat_ch cs, tl_ch]
    rfl
theorem sum_ch : ∀ cs : List Nat, ((cs.map ch).map (·.length)).sum = cs.length
  | [] => rfl
  | c :: cs => by
    rw [List.map_cons, List.map_cons, List.sum_cons, sum_ch cs, List.length_cons, len_tl, tl_ch]
    simp
    omega
theorem word_join {L : Str} {out : List D} (h : ∀ y ∈ out, ∃ c, y = .str (ch c) ∧ c ∈ tl L) (hl : out.length ≤ 100) : ∃ x : Str, joinD (.str "") (.list out) = some (.str x) ∧ x.length = out.length ∧ ∀ c ∈ tl x, c ∈ tl L := by
  obtain ⟨cs, rfl, hcs⟩ := chs_of h
  rw [List.length_map, List.length_map] at hl
  have et : tl (Txt.join (Str.ofString "") (cs.map ch)) = cs := by rw [join_eq, tl_join, tl_nil, joinL_nil, flat_ch]
  refine ⟨Txt.join "" (cs.map ch), ?_, by rw [len_tl, et]; simp, fun c hc => ?_⟩
  · show ((strsD ((cs.map ch).map .str)).bind fun zs => if joinSz "" zs then some (PyData.str (Txt.join "" zs)) else none) = _
    rw [strsD_map]
    refine if_pos (decide_eq_true ?_)
    rw [sum_ch, show (Str.ofString "").length = 0 by decide +kernel]
    omega
  · have hc : c ∈ tl (Txt.join (Str.ofString "") (cs.map ch)) := hc
    rw [et] at hc
    exact hcs c hc
/-- a name: a stem with a letter in it -/
def nmOf (a b : Str) (c : Nat) : Str := a ++ ch c ++ b
theorem nmOf_inj {a b : Str} {c d : Nat} (h : nmOf a b c = nmOf a b d) : c = d := by
  have e := congrArg tl h
  unfold nmOf at e
  rw [tl_append, tl_append, tl_append, tl_append, tl_ch, tl_ch, List.append_assoc, List.append_assoc] at e
  have := List.append_cancel_left e
  simpa using this
structure NsOk (ns : List Str) : Prop where
  nm : ∀ n ∈ ns, NmOk n
  nd : ns.Nodup
theorem erase_perm {α : Type} : ∀ {l : List α} {n : Nat} {x : α}, l[n]? = some x → (x :: l.eraseIdx n).Perm l
  | a :: l, 0, x, h => by simp at h; subst h; exact List.Perm.refl _
  | a :: l, n + 1, x, h => by
    have ih := erase_perm (l := l) (n := n) (x := x) (by simpa using h)
    show (x :: a :: l.eraseIdx n).Perm (a :: l)
    exact (List.Perm.swap a x _).trans (ih.cons a)
  | [], n, x, h => by simp at h
theorem map_erase {α β : Type} (f : α → β) : ∀ (l : List α) (n : Nat), (l.map f).eraseIdx n = (l.eraseIdx n).map f
  | [], n => by simp
  | a :: l, 0 => rfl
  | a :: l, n + 1 => by
    show f a :: (l.map f).eraseIdx n = f a :: (l.eraseIdx n).map f
    rw [map_erase f l n]
def eC (c : Nat) : D := .str (ch c)
theorem names_wp {b k : Nat} {δ : Dk} {P : D → Dk → Prop} (hD : DkOk b δ) (hb : b ≤ 1000000) (hk : k ≤ 20) (p : ∀ (ns : List Str) δ', ns.length = k → NsOk ns → DkOk (b + 40) δ' → P (.list (ns.map .str)) δ') : WK f_l_names [.int k] δ P := by
  have sb := sizeBig
  have al := az_len
  refine wk_fnK ?_
  unfold m_l_names
  rw [nx, ws_seq]
  walk_at "lx"
  refine ⟨⟨by decide, by decide⟩, ?_⟩
  have es : (PD.signs (Str.ofString "abcdefghijklmnopqrstuvwxyz")).map PyData.str = (tl az).map eC := by rw [signs_ch, List.map_map]; rfl
  rw [es, ws_seq]
  walk_at "lx"
  refine wa_rng ?_
  walk_at "lx"
  refine next_wp hD (by omega) (by decide) (by decide) fun r δ1 r0 r1 h1 => ?_
  refine ⟨r.toNat, by rw [Int.toNat_of_nonneg r0], by omega, rfl, ?_⟩
  have hrl : (rngL r.toNat).length = r.toNat := by simp [rngL]
  have lz : (tl az).length = 26 := by rw [← len_tl]; exact al
  refine wc_draw (fun j δ => DkOk (b + 1 + j) δ) (fun y => ∃ c, y = .str (ch c) ∧ c ∈ tl az) _ h1 (fun d hd j δ hj hI => ?_) (fun out δ2 ho hR hI => ?_)
  · rw [hrl] at hj
    walk_at "lx"
    refine next_wp hI (by omega) (by decide) (by decide) fun q δ3 q0 q1 h3 => ?_
    obtain ⟨x, e1, e2, hx⟩ := atI_in (xs := (tl az).map eC) q0 (by rw [List.length_map, lz]; exact q1)
    refine ⟨q, x, rfl, e1, ?_, h3⟩
    obtain ⟨c, hc, rfl⟩ := List.mem_map.mp hx
    exact ⟨c, rfl, hc⟩
  · rw [hrl] at ho hI
    obtain ⟨x, ex, xl, xc⟩ := word_join hR (by omega)
    refine ⟨by omega, .of ex ?_⟩
    rw [ws_seq]
    walk_at "lx"
    rw [w_lenS (by omega)]
    walk_at "lx"
    refine next_wp hI (by omega) (by omega) (by omega) fun a δ3 a0 a1 h3 => ?_
    refine wx_lc (wa_rng ?_)
    walk_at "lx"
    refine ⟨k, rfl, by omega, rfl, ?_⟩
    have hkl : (rngL k).length = k := by simp [rngL]
    have s1 : slD none (some a) (.str x) = some (.str (cutS x none (some a))) := by
      show (if x.length ≤ sizeLine then some (PyData.str (cutS x none (some a))) else none) = _
      rw [if_pos (by omega)]
    have s2 : slD (some a) none (.str x) = some (.str (cutS x (some a) none)) := by
      show (if x.length ≤ sizeLine then some (PyData.str (cutS x (some a) none)) else none) = _
      rw [if_pos (by omega)]
    have l12 : (cutS x none (some a)).length + (cutS x (some a) none).length = x.length := by
      obtain ⟨j, rfl⟩ := Int.eq_ofNat_of_zero_le a0
      rw [len_tl, len_tl]
      show ((x.cps.toList.drop _).take _).length + ((x.cps.toList.drop _).take _).length = _
      have e1 : HT.sIx x.length 0 none = 0 := rfl
      have e2 : HT.sIx x.length x.length (some (j : Int)) = min j x.length := HT.sIx_nat _ _ _
      have e3 : HT.sIx x.length 0 (some (j : Int)) = min j x.length := HT.sIx_nat _ _ _
      have e4 : HT.sIx x.length x.length none = x.length := rfl
      rw [e1, e2, e3, e4, List.length_take, List.length_take, List.length_drop, List.length_drop]
      have : x.cps.toList.length = x.length := (len_tl x).symm
      rw [this]
      omega
    have inx : ∀ {lo hi : Option Int} {q : Nat}, q ∈ tl (cutS x lo hi) → q ∈ tl az := fun hz => xc _ (List.mem_of_mem_drop (List.mem_of_mem_take hz))
    generalize hA : cutS x none (some a) = A at s1 l12
    generalize hB : cutS x (some a) none = B at s2 l12
    have inA : ∀ q ∈ tl A, q ∈ tl az := fun q hq => by rw [← hA] at hq; exact inx hq
    have inB : ∀ q ∈ tl B, q ∈ tl az := fun q hq => by rw [← hB] at hq; exact inx hq
    have step := compX_inv (g := gSet 4) (vs := [4]) (mx := xBinL addD (xBin addD (mSl (mVar 3) oNo (oSome (mVar 5))) (xPop 2 (mCallK 0 (fNext mixA) (mCons (mLenU 2) mNil)))) (mSl (mVar 3) (oSome (mVar 5)) oNo))
      (fun left out ρ δ => ∃ (used lf : List Nat), used.length + left.length = k ∧ (used ++ lf).Perm (tl az) ∧ out = (used.map (nmOf A B)).map .str ∧ ρ = [.deck, .val (.int k), .uni (lf.map eC), .val (.str x), .no, .val (.int a)] ∧ DkOk (b + 10 + used.length) δ)
      (fun d left out ρ δ hI => by
        obtain ⟨used, lf, hl, hp, rfl, rfl, hD4⟩ := hI
        rw [List.length_cons] at hl
        have hlen : used.length + lf.length = 26 := by rw [← List.length_append, hp.length_eq, lz]
        rw [wg_set]
        simp only [List.set_cons_zero, List.set_cons_succ]
        walk_at "lx"
        refine .of s1 ?_
        rw [List.length_map]
        refine next_wp hD4 (by omega) (by omega) (by omega) fun q δ5 q0 q1 h5 => ?_
        have hq : q.toNat < lf.length := by omega
        refine ⟨q, q.toNat, eC lf[q.toNat], rfl, by omega, ixN_in q0 q1, by rw [List.getElem?_map, List.getElem?_eq_getElem hq]; rfl, ?_⟩
        have el : (lf.map eC).eraseIdx q.toNat = (lf.eraseIdx q.toNat).map eC := map_erase ..
        simp only [el]
        have lc : (ch lf[q.toNat]).length = 1 := by rw [len_tl, tl_ch]; rfl
        refine .of (addD_str (by rw [lc]; omega)) ?_
        refine .of s2 ?_
        have l3 : (A ++ ch lf[q.toNat]).length = A.length + 1 := by rw [len_tl, tl_append, List.length_append, ← len_tl, ← len_tl, lc]
        refine .of (addD_str (by rw [l3]; omega)) ?_
        refine ⟨rfl, used ++ [lf[q.toNat]], lf.eraseIdx q.toNat, by simp; omega, ?_, ?_, rfl, h5.mono (by simp; omega)⟩
        · refine List.Perm.trans ?_ hp
          rw [List.append_assoc]
          exact List.Perm.append_left used (erase_perm (List.getElem?_eq_getElem hq))
        · rw [List.map_append, List.map_append]
          rfl)
      (rngL k) [] [.deck, .val (.int k), .uni ((tl az).map eC), .val (.str x), .no, .val (.int a)] δ3 ⟨[], tl az, by rw [hkl]; simp, List.Perm.refl _, rfl, rfl, h3.mono (by simp; omega)⟩
    obtain ⟨out2, ρe, δe, ec, used, lf, hl2, hp2, ho2, rfl, hDe⟩ := step
    rw [List.nil_append] at ho2
    subst ho2
    have hul : used.length = k := by simpa using hl2
    refine ⟨_, _, _, ec, ⟨by rw [List.length_map, List.length_map]; omega, rfl⟩, ?_⟩
    have und : used.Nodup := (List.nodup_append.mp (hp2.symm.nodup az_nd)).1
    have uin : ∀ c ∈ used, c ∈ tl az := fun c hc => hp2.mem_iff.mp (List.mem_append_left _ hc)
    refine p (used.map (nmOf A B)) δe (by rw [List.length_map]; exact hul) ⟨fun n hn => ?_, ?_⟩ (hDe.mono (by omega))
    · obtain ⟨c, hc, rfl⟩ := List.mem_map.mp hn
      refine ⟨?_, fun q hq => ?_⟩
      · unfold nmOf
        rw [len_tl, tl_append, tl_append, List.length_append, List.length_append, ← len_tl, ← len_tl, ← len_tl]
        have : (ch c).length = 1 := by rw [len_tl, tl_ch]; rfl
        omega
      · unfold nmOf at hq
        rw [tl_append, tl_append, tl_ch] at hq
        simp only [List.mem_append, List.mem_singleton] at hq
        rcases hq with (hq | hq) | hq
        · exact az_in _ (inA _ hq)
        · rw [hq]; exact az_in _ (uin _ hc)
        · exact az_in _ (inB _ hq)
    · exact List.Pairwise.map _ (fun c d hcd z => hcd (nmOf_inj z)) und
end DL
namespace DL
open PySem PySem.Spec PyProof.Rows L2 TL PD MT
local macro_rules | `(tactic| walk_at "lx") => `(tactic| simp only [wl_gen, wl_seq, wl_app, wl_at, wl_for, ws_hid, we_lenU, we_ixU, ws_setU, ws_asgX, ws_retX, ws_uniS, wx_binL, we_lcKeys, wx_pop, wx_bin, ws_asg, ws_ret, ws_if, ws_next, ws_uni, ws_app, ws_frz, ws_aug, ws_for, onNx_nx, onNx_rt, onNx_bk, onNx_ct, onRt_rt, onRt_nx, we_var, we_c, we_bin, we_un, we_call, we_callK, wa_nil, wa_cons, we_tup, we_lst, wo_no, wo_some, we_sl, wt_b, wt_tru, wt_and, wt_or, wt_not, we_if, we_and, we_or, we_chain, we_get2, wp_nil, wp_cons, we_disp, wa_items, we_lc, wg_set, wg_tup, wg_lst, w_eqS, w_neS, wgs_nil, wgs_cons, List.getElem?_cons_zero, List.getElem?_cons_succ, Option.some.injEq, Sl.val.injEq, Sl.uni.injEq, exists_eq_left', exists_eq_left, List.set_cons_zero, List.set_cons_succ, true_and, and_true, List.length_cons, List.length_nil, List.map_cons, List.map_nil, PyData.int.injEq, PyData.bool.injEq, PyData.tuple.injEq, PyData.list.injEq, PyData.str.injEq, w_add, w_sub, w_lt, w_le, w_gt, w_ge, w_eqI, w_neI, w_intB, itemsD, truD, slots, wipeR, List.cons_append, List.nil_append, Nat.reduceAdd, Nat.reduceSub, List.replicate_succ, List.replicate_zero, ↓reduceIte, Bool.false_eq_true, Bool.not_true, Bool.not_false, decide_true, decide_false, if_true, if_false])
theorem ix0T (a : D) (l : List D) : subD' (.tuple (a :: l)) (.int 0) = some a := by
  refine ix_tupl _ 0 ?_
  have : ixN (a :: l).length 0 = some 0 := by
    unfold ixN
    rw [if_pos (Int.le_refl 0), if_pos (by rw [List.length_cons]; omega)]
    rfl
  unfold atI
  rw [this]
  rfl
theorem er0 (r : Rw) : subD' (er r) (.int 0) = some (.str r.nm) := ix0T _ _
theorem row_wp {b : Nat} {δ : Dk} {nm : Str} {P : D → Dk → Prop} (hD : DkOk b δ) (hb : b ≤ 1000000) (p : ∀ (t : Fin 3) (n q : Fin 4) δ', DkOk (b + 3) δ' → P (er ⟨nm, t, n, q⟩) δ') : WK f_l_row [.str nm] δ P := by
  have sb := sizeBig
  have z0 : (0 : Nat) ≤ sizeLine := Nat.zero_le _
  have z1 : (1 : Nat) ≤ sizeLine := by omega
  have z2 : (2 : Nat) ≤ sizeLine := by omega
  have z3 : (3 : Nat) ≤ sizeLine := by omega
  have z4 : (4 : Nat) ≤ sizeLine := by omega
  refine wk_fnK ?_
  unfold m_l_row
  rw [nx, ws_seq]
  walk_at "lx"
  simp only [z0, z1, z2, z3, z4, true_and]
  refine next_wp hD (by omega) (by decide) (by decide) fun r δ1 r0 r1 h1 => ?_
  obtain ⟨i, rfl⟩ := Int.eq_ofNat_of_zero_le r0
  have hi : i < 4 := by omega
  have e1 : subD' (.list [PyData.tuple [], .tuple [.str (Str.ofString "go")], .tuple [.str (Str.ofString "go"), .tuple [.str (Str.ofString "say"), .str (Str.ofString "n")]], .tuple [.tuple [.str (Str.ofString "by"), .str (Str.ofString "n"), .tuple [.tuple [.str (Str.ofString "one"), .tuple [.str (Str.ofString "x")]], .tuple [.str (Str.ofString "many"), .tuple []]]]]]) (.int (i : Int)) = some (pcD ⟨i, hi⟩) := by
    have : i = 0 ∨ i = 1 ∨ i = 2 ∨ i = 3 := by omega
    rcases this with rfl | rfl | rfl | rfl <;> rfl
  refine .of e1 ?_
  refine next_wp h1 (by omega) (by decide) (by decide) fun r δ2 s0 s1 h2 => ?_
  obtain ⟨j, rfl⟩ := Int.eq_ofNat_of_zero_le s0
  have hj : j < 3 := by omega
  have e2 : subD' (.list [PyData.str (Str.ofString "en"), .str (Str.ofString "de"), .str (Str.ofString "fr")]) (.int (j : Int)) = some (.str (tgS ⟨j, hj⟩)) := by
    have : j = 0 ∨ j = 1 ∨ j = 2 := by omega
    rcases this with rfl | rfl | rfl <;> rfl
  refine .of e2 ?_
  refine next_wp h2 (by omega) (by decide) (by decide) fun r δ3 u0 u1 h3 => ?_
  obtain ⟨k, rfl⟩ := Int.eq_ofNat_of_zero_le u0
  have hk : k < 4 := by omega
  have e3 : subD' (.list [PyData.none, .int 0, .int 1, .int 12]) (.int (k : Int)) = some (nbD ⟨k, hk⟩) := by
    have : k = 0 ∨ k = 1 ∨ k = 2 ∨ k = 3 := by omega
    rcases this with rfl | rfl | rfl | rfl <;> rfl
  refine .of e3 ?_
  exact p ⟨j, hj⟩ ⟨k, hk⟩ ⟨i, hi⟩ δ3 h3
theorem sorted_eq {ns : List Str} (h : ns.length < 64) : sortedD [.list (ns.map .str)] = some (.list ((srt ns).map .str)) := by
  show ((strsD (ns.map .str)).bind fun xs => if xs.length < 64 then some (PyData.list ((srt xs).map .str)) else none) = _
  rw [strsD_map]
  exact if_pos h
theorem srt_ok {ns : List Str} (h : NsOk ns) : NsOk (srt ns) := ⟨fun n hn => h.nm n ((srt_perm ns).mem_iff.mp hn), (srt_perm ns).symm.nodup h.nd⟩
theorem srt_len (ns : List Str) : (srt ns).length = ns.length := (srt_perm ns).length_eq
theorem rs_ok {ns : List Str} (h : NsOk ns) (hl : ns.length = 8) {rs : List Rw} (hs : (rs.map (·.nm)).Sublist (srt ns)) : RsOk rs := by
  refine ⟨fun r hr => (srt_ok h).nm _ (hs.subset (List.mem_map.mpr ⟨r, hr, rfl⟩)), hs.nodup (srt_ok h).nd, ?_⟩
  have := hs.length_le
  rw [List.length_map, srt_len] at this
  omega
theorem list_wp {b : Nat} {δ : Dk} {ns : List Str} {P : D → Dk → Prop} (hD : DkOk b δ) (hb : b ≤ 100000) (hn : NsOk ns) (hl : ns.length = 8) (p : ∀ (rs : List Rw) δ', (rs.map (·.nm)).Sublist (srt ns) → DkOk (b + 40) δ' → P (TR rs) δ') : WK f_l_list [.list (ns.map .str)] δ P := by
  have sb := sizeBig
  refine wk_fnK ?_
  unfold m_l_list
  rw [nx]
  walk_at "lx"
  refine .of (sorted_eq (by omega)) ⟨_, rfl, rfl, ?_⟩
  have := wc_inv (g := gSet 2) (tt := mB (mBin gtD (mCallK 0 (fNext mixA) (mCons (mC (.int 3)) mNil)) (mC (.int 0)))) (te := mCallK 0 f_l_row (mCons (mVar 2) mNil)) (ρ := [.deck, .val (.list (ns.map .str)), .no]) (P := fun out δ => ∃ rs : List Rw, out = rs.map er ∧ (rs.map (·.nm)).Sublist (srt ns) ∧ DkOk (b + 40) δ)
    (fun left out δ => ∃ (done l : List Str) (rs : List Rw), done ++ l = srt ns ∧ left = l.map .str ∧ out = rs.map er ∧ (rs.map (·.nm)).Sublist done ∧ DkOk (b + 4 * done.length) δ) (fun d left out δ hI => by
      obtain ⟨done, l, rs, e1, e2, rfl, hs, hD2⟩ := hI
      match l, e2 with
      | w :: l, e2 =>
        rw [List.map_cons, List.cons.injEq] at e2
        obtain ⟨rfl, rfl⟩ := e2
        have hdl : done.length + (l.length + 1) = 8 := by
          have := congrArg List.length e1
          rw [srt_len, hl] at this
          simpa using this
        rw [wg_set]
        simp only [List.set_cons_zero, List.set_cons_succ]
        walk_at "lx"
        refine next_wp hD2 (by omega) (by decide) (by decide) fun r δ1 r0 r1 h1 => ?_
        walk_at "lx"
        by_cases hr : 0 < r
        · rw [decide_eq_true hr, if_pos rfl]
          refine row_wp h1 (by omega) fun t n q δ2 h2 => ?_
          refine ⟨done ++ [w], l, rs ++ [⟨w, t, n, q⟩], by rw [← e1]; simp, rfl, by rw [List.map_append]; rfl, ?_, h2.mono (by simp; omega)⟩
          rw [List.map_append]
          exact hs.append (List.Sublist.refl _)
        · rw [decide_eq_false hr, if_neg Bool.false_ne_true]
          exact ⟨done ++ [w], l, rs, by rw [← e1]; simp, rfl, rfl, hs.trans (List.sublist_append_left _ _), h1.mono (by simp; omega)⟩)
    (fun out δ hI => by
      obtain ⟨done, l, rs, e1, e2, rfl, hs, hD2⟩ := hI
      have : l = [] := by simpa using e2
      subst this
      rw [List.append_nil] at e1
      subst e1
      exact ⟨rs, rfl, hs, hD2.mono (by rw [srt_len, hl]; omega)⟩) ((srt ns).map .str) [] δ ⟨[], srt ns, [], rfl, rfl, rfl, List.Sublist.refl _, hD.mono (by simp)⟩
  obtain ⟨out, δ2, eo, rs, ers, hs, hD2⟩ := this
  rw [List.nil_append] at ers
  subst ers
  have hrl := (rs_ok hn hl hs).ln
  refine ⟨_, δ2, eo, by rw [List.length_map]; omega, .of (z := TR rs) rfl ?_⟩
  exact p rs δ2 hs hD2
theorem eqS_nm {a b : Str} (ha : NmOk a) (hb : NmOk b) : eqD (.str a) (.str b) = some (.bool (decide (a = b))) := eqD_str ha.ok hb.ok
theorem own_le {rs : List Rw} (h : (rs.map (·.nm)).Nodup) (x : Str) : (rs.filter fun r => decide (r.nm = x)).map (·.nm) = [] ∨ (rs.filter fun r => decide (r.nm = x)).map (·.nm) = [x] := by
  induction rs with
  | nil => exact .inl rfl
  | cons r rs ih =>
    rw [List.map_cons, List.nodup_cons] at h
    by_cases e : r.nm = x
    · refine .inr ?_
      rw [List.filter_cons, if_pos (decide_eq_true e), List.map_cons]
      have : rs.filter (fun r => decide (r.nm = x)) = [] := List.filter_eq_nil_iff.mpr fun q hq z => h.1 (by rw [e, ← of_decide_eq_true z]; exact List.mem_map.mpr ⟨q, hq, rfl⟩)
      rw [this, e]
      rfl
    · rw [List.filter_cons, if_neg (by simpa using e)]
      exact ih h.2
theorem neN (O : List Rw) (h : ∀ r ∈ O, NmOk r.nm) : neD (.list (O.map er)) (.list []) = some (.bool (!PyData.eqv (.list (O.map er)) (.list []))) := by
  refine neD_of (Sh.lst (k := 9) fun d hd => ?_) (Sh.lst (k := 9) fun d hd => by simp at hd) (by decide) (by decide)
  obtain ⟨r, hr, rfl⟩ := List.mem_map.mp hd
  exact sh_er (h r hr)
theorem turned_wp {b : Nat} {δ : Dk} {ns : List Str} {A : List Rw} {P : D → Dk → Prop} (hD : DkOk b δ) (hb : b ≤ 100000) (hn : NsOk ns) (hl : ns.length = 8) (hA : RsOk A) (p : ∀ (rs : List Rw) δ', (rs.map (·.nm)).Sublist (srt ns) → DkOk (b + 40) δ' → P (TR rs) δ') : WK f_l_turned [TR A, .list (ns.map .str)] δ P := by
  have sb := sizeBig
  refine wk_fnK ?_
  unfold m_l_turned
  rw [nx, ws_seq]
  walk_at "lx"
  refine ⟨by decide, ?_⟩
  rw [ws_seq]
  walk_at "lx"
  refine .of (sorted_eq (by omega)) ⟨_, rfl, ?_⟩
  refine ws_forI (fun left ρ δ => ∃ (done l : List Str) (rs : List Rw) (t4 t5 t7 : Sl), done ++ l = srt ns ∧ left = l.map .str ∧ (rs.map (·.nm)).Sublist done ∧ DkOk (b + 5 * done.length) δ ∧ ρ = [.deck, .val (TR A), .val (.list (ns.map .str)), .val (.list (rs.map er)), t4, t5, .no, t7]) (fun d left ρ δ hI => ?_) (fun ρ δ hI => ?_) _ _ _ ⟨[], srt ns, [], .no, .no, .no, rfl, rfl, List.Sublist.refl _, hD.mono (by simp), rfl⟩
  · obtain ⟨done, l, rs, t4, t5, t7, e1, e2, hs, hD2, rfl⟩ := hI
    match l, e2 with
    | w :: l, e2 =>
      rw [List.map_cons, List.cons.injEq] at e2
      obtain ⟨rfl, rfl⟩ := e2
      have hdl : done.length + (l.length + 1) = 8 := by
        have := congrArg List.length e1
        rw [srt_len, hl] at this
        simpa using this
      have hw : NmOk w := (srt_ok hn).nm w (by rw [← e1]; simp)
      have hrl : rs.length ≤ 8 := by have := hs.length_le; rw [List.length_map] at this; omega
      rw [wg_set]
      simp only [List.set_cons_zero, List.set_cons_succ]
      rw [ws_seq]
      walk_at "lx"
      refine ⟨A.map er, rfl, rfl, ?_⟩
      refine wc_filter er (fun r => decide (r.nm = w)) er A (fun r hr => ?_) ?_
      · rw [wg_set]
        simp only [List.set_cons_zero, List.set_cons_succ]
        walk_at "lx"
        refine .of (er0 r) (.of (eqS_nm (hA.nm r hr) hw) ?_)
        simp
      · have hol := own_le hA.nd w
        generalize hO : A.filter (fun r => decide (r.nm = w)) = O at hol ⊢
        have hO1 : O.length ≤ 1 := by
          rcases hol with h | h
          · have := congrArg List.length h; simp at this; rw [this]; decide
          · have := congrArg List.length h; simp at this; omega
        refine ⟨by rw [List.length_map]; omega, ?_⟩
        rw [ws_seq]
        walk_at "lx"
        refine next_wp hD2 (by omega) (by decide) (by decide) fun r δ1 r0 r1 h1 => ?_
        -- what is put behind
        have put : ∀ (O2 : List Rw) (δ3 : Dk) (ρ4 ρ7 : Sl), (O2.map (·.nm) = [] ∨ O2.map (·.nm) = [w]) → DkOk (b + 5 * done.length + 5) δ3 → ∃ (done' l' : List Str) (rs' : List Rw) (t4 t5 t7 : Sl), done' ++ l' = srt ns ∧ l.map PyData.str = l'.map .str ∧ (rs'.map (·.nm)).Sublist done' ∧ DkOk (b + 5 * done'.length) δ3 ∧ [Sl.deck, .val (TR A), .val (.list (ns.map .str)), .val (.list ((rs ++ O2).map er)), ρ4, .val (.list (O2.map er)), .no, ρ7] = [.deck, .val (TR A), .val (.list (ns.map .str)), .val (.list (rs'.map er)), t4, t5, .no, t7] := fun O2 δ3 ρ4 ρ7 h2 hD3 => by
          refine ⟨done ++ [w], l, rs ++ O2, _, _, _, by rw [← e1]; simp, rfl, ?_, hD3.mono (by simp; omega), rfl⟩
          rw [List.map_append]
          rcases h2 with h2 | h2
          · rw [h2, List.append_nil]; exact hs.trans (List.sublist_append_left _ _)
          · rw [h2]; exact hs.append (List.Sublist.refl _)
        have skip : ∀ (O2 : List Rw) (δ3 : Dk) (ρ4 ρ7 : Sl), DkOk (b + 5 * done.length + 5) δ3 → ∃ (done' l' : List Str) (rs' : List Rw) (t4 t5 t7 : Sl), done' ++ l' = srt ns ∧ l.map PyData.str = l'.map .str ∧ (rs'.map (·.nm)).Sublist done' ∧ DkOk (b + 5 * done'.length) δ3 ∧ [Sl.deck, .val (TR A), .val (.list (ns.map .str)), .val (.list (rs.map er)), ρ4, .val (.list (O2.map er)), .no, ρ7] = [.deck, .val (TR A), .val (.list (ns.map .str)), .val (.list (rs'.map er)), t4, t5, .no, t7] := fun O2 δ3 ρ4 ρ7 hD3 => by
          exact ⟨done ++ [w], l, rs, _, _, _, by rw [← e1]; simp, rfl, hs.trans (List.sublist_append_left _ _), hD3.mono (by simp; omega), rfl⟩
        have add : ∀ O2 : List Rw, O2.length ≤ 1 → addD (.list (rs.map er)) (.list (O2.map er)) = some (.list ((rs ++ O2).map er)) := fun O2 h2 => by
          rw [addD_lst (by rw [List.length_map, List.length_map]; omega), List.map_append]
        rw [ws_seq]
        walk_at "lx"
        have hrc : r = 0 ∨ r = 1 ∨ r = 2 ∨ r = 3 := by omega
        rcases hrc with rfl | rfl | rfl | rfl
        · simp only [decide_true, if_true]
          refine row_wp h1 (by omega) fun t n q δ2 h2 => ⟨by decide, ?_⟩
          rw [decide_eq_false (by decide), if_neg Bool.false_ne_true]
          refine ⟨Nat.zero_le _, .of (neN [⟨w, t, n, q⟩] fun r hr => by rw [List.mem_singleton.mp hr]; exact hw) ⟨_, rfl, ?_⟩⟩
          have fin := put [⟨w, t, n, q⟩] δ2 (.val (.str w)) (.val (.int 0)) (.inr rfl) (h2.mono (by omega))
          have ad := add [⟨w, t, n, q⟩] (Nat.le_refl _)
          split
          · rw [if_neg (by decide)]
            exact .of ad fin
          · exact .of ad fin
        · simp only [Int.reduceEq, decide_false, Bool.false_eq_true, if_false]
          rw [decide_eq_false (by decide), if_neg Bool.false_ne_true]
          refine ⟨Nat.zero_le _, .of (neN O fun r hr => hA.nm r (by rw [← hO] at hr; exact (List.mem_filter.mp hr).1)) ⟨_, rfl, ?_⟩⟩
          split
          · rw [if_pos (by decide)]
            refine next_wp h1 (by omega) (by decide) (by decide) fun q δ2 q0 q1 h2 => ?_
            walk_at "lx"
            split
            · exact .of (add O hO1) (put O δ2 _ _ hol (h2.mono (by omega)))
            · exact skip O δ2 _ _ (h2.mono (by omega))
          · exact skip O δ1 _ _ (h1.mono (by omega))
        · simp only [Int.reduceEq, decide_false, Bool.false_eq_true, if_false]
          rw [if_pos (by decide)]
          exact .of (add O hO1) (put O δ1 _ _ hol (h1.mono (by omega)))
        · simp only [Int.reduceEq, decide_false, Bool.false_eq_true, if_false]
          rw [if_pos (by decide)]
          exact .of (add O hO1) (put O δ1 _ _ hol (h1.mono (by omega)))
  · obtain ⟨done, l, rs, t4, t5, t7, e1, e2, hs, hD2, rfl⟩ := hI
    have : l = [] := by simpa using e2
    subst this
    rw [List.append_nil] at e1
    subst e1
    walk_at "lx"
    exact .of (z := TR rs) rfl (p rs δ hs (hD2.mono (by rw [srt_len, hl]; omega)))
end DL
namespace DL
open PySem PySem.Spec PyProof.Rows L2 TL PD MT
local macro_rules | `(tactic| walk_at "lx") => `(tactic| simp only [wl_gen, wl_seq, wl_app, wl_at, wl_for, ws_hid, we_lenU, we_ixU, ws_setU, ws_asgX, ws_retX, ws_uniS, wx_binL, we_lcKeys, wx_pop, wx_bin, ws_asg, ws_ret, ws_if, ws_next, ws_uni, ws_app, ws_frz, ws_aug, ws_for, onNx_nx, onNx_rt, onNx_bk, onNx_ct, onRt_rt, onRt_nx, we_var, we_c, we_bin, we_un, we_call, we_callK, wa_nil, wa_cons, we_tup, we_lst, wo_no, wo_some, we_sl, wt_b, wt_tru, wt_and, wt_or, wt_not, we_if, we_and, we_or, we_chain, we_get2, wp_nil, wp_cons, we_disp, wa_items, we_lc, wg_set, wg_tup, wg_lst, w_eqS, w_neS, wgs_nil, wgs_cons, List.getElem?_cons_zero, List.getElem?_cons_succ, Option.some.injEq, Sl.val.injEq, Sl.uni.injEq, exists_eq_left', exists_eq_left, List.set_cons_zero, List.set_cons_succ, true_and, and_true, List.length_cons, List.length_nil, List.map_cons, List.map_nil, PyData.int.injEq, PyData.bool.injEq, PyData.tuple.injEq, PyData.list.injEq, PyData.str.injEq, w_add, w_sub, w_lt, w_le, w_gt, w_ge, w_eqI, w_neI, w_intB, itemsD, truD, slots, wipeR, List.cons_append, List.nil_append, Nat.reduceAdd, Nat.reduceSub, List.replicate_succ, List.replicate_zero, ↓reduceIte, Bool.false_eq_true, Bool.not_true, Bool.not_false, decide_true, decide_false, if_true, if_false])
theorem compK_flat {α : Type} {g : MG} {mr : MP} {ρ : List Sl} (enc : α → D) (f : α → List (Key × D)) (δ : Dk) : ∀ xs : List α, (∀ x ∈ xs, ∃ ρ2, g (enc x) ρ = some ρ2 ∧ mr ρ2 δ = some (f x, δ)) → compK g mYes mr ρ (xs.map enc) δ = some (xs.flatMap f, δ)
  | [], _ => rfl
  | x :: xs, h => by
    obtain ⟨ρ2, e1, e2⟩ := h x (.head _)
    have ih := compK_flat enc f δ xs fun y hy => h y (.tail _ hy)
    show ((g (enc x) ρ).bind fun ρ2 => (mYes ρ2 δ).bind fun p => if p.1 = true then (mr ρ2 p.2).bind fun q => (compK g mYes mr ρ (xs.map enc) q.2).map fun r => (q.1 ++ r.1, r.2) else compK g mYes mr ρ (xs.map enc) p.2) = _
    rw [e1]
    show ((mr ρ2 δ).bind fun q => (compK g mYes mr ρ (xs.map enc) q.2).map fun r => (q.1 ++ r.1, r.2)) = _
    rw [e2]
    show ((compK g mYes mr ρ (xs.map enc) δ).map fun r => (f x ++ r.1, r.2)) = _
    rw [ih]
    rfl
theorem putAll_new : ∀ (out es : List (Key × D)), ((es ++ out).map (·.1)).Nodup → putAll es out = es ++ out
  | [], es, _ => (List.append_nil es).symm
  | e :: out, es, h => by
    have hk : hasK es e.1 = false := by
      unfold hasK
      rw [List.any_eq_false]
      intro x hx z
      have z := of_decide_eq_true z
      rw [List.map_append, List.map_cons] at h
      exact (List.nodup_append.mp h).2.2 x.1 (List.mem_map.mpr ⟨x, hx, rfl⟩) e.1 (.head _) z
    show putAll (putP es e.1 e.2) out = _
    unfold putP
    rw [if_neg (by rw [hk]; exact Bool.false_ne_true), putAll_new out _ (by simpa using h)]
    simp
def dR (rs : List Rw) : D := .dict (rs.map fun r => (.str r.nm, er r))
theorem by_name_eq {rs : List Rw} (h : RsOk rs) : f_rows_by_name [TR rs] = some (dR rs) := by
  have sb := sizeBig
  have hl := h.ln
  have e : ∀ δ : Dk, kFor (mItems (mVar 0)) [1] (gSet 1) mYes (kOne (mBin subD' (mVar 1) (mC (.int 0))) (mVar 1)) [.val (TR rs), .no] δ = some (rs.flatMap (fun r => [(Sum.inr r.nm, er r)]), δ) := fun δ =>
    compK_flat er (fun r => [(Sum.inr r.nm, er r)]) δ rs fun r hr => ⟨[.val (TR rs), .val (er r)], rfl, rfl⟩
  refine fnP_eq (ρ' := [.val (TR rs), .no]) (δ' := ⟨[], 0, [], none⟩) ⟨rfl, by decide⟩ (ret_eq ?_)
  show ((kFor _ _ _ _ _ [.val (TR rs), .no] _).bind fun q => if q.1.length ≤ sizeLine then some (PyData.dict ((putAll [] q.1).map fun e => (keyD e.1, e.2)), q.2) else none) = _
  rw [e, show rs.flatMap (fun r => [((Sum.inr r.nm : Key), er r)]) = rs.map fun r => (Sum.inr r.nm, er r) from (List.map_eq_flatMap ..).symm]
  refine (if_pos (by show (rs.map _).length ≤ sizeLine; rw [List.length_map]; omega)).trans ?_
  rw [putAll_new _ [] ?_, List.nil_append, List.map_map]
  · rfl
  · rw [List.nil_append, List.map_map]
    have := h.nd
    exact List.Pairwise.of_map (S := fun a b : Str => a ≠ b) (fun k => match k with | Sum.inr s => s | Sum.inl _ => (default : Str)) (fun a b hab z => hab (by rw [z])) (by rw [List.map_map]; exact this)
theorem look_dR (x : Str) : ∀ rs : List Rw, lookD (rs.map fun r => (PyData.str r.nm, er r)) (.str x) = (rs.find? fun r => decide (r.nm = x)).map er
  | [] => rfl
  | r :: rs => by
    rw [List.map_cons, List.find?_cons]
    show (if r.nm = x then some (er r) else lookD (rs.map fun r => (PyData.str r.nm, er r)) (.str x)) = _
    by_cases h : r.nm = x
    · rw [if_pos h, decide_eq_true h]; rfl
    · rw [if_neg h, decide_eq_false h]; exact look_dR x rs
theorem find_nm {x : Str} {rs : List Rw} : (rs.find? fun r => decide (r.nm = x)).isSome = decide (x ∈ rs.map (·.nm)) := by
  rw [Bool.eq_iff_iff, List.find?_isSome]
  simp
theorem uniq {rs : List Rw} (h : (rs.map (·.nm)).Nodup) {a b : Rw} (ha : a ∈ rs) (hb : b ∈ rs) (e : a.nm = b.nm) : a = b := by
  induction rs with
  | nil => simp at ha
  | cons r rs ih =>
    rw [List.map_cons, List.nodup_cons] at h
    rcases List.mem_cons.mp ha with rfl | ha
    · rcases List.mem_cons.mp hb with rfl | hb
      · rfl
      · exact absurd (List.mem_map.mpr ⟨b, hb, e.symm⟩) h.1
    · rcases List.mem_cons.mp hb with rfl | hb
      · exact absurd (List.mem_map.mpr ⟨a, ‹a ∈ rs›, e⟩) h.1
      · exact ih h.2 ha hb
def goneL (A B : List Rw) : List Rw := A.filter fun r => decide (r.nm ∉ B.map (·.nm))
def comeL (A B : List Rw) : List Rw := B.filter fun r => decide (r ∉ A)
def dlt (A B : List Rw) : D := .tuple [.tuple ((goneL A B).map fun r => .str r.nm), TR (comeL A B)]
theorem in_dR (x : Str) (rs : List Rw) : inDict true (.str x) (dR rs) = some (.bool (decide (x ∉ rs.map (·.nm)))) := by
  show some (PyData.bool (true ^^ (lookD (rs.map fun r => (PyData.str r.nm, er r)) (.str x)).isSome)) = _
  rw [look_dR, Option.isSome_map, find_nm, decide_not, Bool.true_xor]
theorem sub_dR {rs : List Rw} (h : RsOk rs) {x : Str} {q : Rw} (hq : q ∈ rs) (e : q.nm = x) : subD' (dR rs) (.str x) = some (er q) := by
  show lookD (rs.map fun r => (PyData.str r.nm, er r)) (.str x) = _
  rw [look_dR]
  cases hf : rs.find? fun r => decide (r.nm = x) with
  | none => exact absurd (decide_eq_true e) (List.find?_eq_none.mp hf q hq)
  | some p =>
    have h1 := List.find?_some hf
    have h2 := List.mem_of_find?_eq_some hf
    rw [uniq h.nd h2 hq ((of_decide_eq_true h1).trans e.symm)]
    rfl
theorem delta_eq {A B : List Rw} (hA : RsOk A) (hB : RsOk B) : f_delta [TR A, TR B] = some (dlt A B) := by
  have sb := sizeBig
  have la := hA.ln
  have lb := hB.ln
  have : W1 (f_delta [TR A, TR B]) fun z => z = dlt A B := by
    refine w1_fnP ?_
    unfold m_delta
    rw [ws_seq]
    walk_at "lx"
    refine .of (by_name_eq hA) (.of (by_name_eq hB) ⟨by decide, ?_⟩)
    rw [ws_seq]
    walk_at "lx"
    refine ⟨_, rfl, rfl, ?_⟩
    rw [List.map_map]
    refine wc_filter (fun r : Rw => PyData.str r.nm) (fun r => decide (r.nm ∉ B.map (·.nm))) (fun r : Rw => PyData.str r.nm) A (fun r hr => ?_) ?_
    · rw [wg_set]
      simp only [List.set_cons_zero, List.set_cons_succ]
      walk_at "lx"
      refine .of (in_dR r.nm B) ?_
      simp
    · have l1 : (A.filter fun r => decide (r.nm ∉ B.map (·.nm))).length ≤ A.length := List.length_filter_le ..
      refine ⟨by rw [List.length_map]; omega, ?_⟩
      rw [ws_seq]
      walk_at "lx"
      refine ⟨B.map er, rfl, rfl, ?_⟩
      refine wc_filter er (fun r => decide (r ∉ A)) er B (fun r hr => ?_) ?_
      · rw [wg_set]
        simp only [List.set_cons_zero, List.set_cons_succ]
        walk_at "lx"
        refine .of (er0 r) (.of (in_dR r.nm A) ⟨_, rfl, ?_⟩)
        by_cases hm : r.nm ∈ A.map (·.nm)
        · rw [if_neg (by simpa using hm)]
          obtain ⟨q, hq, eq⟩ := List.mem_map.mp hm
          refine .of (er0 r) (.of (sub_dR hA hq eq) (.of (ne_er (hA.nm q hq) (hB.nm r hr)) ⟨_, rfl, ?_, fun _ => trivial⟩))
          rw [← decide_not]
          refine decide_eq_decide.mpr ⟨fun h z => h (uniq hA.nd hq z eq), fun h z => h (z ▸ hq)⟩
        · rw [if_pos (by simpa using hm)]
          have hn : ¬ r ∈ A := fun z => hm (List.mem_map.mpr ⟨r, z, rfl⟩)
          exact ⟨(decide_eq_true hn).symm, fun _ => trivial⟩
      · have l2 : (B.filter fun r => decide (r ∉ A)).length ≤ B.length := List.length_filter_le ..
        refine ⟨by rw [List.length_map]; omega, ?_⟩
        exact .of rfl (.of rfl ⟨by omega, rfl⟩)
  obtain ⟨z, e, rfl⟩ := this
  exact e
end DL
namespace DL
open PySem PySem.Spec PyProof.Rows L2 TL PD MT
def look (rs : List Rw) (x : Str) : Option Rw := rs.find? fun r => decide (r.nm = x)
def nms (rs : List Rw) : List Str := rs.map (·.nm)
def putR (rs : List Rw) (r : Rw) : List Rw := if r.nm ∈ nms rs then rs.map (fun q => if q.nm = r.nm then r else q) else rs ++ [r]
def eD (rs : List Rw) : List (D × D) := rs.map fun r => (.str r.nm, er r)
theorem look_none {rs : List Rw} {x : Str} : look rs x = none ↔ x ∉ nms rs := by
  unfold look nms
  rw [List.find?_eq_none]
  simp
theorem look_nm {rs : List Rw} {x : Str} {r : Rw} (h : look rs x = some r) : r.nm = x ∧ r ∈ rs := by
  have h1 := List.find?_some h
  exact ⟨of_decide_eq_true h1, List.mem_of_find?_eq_some h⟩
theorem look_mem {rs : List Rw} {x : Str} (h : x ∈ nms rs) : ∃ r, look rs x = some r ∧ r.nm = x ∧ r ∈ rs := by
  cases e : look rs x with
  | none => exact absurd h (look_none.mp e)
  | some r => exact ⟨r, rfl, look_nm e⟩
theorem nms_put (rs : List Rw) (r : Rw) : nms (putR rs r) = if r.nm ∈ nms rs then nms rs else nms rs ++ [r.nm] := by
  unfold putR
  split
  · unfold nms
    rw [List.map_map]
    refine List.map_congr_left fun q _ => ?_
    show (if q.nm = r.nm then r else q).nm = q.nm
    split
    · rename_i h; exact h.symm
    · rfl
  · unfold nms; simp
theorem nd_put {rs : List Rw} (h : (nms rs).Nodup) (r : Rw) : (nms (putR rs r)).Nodup := by
  rw [nms_put]
  split
  · exact h
  · rename_i hn
    exact List.nodup_append.mpr ⟨h, by simp, fun a ha b hb z => by simp at hb; rw [← hb, ← z] at hn; exact hn ha⟩
def mergeR (rs cs : List Rw) : List Rw := cs.foldl putR rs
theorem nd_merge : ∀ (cs : List Rw) {rs : List Rw}, (nms rs).Nodup → (nms (mergeR rs cs)).Nodup
  | [], _, h => h
  | c :: cs, _, h => nd_merge cs (nd_put h c)
theorem keyIs_nm (a x : Str) : keyIs (.str a) (.inr x) = decide (a = x) := rfl
theorem drop_eD (rs : List Rw) (x : Str) : dropE (eD rs) (.inr x) = eD (rs.filter fun r => decide (r.nm ≠ x)) := by
  unfold dropE eD
  rw [List.filter_map]
  congr 1
  refine List.filter_congr fun r _ => ?_
  show (!keyIs (.str r.nm) (.inr x)) = _
  rw [keyIs_nm, decide_not]
theorem put_eD (rs : List Rw) (r : Rw) : putE (eD rs) (.inr r.nm) (er r) = eD (putR rs r) := by
  unfold putE putR
  have hh : hasE (eD rs) (.inr r.nm) = decide (r.nm ∈ nms rs) := by
    unfold hasE eD nms
    rw [List.any_map, Bool.eq_iff_iff, List.any_eq_true, decide_eq_true_eq, List.mem_map]
    refine ⟨fun ⟨q, hq, e⟩ => ⟨q, hq, of_decide_eq_true e⟩, fun ⟨q, hq, e⟩ => ⟨q, hq, decide_eq_true e⟩⟩
  rw [hh]
  by_cases h : r.nm ∈ nms rs
  · rw [if_pos (decide_eq_true h), if_pos h]
    unfold eD
    rw [List.map_map, List.map_map]
    refine List.map_congr_left fun q _ => ?_
    show (if keyIs (.str q.nm) (.inr r.nm) = true then (PyData.str q.nm, er r) else (.str q.nm, er q)) = (.str (if q.nm = r.nm then r else q).nm, er (if q.nm = r.nm then r else q))
    rw [keyIs_nm]
    by_cases e : q.nm = r.nm
    · rw [if_pos (decide_eq_true e), if_pos e, e]
    · rw [if_neg (by simp [e]), if_neg e]
  · rw [if_neg (by simp [h]), if_neg h]
    unfold eD
    rw [List.map_append]
    rfl
theorem merge_eD : ∀ (cs rs : List Rw), mergeE (eD rs) (eD cs) = eD (mergeR rs cs)
  | [], rs => rfl
  | c :: cs, rs => by
    show mergeE (putE (eD rs) (.inr c.nm) (er c)) (eD cs) = eD (mergeR (putR rs c) cs)
    rw [put_eD]
    exact merge_eD cs _
theorem look_eD (x : Str) : ∀ rs : List Rw, lookD (eD rs) (.str x) = (look rs x).map er
  | [] => rfl
  | r :: rs => by
    have ih := look_eD x rs
    unfold eD look at ih ⊢
    rw [List.map_cons, List.find?_cons]
    show (if r.nm = x then some (er r) else lookD (rs.map fun r => (PyData.str r.nm, er r)) (.str x)) = _
    by_cases h : r.nm = x
    · rw [if_pos h, decide_eq_true h]; rfl
    · rw [if_neg h, decide_eq_false h]; exact ih
theorem keys_eD (rs : List Rw) : keysS (eD rs) = some (nms rs) := by
  unfold keysS eD nms
  rw [List.map_map]
  have : (rs.map ((fun e : D × D => e.1) ∘ fun r => (PyData.str r.nm, er r))) = (rs.map (·.nm)).map .str := by rw [List.map_map]; rfl
  rw [this, strsD_map]
end DL
namespace NC
open PySem PySem.Spec PyProof.Rows L2 TL PD MT DL
def plain (c : Nat) : Bool := decide (32 ≤ c ∧ c < 127 ∧ c ≠ 39 ∧ c ≠ 92)
mutual
def nice : D → Bool
  | .str x => (tl x).all plain
  | .int i => decide (0 ≤ i ∧ i < 10000000000000)
  | .tuple ds => niceAll ds
  | .none => true
  | _ => false
def niceAll : List D → Bool
  | [] => true
  | d :: ds => nice d && niceAll ds
end
theorem ni {i : Int} (h : nice (.int i) = true) : 0 ≤ i := (of_decide_eq_true (p := 0 ≤ i ∧ i < 10000000000000) (by simpa only [nice] using h)).1
def code (d : D) : List Nat := tl d.shown
def tails : List D → List Nat
  | [] => [41]
  | d :: r => 44 :: 32 :: (code d ++ tails r)
def body : List D → List Nat
  | [] => [41]
  | [d] => code d ++ [44, 41]
  | d :: e :: r => code d ++ tails (e :: r)
theorem reprChar_plain : ∀ c, c < 127 → plain c = true → Builtin.Str.reprChar 39 c = [c] := by decide +kernel
theorem fold_plain : ∀ (l : List Nat) (acc : Array Nat), (∀ c ∈ l, plain c = true) → l.foldl (fun out c => out ++ (Builtin.Str.reprChar 39 c).toArray) acc = acc ++ l.toArray
  | [], acc, _ => by simp
  | c :: l, acc, h => by
    have hc := h c (.head _)
    have hc' := of_decide_eq_true (p := 32 ≤ c ∧ c < 127 ∧ c ≠ 39 ∧ c ≠ 92) hc
    rw [List.foldl_cons, reprChar_plain c hc'.2.1 hc, fold_plain l _ fun d hd => h d (.tail _ hd)]
    simp
theorem plain_ne {x : Str} (h : (tl x).all plain = true) : 39 ∉ tl x := fun z => by
  have := List.all_eq_true.mp h 39 z
  revert this
  decide
theorem code_str {x : Str} (h : (tl x).all plain = true) : code (.str x) = 39 :: (tl x ++ [39]) := by
  have hq : reprQuote x = 39 := by
    unfold reprQuote
    rw [if_neg ?_]
    intro z
    simp only [Bool.and_eq_true, Array.contains_eq_mem, decide_eq_true_eq] at z
    exact plain_ne h (by unfold tl; exact Array.mem_toList_iff.mpr z.1)
  show tl (PyData.shown (.str x)) = _
  simp only [PyData.shown]
  unfold reprText
  rw [hq]
  show ((x.cps.foldl (fun out c => out ++ (Builtin.Str.reprChar 39 c).toArray) #[39]).push 39).toList = _
  rw [← Array.foldl_toList, fold_plain _ _ fun c hc => List.all_eq_true.mp h c hc]
  simp [tl]
def dig (c : Nat) : Prop := 48 ≤ c ∧ c ≤ 57
theorem code_int (n : Nat) : code (.int (n : Int)) = (Nat.toDigits 10 n).map (·.toNat) := by
  show (PyData.shown (.int (n : Int))).cps.toList = _
  simp only [PyData.shown]
  rw [Str.ofString_eq_toList]
  show (toString (n : Int)).toList.map Char.toNat = _
  congr 1
  show (Nat.repr n).toList = _
  rw [Nat.repr_eq_ofList_toDigits]
  exact String.toList_ofList ..
theorem code_dig (n : Nat) : ∀ c ∈ code (.int (n : Int)), dig c := by
  rw [code_int]
  intro c hc
  obtain ⟨ch, h, rfl⟩ := List.mem_map.mp hc
  have := Nat.isDigit_of_mem_toDigits (by decide) (by decide) h
  unfold Char.isDigit at this
  simp only [Bool.and_eq_true, decide_eq_true_eq] at this
  exact ⟨this.1, this.2⟩
theorem code_inj {n m : Nat} (h : code (.int (n : Int)) = code (.int (m : Int))) : n = m := by
  rw [code_int, code_int] at h
  have e : Nat.toDigits 10 n = Nat.toDigits 10 m := by
    refine (List.map_inj_right fun a b hab => ?_).mp h
    exact Char.toNat_inj.mp hab
  have := congrArg (fun l => Nat.ofDigitChars 10 l 0) e
  simpa using this
theorem code_ne (n : Nat) : code (.int (n : Int)) ≠ [] := by
  rw [code_int]
  intro z
  exact Nat.toDigits_ne_nil (List.map_eq_nil_iff.mp z)
/-- what may follow -/
def Cl (u : List Nat) : Prop := ∀ c r, u = c :: r → ¬ dig c
theorem cl_cons {c : Nat} {r : List Nat} (h : c < 48) : Cl (c :: r) := fun d q e z => by
  cases e
  exact absurd z.1 (by omega)
theorem cl_tails (ds : List D) (u : List Nat) : Cl (tails ds ++ u) := by
  cases ds with
  | nil => exact cl_cons (by decide)
  | cons d r => exact cl_cons (by decide)
theorem dig_cancel : ∀ {a b u v : List Nat}, (∀ c ∈ a, dig c) → (∀ c ∈ b, dig c) → Cl u → Cl v → a ++ u = b ++ v → a = b ∧ u = v
  | [], [], u, v, _, _, _, _, h => ⟨rfl, h⟩
  | [], d :: b, u, v, _, hb, hu, _, h => absurd (hb d (.head _)) (hu d _ h)
  | c :: a, [], u, v, ha, _, _, hv, h => absurd (ha c (.head _)) (hv c _ h.symm)
  | c :: a, d :: b, u, v, ha, hb, hu, hv, h => by
    simp only [List.cons_append, List.cons.injEq] at h
    obtain ⟨rfl, h⟩ := h
    obtain ⟨rfl, rfl⟩ := dig_cancel (fun x hx => ha x (.tail _ hx)) (fun x hx => hb x (.tail _ hx)) hu hv h
    exact ⟨rfl, rfl⟩
theorem joinL_tails : ∀ (e : D) (r : List D), 44 :: 32 :: (joinL [44, 32] ((PyData.shownAll (e :: r)).map tl) ++ [41]) = tails (e :: r)
  | e, [] => by simp [PyData.shownAll, joinL, tails, code]
  | e, f :: r => by
    have ih := joinL_tails f r
    simp only [PyData.shownAll, List.map_cons] at ih ⊢
    rw [joinL, tails, ← ih]
    simp [code]
theorem shownAll_len : ∀ ds : List D, (PyData.shownAll ds).length = ds.length
  | [] => rfl
  | d :: ds => by simp [PyData.shownAll, shownAll_len ds]
theorem code_tup (ds : List D) : code (.tuple ds) = 40 :: body ds := by
  show tl (PyData.shown (.tuple ds)) = _
  simp only [PyData.shown]
  unfold tupleText
  rw [tl_append, tl_append, tl_join]
  have e1 : tl ("(" : Str) = [40] := by decide +kernel
  have e3 : tl (", " : Str) = [44, 32] := by decide +kernel
  have e4 : tl (")" : Str) = [41] := by decide +kernel
  have e5 : tl (",)" : Str) = [44, 41] := by decide +kernel
  rw [e1, e3]
  match ds with
  | [] =>
    show [40] ++ [] ++ tl (Str.ofString ")") = _
    rw [e4]; rfl
  | [d] =>
    show [40] ++ tl d.shown ++ tl (Str.ofString ",)") = _
    rw [e5]; simp [body, code]
  | d :: e :: r =>
    have ej := joinL_tails e r
    have e2 : tl ((if (PyData.shownAll (d :: e :: r)).length == 1 then ",)" else ")" : String) : Str) = [41] := by
      rw [shownAll_len]
      exact e4
    rw [e2]
    show [40] ++ joinL [44, 32] (tl d.shown :: (PyData.shownAll (e :: r)).map tl) ++ [41] = 40 :: (code d ++ tails (e :: r))
    rw [← ej]
    simp [PyData.shownAll, joinL, code]
theorem code_none : code .none = [78, 111, 110, 101] := by decide +kernel
theorem code_head : ∀ {d : D}, nice d = true → ∃ c r, code d = c :: r ∧ c ≠ 41 ∧ c ≠ 44
  | .str x, h => by
    rw [code_str (by simpa only [nice] using h)]
    exact ⟨_, _, rfl, by decide, by decide⟩
  | .int i, h => by
    obtain ⟨n, rfl⟩ := Int.eq_ofNat_of_zero_le (ni h)
    have h1 := code_ne n
    have h2 := code_dig n
    cases hc : code (.int (n : Int)) with
    | nil => exact absurd hc h1
    | cons c r =>
      have := h2 c (by rw [hc]; exact .head _)
      exact ⟨c, r, rfl, by intro z; subst z; exact absurd this.1 (by decide), by intro z; subst z; exact absurd this.1 (by decide)⟩
  | .tuple ds, h => by
    rw [code_tup]
    exact ⟨_, _, rfl, by decide, by decide⟩
  | .none, h => ⟨_, _, code_none, by decide, by decide⟩
  | .bool _, h => by simp [nice] at h
  | .list _, h => by simp [nice] at h
  | .dict _, h => by simp [nice] at h
theorem int_head (n : Nat) (u : List Nat) : ∃ c r, code (.int (n : Int)) ++ u = c :: r ∧ dig c := by
  cases hc : code (.int (n : Int)) with
  | nil => exact absurd hc (code_ne n)
  | cons c r => exact ⟨c, r ++ u, rfl, code_dig n c (by rw [hc]; exact .head _)⟩
mutual
theorem inj : ∀ (a b : D) {u v : List Nat}, nice a = true → nice b = true → Cl u → Cl v → code a ++ u = code b ++ v → a = b ∧ u = v
  | .str x, b, u, v, ha, hb, hu, hv, h => by
    have hx : (tl x).all plain = true := by simpa only [nice] using ha
    match b, hb, h with
    | .str y, hb, h =>
      have hy : (tl y).all plain = true := by simpa only [nice] using hb
      rw [code_str hx, code_str hy] at h
      simp only [List.cons_append, List.append_assoc, List.cons.injEq, true_and, List.nil_append] at h
      obtain ⟨e1, e2⟩ := mark_cancel (plain_ne hx) (plain_ne hy) h
      exact ⟨by rw [ext_tl e1], e2⟩
    | .int j, hb, h =>
      obtain ⟨m, rfl⟩ := Int.eq_ofNat_of_zero_le (ni hb)
      obtain ⟨c, r, e, hc⟩ := int_head m v
      rw [e, code_str hx] at h
      simp only [List.cons_append, List.cons.injEq] at h
      rw [← h.1] at hc
      exact absurd hc.1 (by decide)
    | .tuple bs, hb, h =>
      rw [code_str hx, code_tup] at h
      simp at h
    | .none, hb, h =>
      rw [code_str hx, code_none] at h
      simp at h
    | .bool _, hb, h => simp [nice] at hb
    | .list _, hb, h => simp [nice] at hb
    | .dict _, hb, h => simp [nice] at hb
  | .int i, b, u, v, ha, hb, hu, hv, h => by
    obtain ⟨n, rfl⟩ := Int.eq_ofNat_of_zero_le (ni ha)
    match b, hb, h with
    | .str y, hb, h =>
      obtain ⟨c, r, e, hc⟩ := int_head n u
      rw [e, code_str (by simpa only [nice] using hb)] at h
      simp only [List.cons_append, List.cons.injEq] at h
      rw [h.1] at hc
      exact absurd hc.1 (by decide)
    | .int j, hb, h =>
      obtain ⟨m, rfl⟩ := Int.eq_ofNat_of_zero_le (ni hb)
      obtain ⟨e1, e2⟩ := dig_cancel (code_dig n) (code_dig m) hu hv h
      exact ⟨by rw [code_inj e1], e2⟩
    | .tuple bs, hb, h =>
      obtain ⟨c, r, e, hc⟩ := int_head n u
      rw [e, code_tup] at h
      simp only [List.cons_append, List.cons.injEq] at h
      rw [h.1] at hc
      exact absurd hc.1 (by decide)
    | .none, hb, h =>
      obtain ⟨c, r, e, hc⟩ := int_head n u
      rw [e, code_none] at h
      simp only [List.cons_append, List.cons.injEq] at h
      rw [h.1] at hc
      exact absurd hc.2 (by decide)
    | .bool _, hb, h => simp [nice] at hb
    | .list _, hb, h => simp [nice] at hb
    | .dict _, hb, h => simp [nice] at hb
  | .tuple as, b, u, v, ha, hb, hu, hv, h => by
    have ha' : niceAll as = true := by simpa only [nice] using ha
    match b, hb, h with
    | .str y, hb, h =>
      rw [code_tup, code_str (by simpa only [nice] using hb)] at h
      simp at h
    | .int j, hb, h =>
      obtain ⟨m, rfl⟩ := Int.eq_ofNat_of_zero_le (ni hb)
      obtain ⟨c, r, e, hc⟩ := int_head m v
      rw [e, code_tup] at h
      simp only [List.cons_append, List.cons.injEq] at h
      rw [← h.1] at hc
      exact absurd hc.1 (by decide)
    | .tuple bs, hb, h =>
      have hb' : niceAll bs = true := by simpa only [nice] using hb
      rw [code_tup, code_tup] at h
      simp only [List.cons_append, List.cons.injEq, true_and] at h
      have q := bodies as bs ha' hb' hu hv h
      exact ⟨by rw [q.1], q.2⟩
    | .none, hb, h =>
      rw [code_tup, code_none] at h
      simp at h
    | .bool _, hb, h => simp [nice] at hb
    | .list _, hb, h => simp [nice] at hb
    | .dict _, hb, h => simp [nice] at hb
  | .none, b, u, v, ha, hb, hu, hv, h => by
    match b, hb, h with
    | .str y, hb, h =>
      rw [code_none, code_str (by simpa only [nice] using hb)] at h
      simp at h
    | .int j, hb, h =>
      obtain ⟨m, rfl⟩ := Int.eq_ofNat_of_zero_le (ni hb)
      obtain ⟨c, r, e, hc⟩ := int_head m v
      rw [e, code_none] at h
      simp only [List.cons_append, List.cons.injEq] at h
      rw [← h.1] at hc
      exact absurd hc.2 (by decide)
    | .tuple bs, hb, h =>
      rw [code_none, code_tup] at h
      simp at h
    | .none, hb, h => exact ⟨rfl, List.append_cancel_left h⟩
    | .bool _, hb, h => simp [nice] at hb
    | .list _, hb, h => simp [nice] at hb
    | .dict _, hb, h => simp [nice] at hb
  | .bool _, b, u, v, ha, hb, hu, hv, h => by simp [nice] at ha
  | .list _, b, u, v, ha, hb, hu, hv, h => by simp [nice] at ha
  | .dict _, b, u, v, ha, hb, hu, hv, h => by simp [nice] at ha
theorem bodies : ∀ (as bs : List D) {u v : List Nat}, niceAll as = true → niceAll bs = true → Cl u → Cl v → body as ++ u = body bs ++ v → as = bs ∧ u = v
  | [], [], u, v, _, _, _, _, h => by
    simp only [body, List.cons_append, List.nil_append, List.cons.injEq, true_and] at h
    exact ⟨rfl, h⟩
  | [], b :: bs, u, v, _, hb, _, _, h => by
    simp only [niceAll, Bool.and_eq_true] at hb
    obtain ⟨c, r, e, c1, _⟩ := code_head hb.1
    cases bs with
    | nil =>
      simp only [body, e, List.cons_append, List.cons.injEq] at h
      exact absurd h.1.symm c1
    | cons b2 bs =>
      simp only [body, e, List.cons_append, List.cons.injEq] at h
      exact absurd h.1.symm c1
  | a :: as, [], u, v, ha, _, _, _, h => by
    simp only [niceAll, Bool.and_eq_true] at ha
    obtain ⟨c, r, e, c1, _⟩ := code_head ha.1
    cases as with
    | nil =>
      simp only [body, e, List.cons_append, List.cons.injEq] at h
      exact absurd h.1 c1
    | cons a2 as =>
      simp only [body, e, List.cons_append, List.cons.injEq] at h
      exact absurd h.1 c1
  | [a], [b], u, v, ha, hb, hu, hv, h => by
    simp only [niceAll, Bool.and_eq_true] at ha hb
    simp only [body, List.append_assoc] at h
    have q := inj a b ha.1 hb.1 (cl_cons (by decide)) (cl_cons (by decide)) h
    exact ⟨by rw [q.1], List.append_cancel_left (as := [44, 41]) q.2⟩
  | [a], b :: b2 :: bs, u, v, ha, hb, hu, hv, h => by
    simp only [niceAll, Bool.and_eq_true] at ha hb
    simp only [body, List.append_assoc] at h
    have q := inj a b ha.1 hb.1 (cl_cons (by decide)) (cl_tails _ _) h
    have e := q.2
    simp [tails] at e
  | a :: a2 :: as, [b], u, v, ha, hb, hu, hv, h => by
    simp only [niceAll, Bool.and_eq_true] at ha hb
    simp only [body, List.append_assoc] at h
    have q := inj a b ha.1 hb.1 (cl_tails _ _) (cl_cons (by decide)) h
    have e := q.2
    simp [tails] at e
  | a :: a2 :: as, b :: b2 :: bs, u, v, ha, hb, hu, hv, h => by
    rw [niceAll, Bool.and_eq_true] at ha hb
    simp only [body, List.append_assoc] at h
    have q := inj a b ha.1 hb.1 (cl_tails _ _) (cl_tails _ _) h
    have e := injs (a2 :: as) (b2 :: bs) ha.2 hb.2 q.2
    exact ⟨by rw [q.1, e.1], e.2⟩
theorem injs : ∀ (as bs : List D) {u v : List Nat}, niceAll as = true → niceAll bs = true → tails as ++ u = tails bs ++ v → as = bs ∧ u = v
  | [], [], u, v, _, _, h => by
    simp only [tails, List.cons_append, List.nil_append, List.cons.injEq, true_and] at h
    exact ⟨rfl, h⟩
  | [], b :: bs, u, v, _, hb, h => by simp [tails] at h
  | a :: as, [], u, v, ha, _, h => by simp [tails] at h
  | a :: as, b :: bs, u, v, ha, hb, h => by
    simp only [niceAll, Bool.and_eq_true] at ha hb
    simp only [tails, List.cons_append, List.append_assoc, List.cons.injEq, true_and] at h
    have q := inj a b ha.1 hb.1 (cl_tails _ _) (cl_tails _ _) h
    have e := injs as bs ha.2 hb.2 q.2
    exact ⟨by rw [q.1, e.1], e.2⟩
end
end NC
namespace NC
open PySem PySem.Spec PyProof.Rows L2 TL PD MT DL
structure Nc (m k : Nat) (d : D) : Prop where
  sw : Sw m k d
  sh : Sh m d
  nc : nice d = true
theorem niceAll_of : ∀ {ds : List D}, (∀ d ∈ ds, nice d = true) → niceAll ds = true
  | [], _ => by simp [niceAll]
  | d :: ds, h => by simp [niceAll, h d (.head _), niceAll_of fun x hx => h x (.tail _ hx)]
theorem Nc.tup {m k : Nat} {ds : List D} (h : ∀ d ∈ ds, Nc m k d) : Nc (m + 1) ((k + 2) * ds.length + 3) (.tuple ds) :=
  ⟨Sw.tup fun d hd => (h d hd).sw, Sh.tup fun d hd => (h d hd).sh, by simp only [nice]; exact niceAll_of fun d hd => (h d hd).nc⟩
theorem Nc.mono {m k m' k' : Nat} {d : D} (h : Nc m k d) (hm : m ≤ m') (hk : k ≤ k') : Nc m' k' d := ⟨h.sw.mono hm hk, h.sh.mono hm, h.nc⟩
theorem plain_ok {x : Str} (h : (tl x).all plain = true) : PyData.strOk x = true := strOk_lt fun c hc => by
  have := of_decide_eq_true (p := 32 ≤ c ∧ c < 127 ∧ c ≠ 39 ∧ c ≠ 92) (List.all_eq_true.mp h c hc)
  omega
theorem Nc.str {n : Nat} {x : Str} (h : (tl x).all plain = true) (hl : x.length ≤ n) : Nc 0 (10 * n + 2) (.str x) := by
  refine ⟨⟨?_, ?_, by simp [PyData.showable], by simp [PyData.hasDict], by simp [PyData.depth]⟩, Sh.str (plain_ok h), by simpa only [nice] using h⟩
  · simp only [ascD]
    refine List.all_eq_true.mpr fun c hc => decide_eq_true ?_
    have := of_decide_eq_true (p := 32 ≤ c ∧ c < 127 ∧ c ≠ 39 ∧ c ≠ 92) (List.all_eq_true.mp h c hc)
    exact Nat.lt_of_lt_of_le this.2.1 (by decide)
  · simp only [shB]
    omega
theorem Nc.int {n : Nat} (h : n < 10 ^ 13) : Nc 0 13 (.int (n : Int)) := by
  refine ⟨⟨by simp [ascD], ?_, ?_, by simp [PyData.hasDict], by simp [PyData.depth]⟩, Sh.int _, by simp only [nice]; exact decide_eq_true ⟨by omega, by omega⟩⟩
  · simp only [shB]
    rw [len_tl]
    have e := code_int n
    unfold code at e
    simp only [PyData.shown] at e
    rw [e, List.length_map]
    exact toDigits_len_pow (b := 10) (k := 13) (by decide) (by decide) h
  · simp only [PyData.showable, Int.natAbs_natCast]
    refine decide_eq_true ?_
    by_cases h0 : n = 0
    · subst h0; decide
    · rw [Nat.log2_lt h0]
      exact Nat.lt_of_lt_of_le h (Nat.le_trans (show 10 ^ 13 ≤ 2 ^ 50 by decide) (Nat.pow_le_pow_right (by decide) (by decide)))
theorem Nc.repr {m k : Nat} {a : D} (ha : Nc m k a) (hm : m ≤ 60) (hk : k ≤ 1000000) : reprD [a] = some (.str a.shown) := repr_of ha.sw hm hk
/-- a plain text, so long -/
structure Pt (n : Nat) (x : Str) : Prop where
  pl : (tl x).all plain = true
  l1 : 1 ≤ x.length
  l2 : x.length ≤ n
theorem Pt.nc {n : Nat} {x : Str} (h : Pt n x) : Nc 0 (10 * n + 2) (.str x) := Nc.str h.pl h.l2
end NC
namespace K69
open PySem PySem.Spec PyProof.Rows L2 TL PD MT DL
local macro_rules | `(tactic| walk_at "lx") => `(tactic| simp only [wl_gen, wl_seq, wl_app, wl_at, wl_for, ws_hid, we_lenU, we_ixU, ws_setU, ws_asgX, ws_retX, ws_uniS, wx_binL, we_lcKeys, wx_pop, wx_bin, ws_asg, ws_ret, ws_if, ws_next, ws_uni, ws_app, ws_frz, ws_aug, ws_for, onNx_nx, onNx_rt, onNx_bk, onNx_ct, onRt_rt, onRt_nx, we_var, we_c, we_bin, we_un, we_call, we_callK, wa_nil, wa_cons, we_tup, we_lst, wo_no, wo_some, we_sl, wt_b, wt_tru, wt_and, wt_or, wt_not, we_if, we_and, we_or, we_chain, we_get2, wp_nil, wp_cons, we_disp, wa_items, we_lc, wg_set, wg_tup, wg_lst, w_eqS, w_neS, wgs_nil, wgs_cons, List.getElem?_cons_zero, List.getElem?_cons_succ, Option.some.injEq, Sl.val.injEq, Sl.uni.injEq, exists_eq_left', exists_eq_left, List.set_cons_zero, List.set_cons_succ, true_and, and_true, List.length_cons, List.length_nil, List.map_cons, List.map_nil, PyData.int.injEq, PyData.bool.injEq, PyData.tuple.injEq, PyData.list.injEq, PyData.str.injEq, w_add, w_sub, w_lt, w_le, w_gt, w_ge, w_eqI, w_neI, w_intB, itemsD, truD, slots, wipeR, List.cons_append, List.nil_append, Nat.reduceAdd, Nat.reduceSub, List.replicate_succ, List.replicate_zero, ↓reduceIte, Bool.false_eq_true, Bool.not_true, Bool.not_false, decide_true, decide_false, if_true, if_false])
theorem c_by : K69.f_rows_by_name = DL.f_rows_by_name := rfl
theorem dR_eD (rs : List Rw) : dR rs = .dict (eD rs) := rfl
theorem byN_eq {rs : List Rw} (h : RsOk rs) : fN_rows_by_name [TR rs] = some (eD rs) := by
  have sb := sizeBig
  have hl := h.ln
  have e : ∀ δ : Dk, kFor (mItems (mVar 0)) [1] (gSet 1) mYes (kOne (mBin subD' (mVar 1) (mC (.int 0))) (mVar 1)) [.val (TR rs), .no] δ = some (rs.flatMap (fun r => [(Sum.inr r.nm, er r)]), δ) := fun δ =>
    compK_flat er (fun r => [(Sum.inr r.nm, er r)]) δ rs fun r hr => ⟨[.val (TR rs), .val (er r)], rfl, rfl⟩
  show ((kFor _ _ _ _ _ [.val (TR rs), .no] ⟨[], 0, [], none⟩).bind fun q => if q.1.length ≤ sizeLine then some ((PD.putAll [] q.1).map fun e => (keyD e.1, e.2), q.2) else none).map (·.1) = _
  rw [e, show rs.flatMap (fun r => [((Sum.inr r.nm : Key), er r)]) = rs.map fun r => (Sum.inr r.nm, er r) from (List.map_eq_flatMap ..).symm]
  show (if (rs.map fun r => ((Sum.inr r.nm : Key), er r)).length ≤ sizeLine then some ((PD.putAll [] (rs.map fun r => ((Sum.inr r.nm : Key), er r))).map fun e => (keyD e.1, e.2), (⟨[], 0, [], none⟩ : Dk)) else none).map (·.1) = _
  rw [if_pos (by rw [List.length_map]; omega)]
  rw [putAll_new _ [] ?_, List.nil_append, List.map_map]
  · rfl
  · rw [List.nil_append, List.map_map]
    have := h.nd
    exact List.Pairwise.of_map (S := fun a b : Str => a ≠ b) (fun k => match k with | Sum.inr s => s | Sum.inl _ => (default : Str)) (fun a b hab z => hab (by rw [z])) (by rw [List.map_map]; exact this)
def rest (A : List Rw) (gs : List Str) : List Rw := A.filter fun r => decide (r.nm ∉ gs)
def allR (A : List Rw) (gs : List Str) (C : List Rw) : List Rw := mergeR (rest A gs) C
def ledL (A : List Rw) (gs : List Str) (C : List Rw) : List Rw := (srt (nms (allR A gs C))).filterMap (look (allR A gs C))
theorem nd_rest {A : List Rw} (h : (nms A).Nodup) (gs : List Str) : (nms (rest A gs)).Nodup := (List.Sublist.map _ List.filter_sublist).nodup h
theorem len_merge : ∀ (cs rs : List Rw), (mergeR rs cs).length ≤ rs.length + cs.length
  | [], rs => by simp [mergeR]
  | c :: cs, rs => by
    have h1 := len_merge cs (putR rs c)
    have h2 : (putR rs c).length ≤ rs.length + 1 := by unfold putR; split <;> simp
    show (mergeR (putR rs c) cs).length ≤ _
    rw [List.length_cons]
    omega
theorem in_strs {x : Str} {xs : List Str} (hx : PyData.strOk x = true) (h : ∀ y ∈ xs, PyData.strOk y = true) : inD true (.str x) (.list (xs.map .str)) = some (.bool (decide (x ∉ xs))) := by
  have s1 := (Sh.str hx).ok (by decide)
  have s2 := (Sh.lst (k := 0) (ds := xs.map .str) fun d hd => by
    obtain ⟨y, hy, rfl⟩ := List.mem_map.mp hd
    exact Sh.str (h y hy)).ok (by decide)
  have e : inL true (.str x) (.list (xs.map .str)) = some (.bool (decide (x ∉ xs))) := by
    show (if (SeqAt.shaped (.str x) && SeqAt.shaped (.list (xs.map .str))) = true then some (PyData.bool (true ^^ (xs.map PyData.str).any fun z => PyData.eqv z (.str x))) else none) = _
    rw [s1, s2]
    show some (PyData.bool (true ^^ (xs.map PyData.str).any fun z => PyData.eqv z (.str x))) = _
    congr 2
    rw [Bool.true_xor, decide_not, List.any_map]
    congr 1
    rw [Bool.eq_iff_iff, List.any_eq_true, decide_eq_true_eq]
    simp [PyData.eqv]
  show ((inL true (.str x) (.list (xs.map .str))).orElse fun _ => _) = _
  rw [e]
  rfl
theorem told (A : List Rw) (gs : List Str) (C : List Rw) : tupD [.list ((srt (nms (allR A gs C))).map fun x => (look (allR A gs C) x).elim PyData.none er)] = some (TR (ledL A gs C)) := by
  show some (PyData.tuple _) = some (PyData.tuple _)
  congr 2
  unfold ledL
  have : ∀ l : List Str, (∀ x ∈ l, x ∈ nms (allR A gs C)) → l.map (fun x => (look (allR A gs C) x).elim PyData.none er) = (l.filterMap (look (allR A gs C))).map er := fun l => by
    induction l with
    | nil => exact fun _ => rfl
    | cons x l ih =>
      intro h
      obtain ⟨r, hr, _⟩ := look_mem (h x (.head _))
      rw [List.map_cons, List.filterMap_cons, hr, ih fun y hy => h y (.tail _ hy)]
      rfl
  exact this _ fun x hx => (srt_perm _).mem_iff.mp hx
theorem led_eq {A C : List Rw} {gs : List Str} (hA : RsOk A) (hC : RsOk C) (hgn : gs.Nodup) : f_led [TR A, .tuple [.tuple (gs.map .str), TR C]] = some (if (∀ x ∈ gs, x ∈ nms A) then some (TR (ledL A gs C)) else none) := by
  have sb := sizeBig
  have la := hA.ln
  have lc := hC.ln
  have lr : (rest A gs).length ≤ A.length := List.length_filter_le ..
  have lm := len_merge C (rest A gs)
  have : ∃ z, f_led [TR A, .tuple [.tuple (gs.map .str), TR C]] = some z ∧ z = (if (∀ x ∈ gs, x ∈ nms A) then some (TR (ledL A gs C)) else none) := by
    refine wr_fnR ?_
    unfold m_led
    refine wr_seq (wr_lift ?_)
    walk_at "lx"
    refine wr_seq (wr_lift (ws_ownC ?_))
    walk_at "lx"
    refine ⟨eD A, byN_eq hA, by simp, ?_⟩
    refine wr_seq (wr_for ?_)
    walk_at "lx"
    refine wr_forI (fun left ρ δ => ∃ (done l : List Str) (t5 : Sl), (t5 = .no ∨ ∃ d, t5 = .val d) ∧ done ++ l = gs ∧ (∀ x ∈ done, x ∈ nms A) ∧ left = l.map .str ∧ ρ = [.val (TR A), .val (.tuple [.tuple (gs.map .str), TR C]), .val (.tuple (gs.map .str)), .val (TR C), .dic (eD (rest A done)), t5]) (fun d left ρ δ hI => ?_) (fun ρ δ hI => ?_) _ _ _ ⟨[], gs, .no, .inl rfl, rfl, by simp, rfl, ?_⟩
    · obtain ⟨done, l, t5, ht5, e1, hd, e2, rfl⟩ := hI
      match l, e2 with
      | x :: l, e2 =>
        rw [List.map_cons, List.cons.injEq] at e2
        obtain ⟨rfl, rfl⟩ := e2
        have h2 : x ∉ done := fun z => by
          rw [← e1] at hgn
          exact (List.nodup_append.mp hgn).2.2 x z x (.head _) rfl
        rw [wg_set]
        simp only [List.set_cons_zero, List.set_cons_succ]
        refine wr_seq (wr_if (wt_inO rfl ?_))
        walk_at "lx"
        refine ⟨.inr x, rfl, ?_⟩
        by_cases h1 : x ∈ nms A
        · have hx : x ∈ nms (rest A done) := by
            obtain ⟨r, hr, e⟩ := List.mem_map.mp h1
            exact List.mem_map.mpr ⟨r, List.mem_filter.mpr ⟨hr, decide_eq_true (by rw [e]; exact h2)⟩, e⟩
          have hs : (lookD (eD (rest A done)) (keyD (.inr x))).isSome = true := by
            obtain ⟨r, hr, _⟩ := look_mem hx
            show (lookD (eD (rest A done)) (.str x)).isSome = true
            rw [look_eD, hr]
            rfl
          rw [hs, if_neg (by decide)]
          refine wr_lift ?_
          walk_at "lx"
          refine wr_lift (ws_delD rfl ?_)
          walk_at "lx"
          refine ⟨.inr x, rfl, hs, done ++ [x], l, .val (.str x), .inr ⟨_, rfl⟩, by rw [← e1]; simp, fun y hy => ?_, rfl, ?_⟩
          · rcases List.mem_append.mp hy with hy | hy
            · exact hd y hy
            · rw [List.mem_singleton.mp hy]; exact h1
          rw [drop_eD]
          have : (rest A done).filter (fun r => decide (r.nm ≠ x)) = rest A (done ++ [x]) := by
            unfold rest
            rw [List.filter_filter]
            refine List.filter_congr fun r _ => ?_
            rw [Bool.eq_iff_iff]
            simp [and_comm]
          rw [this]
        · have hx : x ∉ nms (rest A done) := fun z => by
            obtain ⟨r, hr, e⟩ := List.mem_map.mp z
            exact h1 (List.mem_map.mpr ⟨r, (List.mem_filter.mp hr).1, e⟩)
          have hs : (lookD (eD (rest A done)) (keyD (.inr x))).isSome = false := by
            show (lookD (eD (rest A done)) (.str x)).isSome = false
            rw [look_eD, look_none.mpr hx]
            rfl
          rw [hs, if_pos (by decide)]
          refine wr_raise ?_
          rw [if_neg (fun z => h1 (z x (by rw [← e1]; simp)))]
    · obtain ⟨done, l, t5, ht5, e1, hd, e2, rfl⟩ := hI
      have : l = [] := by simpa using e2
      subst this
      rw [List.append_nil] at e1
      subst e1
      rw [onNx_nx]
      rw [if_pos hd]
      refine wr_seq (wr_lift (ws_updD rfl ?_))
      walk_at "lx"
      refine .of (by rw [c_by]; exact by_name_eq hC) ⟨eD C, dR_eD C, by unfold eD; rw [List.length_map, List.length_map]; omega, ?_⟩
      rw [merge_eD]
      rw [show mergeR (rest A done) C = allR A done C from rfl]
      have ln : (nms (allR A done C)).length < 64 := by
        unfold nms
        rw [List.length_map]
        have : (allR A done C).length ≤ (rest A done).length + C.length := lm
        omega
      refine wr_lift ?_
      walk_at "lx"
      refine we_sortO rfl (keys_eD _) ln ?_
      refine ⟨_, rfl, by rcases ht5 with rfl | ⟨d, rfl⟩ <;> rfl, ?_⟩
      refine wc_map PyData.str (fun x => (look (allR A done C) x).elim .none er) (srt (nms (allR A done C))) (fun x hx => ?_) ?_
      · rw [wg_set]
        simp only [List.set_cons_zero, List.set_cons_succ]
        refine we_getO rfl ?_
        walk_at "lx"
        have hx' : x ∈ nms (allR A done C) := (srt_perm _).mem_iff.mp hx
        obtain ⟨r, hr, _⟩ := look_mem hx'
        refine ⟨.inr x, er r, rfl, ?_, ?_⟩
        · show lookD (eD (allR A done C)) (.str x) = _
          rw [look_eD, hr]
          rfl
        · rw [hr]
          rfl
      · refine ⟨by rw [List.length_map, (srt_perm _).length_eq]; omega, .of (z := TR (ledL A done C)) (told A done C) rfl⟩
    · have : rest A [] = A := List.filter_eq_self.mpr fun r _ => by simp
      rw [this]
  obtain ⟨z, e, rfl⟩ := this
  exact e
end K69
namespace K69
open PySem PySem.Spec PyProof.Rows L2 TL PD MT DL
local macro_rules | `(tactic| walk_at "lx") => `(tactic| simp only [wl_gen, wl_seq, wl_app, wl_at, wl_for, ws_hid, we_lenU, we_ixU, ws_setU, ws_asgX, ws_retX, ws_uniS, wx_binL, we_lcKeys, wx_pop, wx_bin, ws_asg, ws_ret, ws_if, ws_next, ws_uni, ws_app, ws_frz, ws_aug, ws_for, onNx_nx, onNx_rt, onNx_bk, onNx_ct, onRt_rt, onRt_nx, we_var, we_c, we_bin, we_un, we_call, we_callK, wa_nil, wa_cons, we_tup, we_lst, wo_no, wo_some, we_sl, wt_b, wt_tru, wt_and, wt_or, wt_not, we_if, we_and, we_or, we_chain, we_get2, wp_nil, wp_cons, we_disp, wa_items, we_lc, wg_set, wg_tup, wg_lst, w_eqS, w_neS, wgs_nil, wgs_cons, List.getElem?_cons_zero, List.getElem?_cons_succ, Option.some.injEq, Sl.val.injEq, Sl.uni.injEq, exists_eq_left', exists_eq_left, List.set_cons_zero, List.set_cons_succ, true_and, and_true, List.length_cons, List.length_nil, List.map_cons, List.map_nil, PyData.int.injEq, PyData.bool.injEq, PyData.tuple.injEq, PyData.list.injEq, PyData.str.injEq, w_add, w_sub, w_lt, w_le, w_gt, w_ge, w_eqI, w_neI, w_intB, itemsD, truD, slots, wipeR, List.cons_append, List.nil_append, Nat.reduceAdd, Nat.reduceSub, List.replicate_succ, List.replicate_zero, ↓reduceIte, Bool.false_eq_true, Bool.not_true, Bool.not_false, decide_true, decide_false, if_true, if_false])
def pr (A : List Rw) (es : List (D × D)) (n : Int) : Ob := ⟨0, [("rows", .val (.dat (TR A))), ("tongues", .val (.dat (.dict es))), ("number", .val (.dat (.int n)))]⟩
theorem tupD_TR (A : List Rw) : tupD [TR A] = some (TR A) := by
  first | rfl | (unfold tupD TR; rfl)
variable {ω : Os} {k j : Nat} {A B : List Rw} {es fs : List (D × D)} {n m : Int}
theorem lk_rows : (pr A es n).fs.lookup ("rows" : Str) = some (.val (.dat (TR A))) := rfl
theorem lk_num : (pr A es n).fs.lookup ("number" : Str) = some (.val (.dat (.int n))) := rfl
theorem num_eq (h : ω.o[k]? = some (pr A es n)) : f_Program_its_number [.ob k] ω = some (.inr (.dat (.int n)), ω) :=
  fnO_of ⟨rfl, by decide⟩ (wq_ret (vo_fld (vo_ob (k := k) rfl ⟨_, _, h, rfl, lk_num, rfl, rfl⟩)))
theorem rows_eq (h : ω.o[k]? = some (pr A es n)) : f_Program_its_rows [.ob k] ω = some (.inr (.dat (TR A)), ω) :=
  fnO_of ⟨rfl, by decide⟩ (wq_ret (vo_fld (vo_ob (k := k) rfl ⟨_, _, h, rfl, lk_rows, rfl, rfl⟩)))
theorem len_eq (h : ω.o[k]? = some (pr A es n)) (hl : A.length ≤ 100) : f_Program___len__ [.ob k] ω = some (.inr (.dat (.int A.length)), ω) :=
  fnO_of ⟨rfl, by decide⟩ (wq_ret (vo_cb (voa_cons (vo_fld (vo_ob (k := k) rfl ⟨_, _, h, rfl, lk_rows, voa_nil ⟨_, _, rfl, (by
    have : lenD [TR A] = some (.int ((A.map er).length : Int)) := by first | rfl | (unfold lenD TR; rfl)
    rw [this, List.length_map]), rfl, rfl⟩⟩)))))
theorem init_eq (h : ω.o[k]? = some ⟨0, []⟩) : f_Program___init__ [.ob k, .dat (TR A), .dat (.dict es)] ω = some (.inr (.dat .none), ω.put k (pr A es 0)) := by
  refine fnO_of ⟨rfl, by decide⟩ ?_
  show WQ m_Program___init__ [.ob k, .val (TR A), .val (.dict es)] δ0 ω _
  refine wq_seq (wq_setF (vo_lift ?_))
  walk_at "lx"
  refine .of (tupD_TR A) ?_
  refine vo_ob (k := k) rfl ⟨_, h, ⟨rfl, by decide⟩, ?_⟩
  rw [onQ_nx]
  refine wq_seq (wq_setF (vo_lift ?_))
  walk_at "lx"
  refine .of (show dictCD [.dict es] = some (.dict es) from rfl) ?_
  refine vo_ob (k := k) rfl ⟨_, put_at h, ⟨rfl, show 1 < 1000 by decide⟩, ?_⟩
  rw [onQ_nx, put_put]
  refine wq_setF (vo_lift ?_)
  walk_at "lx"
  refine vo_ob (k := k) rfl ⟨_, put_at h, ⟨rfl, show 2 < 1000 by decide⟩, ?_⟩
  first | (rw [put_put]; exact ⟨rfl, rfl⟩) | (rw [put_put]; rfl) | (refine ⟨rfl, ?_⟩; rw [put_put]; rfl)
theorem sh_TR (h : ∀ r ∈ A, NmOk r.nm) : Sh 10 (TR A) := by
  refine Sh.tup (k := 9) fun d hd => ?_
  obtain ⟨r, hr, rfl⟩ := List.mem_map.mp hd
  exact sh_er (h r hr)
theorem eqvAll_er : ∀ A B : List Rw, PyData.eqvAll (A.map er) (B.map er) = decide (A = B)
  | [], [] => rfl
  | [], _ :: _ => rfl
  | _ :: _, [] => rfl
  | a :: A, b :: B => by
    rw [List.map_cons, List.map_cons]
    unfold PyData.eqvAll
    rw [eqv_er, eqvAll_er A B, Bool.eq_iff_iff]
    simp
theorem eq_TR (hA : ∀ r ∈ A, NmOk r.nm) (hB : ∀ r ∈ B, NmOk r.nm) : eqD (TR A) (TR B) = some (.bool (decide (A = B))) := by
  rw [eqD_of (sh_TR hA) (sh_TR hB) (by decide) (by decide)]
  have : PyData.eqv (TR A) (TR B) = PyData.eqvAll (A.map er) (B.map er) := by
    unfold TR
    rw [PyData.eqv]
  rw [this, eqvAll_er]
theorem eqP (ha : ω.o[k]? = some (pr A es n)) (hb : ω.o[j]? = some (pr B fs m)) (hA : ∀ r ∈ A, NmOk r.nm) (hB : ∀ r ∈ B, NmOk r.nm) : f_Program___eq__ [.ob k, .ob j] ω = some (.inr (.dat (.bool (decide (A = B ∧ n = m)))), ω) := by
  refine fnO_of ⟨rfl, by decide⟩ ?_
  show WQ m_Program___eq__ [.ob k, .ob j] δ0 ω _
  refine wq_ret (vo_and (vo_isi (vo_ob (k := j) rfl ⟨.inr 0, true, by show (ω.o[j]?).map _ = _; rw [hb]; rfl, rfl, ?_⟩)))
  refine vo_and (vo_binW (vo_fld (vo_ob (k := k) rfl ⟨_, _, ha, rfl, lk_rows, vo_fld (vo_ob (k := j) rfl ⟨_, _, hb, rfl, lk_rows, _, eq_TR hA hB, ?_⟩)⟩)))
  by_cases h : A = B
  · rw [decide_eq_true h]
    refine id (vo_binW (vo_fld (vo_ob (k := k) rfl ⟨_, _, ha, rfl, lk_num, vo_fld (vo_ob (k := j) rfl ⟨_, _, hb, rfl, lk_num, _, eqD_int n m, ?_⟩)⟩)))
    exact ⟨by simp [h], rfl⟩
  · rw [decide_eq_false h]
    exact ⟨by simp [h], rfl⟩
theorem eqPd {d : D} (ha : ω.o[k]? = some (pr A es n)) (hd : tyD d = "tuple" ∨ tyD d = "int") : f_Program___eq__ [.ob k, .dat d] ω = some (.inr (.dat (.bool false)), ω) := by
  refine fnO_of ⟨rfl, by decide⟩ ?_
  show WQ m_Program___eq__ [.ob k, .val d] δ0 ω _
  refine wq_ret (vo_and (vo_isi (vo_val (d := d) rfl ⟨.inl (tyD d), false, rfl, ?_, rfl, rfl⟩)))
  rcases hd with h | h <;> rw [h] <;> rfl
theorem is_number_eq (i a b : Int) : f_is_number [.int i, .int a, .int b] = some (.bool (decide (a ≤ i) && decide (i ≤ b))) := by
  have : W1 (f_is_number [.int i, .int a, .int b]) fun z => z = .bool (decide (a ≤ i) && decide (i ≤ b)) := by
    refine w1_fnP ?_
    unfold m_is_number
    walk_at "lx"
    refine .of (z := .bool true) (by unfold isiD; show (kitB "int" "int").map _ = _; rw [show kitB "int" "int" = some true by decide +kernel]; rfl) ⟨true, rfl, ?_⟩
    rw [if_pos rfl]
    refine .of (z := .bool false) (by unfold isiD; show (kitB "int" "bool").map _ = _; rw [show kitB "int" "bool" = some false by decide +kernel]; rfl) (.of (z := .bool true) rfl ⟨true, rfl, ?_⟩)
    rw [if_pos rfl]
    by_cases h : a ≤ i
    · simp only [h, decide_true, if_true, Bool.true_and]
    · simp only [h, decide_false, Bool.false_eq_true, if_false, Bool.false_and]
  obtain ⟨z, e, rfl⟩ := this
  exact e
theorem isnum {i n : Int} : f_is_number [.int i, .int n, .int n] = some (.bool (decide (i = n))) := by
  rw [is_number_eq]
  congr 2
  rw [Bool.eq_iff_iff]
  simp
  omega
theorem take_ne {i : Int} {d : D} (h : ω.o[k]? = some (pr A es n)) (hn : i ≠ n) (hb : intOk (.int n) = true) : f_Program_take_delta [.ob k, .dat (.int i), .dat d] ω = some (.inl ⟨1, [.int n]⟩, ω) := by
  refine fnO_of ⟨rfl, by decide⟩ ?_
  show WQ m_Program_take_delta [.ob k, .val (.int i), .val d] δ0 ω _
  refine wq_seq (wq_if (vot_not (vot_tru (vo_cb (voa_cons (vo_lift ?_))))))
  walk_at "lx"
  refine voa_cons (vo_fld (vo_ob (k := k) rfl ⟨_, _, h, rfl, lk_num, voa_cons (vo_fld (vo_ob (k := k) rfl ⟨_, _, h, rfl, lk_num, voa_nil ⟨_, _, rfl, isnum, false, by rw [decide_eq_false hn]; first | done | rfl, ?_⟩⟩))⟩))
  show WQ (qRaise 1 1 _) _ _ _ _
  refine wq_raise (voa_cons (vo_fld (vo_ob (k := k) rfl ⟨_, _, h, rfl, lk_num, voa_nil ⟨_, rfl, ⟨rfl, by simp [hb]⟩, ?_⟩⟩)))
  exact ⟨rfl, rfl⟩
theorem take_bad {d : D} (h : ω.o[k]? = some (pr A es n)) (hl : f_led [TR A, d] = some none) : f_Program_take_delta [.ob k, .dat (.int n), .dat d] ω = some (.inl ⟨0, []⟩, ω) := by
  refine fnO_of ⟨rfl, by decide⟩ ?_
  show WQ m_Program_take_delta [.ob k, .val (.int n), .val d] δ0 ω _
  refine wq_seq (wq_if (vot_not (vot_tru (vo_cb (voa_cons (vo_lift ?_))))))
  walk_at "lx"
  refine voa_cons (vo_fld (vo_ob (k := k) rfl ⟨_, _, h, rfl, lk_num, voa_cons (vo_fld (vo_ob (k := k) rfl ⟨_, _, h, rfl, lk_num, voa_nil ⟨_, _, rfl, isnum, true, by rw [decide_eq_true rfl]; first | done | rfl, ?_⟩⟩))⟩))
  show WQ qNext _ _ _ _
  refine wq_next ?_
  rw [onQ_nx]
  refine wq_seq (wq_setF (vo_callV (voa_cons (vo_fld (vo_ob (k := k) rfl ⟨_, _, h, rfl, lk_rows, voa_lift ?_⟩)))))
  walk_at "lx"
  refine ⟨_, rfl, ?_⟩
  rw [show fV_led [TR A, d] = some (.inl ⟨0, []⟩) from by unfold fV_led rV; rw [hl]; rfl]
  exact ⟨rfl, rfl⟩
theorem take_ok {d : D} {B : List Rw} (h : ω.o[k]? = some (pr A es n)) (hl : f_led [TR A, d] = some (some (TR B))) : f_Program_take_delta [.ob k, .dat (.int n), .dat d] ω = some (.inr (.dat .none), ω.put k (pr B es (n + 1))) := by
  refine fnO_of ⟨rfl, by decide⟩ ?_
  show WQ m_Program_take_delta [.ob k, .val (.int n), .val d] δ0 ω _
  refine wq_seq (wq_if (vot_not (vot_tru (vo_cb (voa_cons (vo_lift ?_))))))
  walk_at "lx"
  refine voa_cons (vo_fld (vo_ob (k := k) rfl ⟨_, _, h, rfl, lk_num, voa_cons (vo_fld (vo_ob (k := k) rfl ⟨_, _, h, rfl, lk_num, voa_nil ⟨_, _, rfl, isnum, true, by rw [decide_eq_true rfl]; first | done | rfl, ?_⟩⟩))⟩))
  show WQ qNext _ _ _ _
  refine wq_next ?_
  rw [onQ_nx]
  refine wq_seq (wq_setF (vo_callV (voa_cons (vo_fld (vo_ob (k := k) rfl ⟨_, _, h, rfl, lk_rows, voa_lift ?_⟩)))))
  walk_at "lx"
  refine ⟨_, rfl, ?_⟩
  rw [show fV_led [TR A, d] = some (.inr (TR B)) from by unfold fV_led rV; rw [hl]; rfl]
  refine vo_ob (k := k) rfl ⟨_, h, ⟨rfl, show 3 < 1000 by decide⟩, ?_⟩
  rw [onQ_nx]
  refine wq_augF (vo_ob (k := k) rfl ⟨_, n, put_at h, ⟨rfl, show 3 < 1000 by decide⟩, rfl, ?_⟩)
  walk_at "lx"
  rw [put_put]
  rfl
end K69
namespace K69
open PySem PySem.Spec PyProof.Rows L2 TL PD MT DL
local macro_rules | `(tactic| walk_at "lx") => `(tactic| simp only [wl_gen, wl_seq, wl_app, wl_at, wl_for, ws_hid, we_lenU, we_ixU, ws_setU, ws_asgX, ws_retX, ws_uniS, wx_binL, we_lcKeys, wx_pop, wx_bin, ws_asg, ws_ret, ws_if, ws_next, ws_uni, ws_app, ws_frz, ws_aug, ws_for, onNx_nx, onNx_rt, onNx_bk, onNx_ct, onRt_rt, onRt_nx, we_var, we_c, we_bin, we_un, we_call, we_callK, wa_nil, wa_cons, we_tup, we_lst, wo_no, wo_some, we_sl, wt_b, wt_tru, wt_and, wt_or, wt_not, we_if, we_and, we_or, we_chain, we_get2, wp_nil, wp_cons, we_disp, wa_items, we_lc, wg_set, wg_tup, wg_lst, w_eqS, w_neS, wgs_nil, wgs_cons, List.getElem?_cons_zero, List.getElem?_cons_succ, Option.some.injEq, Sl.val.injEq, Sl.uni.injEq, exists_eq_left', exists_eq_left, List.set_cons_zero, List.set_cons_succ, true_and, and_true, List.length_cons, List.length_nil, List.map_cons, List.map_nil, PyData.int.injEq, PyData.bool.injEq, PyData.tuple.injEq, PyData.list.injEq, PyData.str.injEq, w_add, w_sub, w_lt, w_le, w_gt, w_ge, w_eqI, w_neI, w_intB, itemsD, truD, slots, wipeR, List.cons_append, List.nil_append, Nat.reduceAdd, Nat.reduceSub, List.replicate_succ, List.replicate_zero, ↓reduceIte, Bool.false_eq_true, Bool.not_true, Bool.not_false, decide_true, decide_false, if_true, if_false])
theorem c_names : K69.f_l_names = DL.f_l_names := rfl
theorem c_list : K69.f_l_list = DL.f_l_list := rfl
theorem c_turned : K69.f_l_turned = DL.f_l_turned := rfl
theorem c_delta : K69.f_delta = DL.f_delta := rfl
theorem k_nx : K69.f_l_next = fNext DL.mixA := rfl
theorem forms_wp {b : Nat} {δ : Dk} {P : D → Dk → Prop} (hD : DkOk b δ) (hb : b ≤ 100000) (p : ∀ d δ', DkOk (b + 41) δ' → P d δ') : WK f_l_forms [] δ P := by
  have sb := sizeBig
  have z0 : (0 : Nat) ≤ sizeLine := Nat.zero_le _
  have z1 : (1 : Nat) ≤ sizeLine := by omega
  have z2 : (2 : Nat) ≤ sizeLine := by omega
  have z3 : (3 : Nat) ≤ sizeLine := by omega
  have z4 : (4 : Nat) ≤ sizeLine := by omega
  have z5 : (5 : Nat) ≤ sizeLine := by omega
  refine wk_fnK ?_
  unfold m_l_forms
  rw [c_names, k_nx, ws_seq]
  walk_at "lx"
  refine names_wp (k := 3) hD (by omega) (by decide) fun ns δ1 hl _ h1 => ?_
  match ns, hl with
  | [n1, n2, n3], _ =>
  walk_at "lx"
  rw [ws_seq]
  walk_at "lx"
  refine next_wp h1 (by omega) (by decide) (by decide) fun r δ2 r0 r1 h2 => ?_
  have fin := fun d => p d δ2 h2
  rw [ws_seq]
  walk_at "lx"
  by_cases hr : r = 0
  · rw [decide_eq_true hr, if_pos rfl]
    simp only [z0, z1, z2, true_and]
    exact fin _
  · rw [decide_eq_false hr, if_neg Bool.false_ne_true]
    rw [ws_seq]
    walk_at "lx"
    by_cases hr3 : r < 3
    · rw [decide_eq_true hr3, if_pos rfl]
      rw [ws_seq]
      walk_at "lx"
      simp only [z0, z1, z2, z3, z4, z5, true_and]
      have : r = 1 ∨ r = 2 := by omega
      rcases this with rfl | rfl
      all_goals
        exact .of rfl (.of (addD_tup z5) (.of (addD_tup z5) (fin _)))
    · rw [decide_eq_false hr3, if_neg Bool.false_ne_true]
      rw [ws_seq]
      walk_at "lx"
      simp only [z0, z1, z2, z3, z4, z5, true_and]
      refine ⟨rfl, ?_⟩
      refine wc_map (fun q : Int × Int => PyData.tuple [.int q.1, .int q.2]) (fun q => PyData.tuple [.str "whole", .int 10, .int q.1, .int q.2, .bool true]) [(1, 1), (2, 4), (5, 9), (0, 0)] (fun q _ => ?_) ?_
      · walk_at "lx"
        first | exact z5 | exact ⟨rfl, rfl⟩ | exact ⟨z5, rfl, rfl⟩
      · exact ⟨z4, .of rfl (.of rfl (.of rfl (.of rfl (fin _))))⟩
theorem tongue_wp {b : Nat} {δ : Dk} {P : D → Dk → Prop} (hD : DkOk b δ) (hb : b ≤ 99000) (p : ∀ d δ', DkOk (b + 44) δ' → P d δ') : WK f_l_tongue [] δ P := by
  have sb := sizeBig
  have z0 : (0 : Nat) ≤ sizeLine := Nat.zero_le _
  have z1 : (1 : Nat) ≤ sizeLine := by omega
  have z2 : (2 : Nat) ≤ sizeLine := by omega
  have z3 : (3 : Nat) ≤ sizeLine := by omega
  have z4 : (4 : Nat) ≤ sizeLine := by omega
  refine wk_fnK ?_
  unfold m_l_tongue
  rw [k_nx, ws_seq]
  walk_at "lx"
  simp only [z0, z1, z2, z3, z4, true_and]
  refine next_wp hD (by omega) (by decide) (by decide) fun r δ1 r0 r1 h1 => ?_
  obtain ⟨pt, e1, hpt⟩ : ∃ pt : Str, subD' (.list [PyData.str (Str.ofString "."), .str (Str.ofString ","), .str (Str.ofString "'")]) (.int r) = some (.str pt) ∧ (pt = "." ∨ pt = "," ∨ pt = "'") := by
    have : r = 0 ∨ r = 1 ∨ r = 2 := by omega
    rcases this with rfl | rfl | rfl
    · exact ⟨_, rfl, .inl rfl⟩
    · exact ⟨_, rfl, .inr (.inl rfl)⟩
    · exact ⟨_, rfl, .inr (.inr rfl)⟩
  refine .of e1 ?_
  have hp : PyData.strOk pt = true := by rcases hpt with rfl | rfl | rfl <;> decide +kernel
  have hg : ∀ x ∈ [Str.ofString "", Str.ofString ",", Str.ofString ".", Str.ofString "_"], PyData.strOk x = true := by
    intro x hx
    simp only [List.mem_cons, List.not_mem_nil, or_false] at hx
    rcases hx with rfl | rfl | rfl | rfl <;> decide +kernel
  rw [ws_seq]
  walk_at "lx"
  simp only [z0, z1, z2, z3, z4, true_and]
  refine ⟨rfl, ?_⟩
  refine wc_filter (fun x : Str => PyData.str x) (fun x => !decide (x = pt)) (fun x => .str x) [Str.ofString "", Str.ofString ",", Str.ofString ".", Str.ofString "_"] (fun x hx => ?_) ?_
  · walk_at "lx"
    refine .of (z := .bool (!decide (x = pt))) ?_ ?_
    · rw [neD_of (Sh.str (hg x hx)) (Sh.str hp) (by decide) (by decide)]
      congr 2
    · first | exact ⟨_, rfl, ⟨rfl, rfl⟩, fun _ => rfl⟩ | simp
  · obtain ⟨q, hq, hl0, hl⟩ : ∃ q : List Str, ([Str.ofString "", Str.ofString ",", Str.ofString ".", Str.ofString "_"].filter fun x => !decide (x = pt)) = q ∧ 3 ≤ q.length ∧ q.length ≤ 4 := by
      rcases hpt with rfl | rfl | rfl <;> exact ⟨_, rfl, by decide +kernel⟩
    rw [hq]
    have hl' : (q.map fun x => PyData.str x).length ≤ sizeLine := by rw [List.length_map]; omega
    refine ⟨hl', ?_⟩
    refine next_wp h1 (by omega) (by decide) (by decide) fun r2 δ2 s0 s1 h2 => ?_
    refine w_ixL s0 (by rw [List.length_map]; omega) fun d _ => ?_
    rw [ws_seq]
    walk_at "lx"
    simp only [z0, z1, z2, z3, z4, true_and]
    refine next_wp h2 (by omega) (by decide) (by decide) fun r3 δ3 u0 u1 h3 => ?_
    refine w_ixL u0 (by simpa using u1) fun d2 _ => ?_
    refine forms_wp h3 (by omega) fun d3 δ4 h4 => ?_
    exact p _ _ (h4.mono (by omega))
theorem pairs_app {x : Str} {d : D} : ∀ {out : List D} {ps : List (Key × D)}, pairsE out = some ps → pairsE (out ++ [.tuple [.str x, d]]) = some (ps ++ [(.inr x, d)])
  | [], ps, h => by cases h; rfl
  | o :: out, ps, h => by
    unfold pairsE at h
    obtain ⟨q, e1, h⟩ := Option.bind_eq_some_iff.mp h
    obtain ⟨qs, e2, h⟩ := Option.map_eq_some_iff.mp h
    cases h
    rw [List.cons_append]
    unfold pairsE
    rw [e1, Option.bind_some, pairs_app e2]
    rfl
theorem some_wp {b : Nat} {δ : Dk} {P : D → Dk → Prop} (hD : DkOk b δ) (hb : b ≤ 90000) (p : ∀ es δ', DkOk (b + 150) δ' → P (.dict es) δ') : WK f_l_some_tongues [] δ P := by
  have sb := sizeBig
  have z3 : (3 : Nat) ≤ sizeLine := by omega
  have z2 : (2 : Nat) ≤ sizeLine := by omega
  refine wk_fnK ?_
  unfold m_l_some_tongues
  walk_at "lx"
  simp only [z2, z3, true_and]
  refine ⟨rfl, ?_⟩
  have st := wc_inv (g := gSet 1) (tt := mYes) (te := mTup (mCons (mVar 1) (mCons (mCallK 0 f_l_tongue mNil) mNil))) (ρ := [Sl.deck, Sl.no]) (P := fun out δ => ∃ ps : List (Key × D), pairsE out = some ps ∧ out.length ≤ 3 ∧ DkOk (b + 150) δ)
    (fun left out δ => ∃ ps : List (Key × D), (∀ d ∈ left, ∃ x : Str, d = .str x) ∧ pairsE out = some ps ∧ out.length + left.length = 3 ∧ DkOk (b + 44 * out.length) δ) (fun d left out δ hI => by
      obtain ⟨ps, hs, hp, hl, hD⟩ := hI
      obtain ⟨x, rfl⟩ := hs d (.head _)
      rw [List.length_cons] at hl
      rw [wg_set]
      simp only [List.set_cons_zero, List.set_cons_succ]
      walk_at "lx"
      refine ⟨true, _, rfl, ?_⟩
      show WK f_l_tongue [] δ _
      refine tongue_wp hD (by omega) fun d2 δ2 h2 => ⟨z2, ps ++ [(.inr x, d2)], fun d hd => hs d (.tail _ hd), pairs_app hp, ?_, ?_⟩
      · rw [List.length_append, List.length_singleton]; omega
      · rw [List.length_append, List.length_singleton]; exact h2.mono (by omega))
    (fun out δ hI => by
      obtain ⟨ps, _, hp, hl, hD⟩ := hI
      rw [List.length_nil] at hl
      exact ⟨ps, hp, by omega, hD.mono (by omega)⟩) [PyData.str (Str.ofString "en"), PyData.str (Str.ofString "de"), PyData.str (Str.ofString "fr")] [] _ ⟨[], by simp, rfl, rfl, hD.mono (by omega)⟩
  obtain ⟨out, δ3, eo, ps, hp, hl, h3⟩ := st
  rw [List.nil_append] at hp hl
  exact ⟨_, _, eo, by omega, .of (z := .dict ((putAll [] ps).map fun e => (keyD e.1, e.2))) (by unfold dictLD; simp only [hp, Option.map_some]) (p _ _ h3)⟩
end K69
namespace K69
open PySem PySem.Spec PyProof.Rows L2 TL PD MT DL NC
local macro_rules | `(tactic| walk_at "lx") => `(tactic| simp only [wl_gen, wl_seq, wl_app, wl_at, wl_for, ws_hid, we_lenU, we_ixU, ws_setU, ws_asgX, ws_retX, ws_uniS, wx_binL, we_lcKeys, wx_pop, wx_bin, ws_asg, ws_ret, ws_if, ws_next, ws_uni, ws_app, ws_frz, ws_aug, ws_for, onNx_nx, onNx_rt, onNx_bk, onNx_ct, onRt_rt, onRt_nx, we_var, we_c, we_bin, we_un, we_call, we_callK, wa_nil, wa_cons, we_tup, we_lst, wo_no, wo_some, we_sl, wt_b, wt_tru, wt_and, wt_or, wt_not, we_if, we_and, we_or, we_chain, we_get2, wp_nil, wp_cons, we_disp, wa_items, we_lc, wg_set, wg_tup, wg_lst, w_eqS, w_neS, wgs_nil, wgs_cons, List.getElem?_cons_zero, List.getElem?_cons_succ, Option.some.injEq, Sl.val.injEq, Sl.uni.injEq, exists_eq_left', exists_eq_left, List.set_cons_zero, List.set_cons_succ, true_and, and_true, List.length_cons, List.length_nil, List.map_cons, List.map_nil, PyData.int.injEq, PyData.bool.injEq, PyData.tuple.injEq, PyData.list.injEq, PyData.str.injEq, w_add, w_sub, w_lt, w_le, w_gt, w_ge, w_eqI, w_neI, w_intB, itemsD, truD, slots, wipeR, List.cons_append, List.nil_append, Nat.reduceAdd, Nat.reduceSub, List.replicate_succ, List.replicate_zero, ↓reduceIte, Bool.false_eq_true, Bool.not_true, Bool.not_false, decide_true, decide_false, if_true, if_false])
theorem mem_merge {r : Rw} : ∀ {cs rs : List Rw}, r ∈ mergeR rs cs → r ∈ rs ∨ r ∈ cs
  | [], rs, h => .inl h
  | c :: cs, rs, h => by
    rcases mem_merge (cs := cs) (rs := putR rs c) h with h | h
    · unfold putR at h
      split at h
      · obtain ⟨q, hq, e⟩ := List.mem_map.mp h
        split at e
        · exact .inr (by rw [← e]; exact .head _)
        · exact .inl (e ▸ hq)
      · rcases List.mem_append.mp h with h | h
        · exact .inl h
        · exact .inr (by rw [List.mem_singleton.mp h]; exact .head _)
    · exact .inr (.tail _ h)
theorem led_nm {A C : List Rw} {gs : List Str} (hA : RsOk A) (hC : RsOk C) : ∀ r ∈ ledL A gs C, NmOk r.nm := fun r hr => by
  obtain ⟨x, _, e⟩ := List.mem_filterMap.mp hr
  rcases mem_merge (look_nm e).2 with h | h
  · exact hA.nm r (List.mem_filter.mp h).1
  · exact hC.nm r h
theorem repr_TR {X : List Rw} (h : ∀ r ∈ X, NmOk r.nm) (hl : X.length ≤ 16) : reprD [TR X] = some (.str (TR X).shown) := by
  refine repr_of (m := 10) (k := 66000) (Sw.mono (Sw.tup (m := 9) (k := 4100) (ds := X.map er) fun d hd => ?_) (by decide) ?_)
  · obtain ⟨r, hr, rfl⟩ := List.mem_map.mp hd
    exact sw_er (h r hr)
  · rw [List.length_map]
    have : (4100 + 2) * X.length ≤ 4102 * 16 := Nat.mul_le_mul (Nat.le_refl _) hl
    omega
theorem pick_wp {b : Nat} {m : Int} {a0 a2 a3 a4 a5 a6 a7 a8 a9 a11 a12 a13 a14 a15 a16 a17 : Sl} {δ : Dk} {xs : List Str} {P : List D → Dk → Prop} (hD : DkOk b δ) (hl : xs.length ≤ 8) (hb : b ≤ 1000000) (m0 : 0 < m) (m1 : m ≤ 100) (p : ∀ (ys : List Str) δ', ys.Sublist xs → DkOk (b + 8) δ' → P (ys.map .str) δ') :
    WC (gSet 10) (mB (mBin eqD (mCallK 1 (fNext mixA) (mCons (mC (.int m)) mNil)) (mC (.int 0)))) (mVar 10) [a0, .deck, a2, a3, a4, a5, a6, a7, a8, a9, .no, a11, a12, a13, a14, a15, a16, a17] (xs.map .str) δ P := by
  have st := wc_inv (g := gSet 10) (tt := mB (mBin eqD (mCallK 1 (fNext mixA) (mCons (mC (.int m)) mNil)) (mC (.int 0)))) (te := mVar 10) (ρ := [a0, .deck, a2, a3, a4, a5, a6, a7, a8, a9, .no, a11, a12, a13, a14, a15, a16, a17]) (P := fun out δ => ∃ gs : List Str, out = gs.map .str ∧ gs.Sublist xs ∧ DkOk (b + 8) δ)
      (fun left out δ => ∃ (done l gs : List Str), done ++ l = xs ∧ left = l.map .str ∧ out = gs.map .str ∧ gs.Sublist done ∧ DkOk (b + done.length) δ) (fun d left out δ hI => by
        obtain ⟨done, l, gs, e1, e2, rfl, hs, hD2⟩ := hI
        match l, e2 with
        | w :: l, e2 =>
          rw [List.map_cons, List.cons.injEq] at e2
          obtain ⟨rfl, rfl⟩ := e2
          have hdl := congrArg List.length e1
          rw [List.length_append, List.length_cons] at hdl
          rw [wg_set]
          simp only [List.set_cons_zero, List.set_cons_succ]
          walk_at "lx"
          refine next_wp hD2 (by omega) m0 (by omega) fun r δ1 r0 r1 h1 => ?_
          walk_at "lx"
          by_cases hr : r = 0
          · rw [decide_eq_true hr, if_pos rfl]
            exact ⟨done ++ [w], l, gs ++ [w], by rw [← e1]; simp, rfl, by rw [List.map_append]; rfl, hs.append (List.Sublist.refl _), h1.mono (by simp; omega)⟩
          · rw [decide_eq_false hr, if_neg Bool.false_ne_true]
            exact ⟨done ++ [w], l, gs, by rw [← e1]; simp, rfl, rfl, hs.trans (List.sublist_append_left _ _), h1.mono (by simp; omega)⟩)
      (fun out δ hI => by
        obtain ⟨done, l, gs, e1, e2, rfl, hs, hD2⟩ := hI
        have : l = [] := by simpa using e2
        subst this
        rw [List.append_nil] at e1
        subst e1
        exact ⟨gs, rfl, hs, hD2.mono (by omega)⟩) (xs.map .str) [] _ ⟨[], xs, [], rfl, rfl, rfl, List.Sublist.refl _, hD.mono (by simp)⟩
  obtain ⟨out, δ3, eo, gs, egs, hgs, h3⟩ := st
  rw [List.nil_append] at egs
  subst egs
  exact ⟨_, _, eo, p gs δ3 hgs h3⟩
theorem ix1T (a b : D) : subD' (.tuple [a, b]) (.int 1) = some b := by
  first | rfl | exact ix_tup _ _ rfl
theorem intB (n : Int) (h0 : 0 ≤ n) (h1 : n ≤ 100) : intOk (.int n) = true := by
  unfold intOk
  refine decide_eq_true ?_
  by_cases hz : n.natAbs = 0
  · rw [hz]; decide
  · have : n.natAbs.log2 < 7 := (Nat.log2_lt hz).mpr (by omega)
    omega
theorem eq_nil {xs : List Str} (h : ∀ x ∈ xs, PyData.strOk x = true) : eqD (.list (xs.map fun x => PyData.str x)) (.list []) = some (.bool (decide (xs = []))) := by
  rw [eqD_of (Sh.lst (k := 0) (ds := xs.map fun x => PyData.str x) fun d hd => by
    obtain ⟨y, hy, rfl⟩ := List.mem_map.mp hd
    exact Sh.str (h y hy)) (Sh.lst (k := 0) (ds := []) fun d hd => nomatch hd) (by decide) (by decide)]
  cases xs with
  | nil => rfl
  | cons x xs => rfl
structure St (ω : Os) (A R0 : List Rw) (es fs : List (D × D)) (n : Int) : Prop where
  a : ω.o[0]? = some (pr A es n)
  b : ω.o[1]? = some (pr R0 fs 0)
abbrev HL : List ((Nat → Bool) × (Xv → MSo)) := [(em_Behind, hAsg 16 15 (fun x : Xv => ((fun x : Xv => ((fun x : Xv => if xnL x.c = [("number" : Str)] then x.fs.head? else none) x).bind fun d => ((fun x : Xv => ((fun x : Xv => (k_HouseError x.c).map .bool) x).bind fun d => ((fun _ : Xv => some []) x).map fun ds => d :: ds) x).map fun ds => d :: ds) x).bind fun ds => if ds.length ≤ 100 then some (.tuple ds) else none)), (em_NoFit, hAsg 16 15 (fun x : Xv => (k_HouseError x.c).map .bool))]
theorem hd1 {n : Int} {ρ : List Sl} {δ : Dk} {ω : Os} {C : Rs FlO → List Sl → Dk → Os → Prop} (hl : ρ.length = 18) (c : C (.inr .nx) (((ρ.set 16 .no).set 15 (.val (.tuple [.int n, .bool true]))).set 16 .no) δ ω) : WQ (hdM HL ⟨1, [.int n]⟩) ρ δ ω C := by
  refine ⟨_, _, _, _, ?_, c⟩
  unfold HL hdM
  rw [if_pos (show em_Behind 1 = true from rfl)]
  dsimp only
  unfold hAsg
  rw [if_pos ⟨by decide, by omega, by omega⟩]
  dsimp only
  rw [if_pos (show xnL 1 = [("number" : Str)] from rfl)]
  rfl
theorem hd0 {ρ : List Sl} {δ : Dk} {ω : Os} {C : Rs FlO → List Sl → Dk → Os → Prop} (hl : ρ.length = 18) (c : C (.inr .nx) (((ρ.set 16 .no).set 15 (.val (.bool true))).set 16 .no) δ ω) : WQ (hdM HL ⟨0, []⟩) ρ δ ω C := by
  refine ⟨_, _, _, _, ?_, c⟩
  unfold HL hdM
  rw [if_neg (show ¬ (em_Behind 0 = true) from by decide)]
  unfold hdM
  rw [if_pos (show em_NoFit 0 = true from rfl)]
  dsimp only
  unfold hAsg
  rw [if_pos ⟨by decide, by omega, by omega⟩]
  rfl
theorem fm_sub (L : List Rw) : ∀ xs : List Str, (nms (xs.filterMap (look L))).Sublist xs
  | [] => .slnil
  | x :: xs => by
    rw [List.filterMap_cons]
    cases h : look L x with
    | none => exact (fm_sub L xs).cons x
    | some r =>
      show (r.nm :: nms (xs.filterMap (look L))).Sublist (x :: xs)
      rw [(look_nm h).1]
      exact (fm_sub L xs).cons_cons x
theorem led_nd {A C : List Rw} {gs : List Str} (hA : RsOk A) (hC : RsOk C) (hgn : gs.Nodup) : (nms (ledL A gs C)).Nodup :=
  (fm_sub _ _).nodup ((srt_perm _).symm.nodup (nd_merge C (nd_rest hA.nd gs)))
theorem led_ok {A C : List Rw} {gs nn : List Str} (hA : RsOk A) (hC : RsOk C) (hgn : gs.Nodup) (hn : nn.length = 8) (h1 : ∀ x ∈ nms A, x ∈ nn) (h2 : ∀ x ∈ nms C, x ∈ nn) : RsOk (ledL A gs C) ∧ ∀ x ∈ nms (ledL A gs C), x ∈ nn := by
  have hs : ∀ x ∈ nms (ledL A gs C), x ∈ nn := fun x hx => by
    obtain ⟨r, hr, rfl⟩ := List.mem_map.mp hx
    obtain ⟨y, _, e⟩ := List.mem_filterMap.mp hr
    rcases mem_merge (look_nm e).2 with h | h
    · exact h1 _ (List.mem_map.mpr ⟨r, (List.mem_filter.mp h).1, rfl⟩)
    · exact h2 _ (List.mem_map.mpr ⟨r, h, rfl⟩)
  refine ⟨⟨led_nm hA hC, led_nd hA hC hgn, ?_⟩, hs⟩
  have := (led_nd hA hC hgn).length_le_of_subset hs
  unfold nms at this
  rw [List.length_map] at this
  omega
theorem neS_same {x : Str} : neS (.str x) (.str x) = some (.bool false) := by
  unfold neS
  show some (PyData.bool (!decide (x = x))) = _
  rw [decide_eq_true rfl]
  rfl
theorem neB (a b : Bool) : neD (.bool a) (.bool b) = some (.bool (!decide (a = b))) := by cases a <;> cases b <;> rfl
theorem eqB (a b : Bool) : eqD (.bool a) (.bool b) = some (.bool (decide (a = b))) := by cases a <;> cases b <;> rfl
theorem lenTR (A : List Rw) : lenD [TR A] = some (.int (A.length : Int)) := by
  have : lenD [TR A] = some (.int ((A.map er).length : Int)) := by first | rfl | (unfold lenD TR; rfl)
  rw [this, List.length_map]
theorem main : ∀ ns : List Int, ns.length ≤ 63 → ∃ ρ' δ' ω', m_law (slots N_law.length [.no, .deck]) (deckOf ns) ω0 = some (.inr (.rt (.dat (.bool true))), ρ', δ', ω') := fun ns hns => by
  have sb := sizeBig
  suffices h : WQ m_law (slots N_law.length [.no, .deck]) (deckOf ns) ω0 fun r _ _ _ => r = .inr (.rt (.dat (.bool true))) by
    obtain ⟨r, ρ', δ', ω', e, rfl⟩ := h
    exact ⟨ρ', δ', ω', e⟩
  unfold m_law
  rw [show slots N_law.length [Sl.no, .deck] = [.no, .deck, .no, .no, .no, .no, .no, .no, .no, .no, .no, .no, .no, .no, .no, .no, .no, .no] from rfl, c_names, c_list, c_turned, c_delta, k_nx]
  refine wq_seq (wq_lift ?_)
  walk_at "lx"
  refine names_wp (k := 8) (DkOk.start ns) (by decide) (by decide) fun nn δ0 hnl hnn h0 => ?_
  refine wq_seq (wq_lift ?_)
  walk_at "lx"
  refine list_wp h0 (by omega) hnn hnl fun R0 δ1 hR0 h1 => ?_
  have hR := rs_ok hnn hnl hR0
  refine wq_seq (wq_pair (voa_cons (vo_make (voa_lift ?_))))
  walk_at "lx"
  refine some_wp h1 (by omega) fun es δ2 h2 => ?_
  refine ⟨_, init_eq add_new, ?_⟩
  obtain ⟨ω1, e1, a1⟩ : ∃ ω1, (ω0.add ⟨0, []⟩).put ω0.o.length (pr R0 es 0) = ω1 ∧ ω1.o[0]? = some (pr R0 es 0) ∧ ω1.o.length = 1 := ⟨_, rfl, put_at add_new, rfl⟩
  obtain ⟨a1, l1⟩ := a1
  rw [e1]
  refine voa_cons (vo_make (voa_lift ?_))
  walk_at "lx"
  refine some_wp h2 (by omega) fun fs δ3 h3 => ?_
  refine ⟨_, init_eq add_new, voa_nil ?_⟩
  obtain ⟨ω2, e2, S2, l2⟩ : ∃ ω2, (ω1.add ⟨0, []⟩).put ω1.o.length (pr R0 fs 0) = ω2 ∧ St ω2 R0 R0 es fs 0 ∧ 2 ≤ ω2.o.length := by
    refine ⟨_, rfl, ⟨?_, ?_⟩, ?_⟩
    · rw [put_ne (by omega)]
      exact add_old a1
    · have := put_at (x := pr R0 fs 0) (add_new (ω := ω1) (x := ⟨0, []⟩))
      rw [l1] at this ⊢
      exact this
    · rw [put_len]
      unfold Os.add
      rw [List.length_append, l1]
      decide
  rw [e2, l1]
  show onQ _ _ (.inr .nx) _ _ _
  rw [onQ_nx]
  show WQ _ [.no, .deck, .val (.list (nn.map .str)), .val (TR R0), .ob 0, .ob 1, .no, .no, .no, .no, .no, .no, .no, .no, .no, .no, .no, .no] δ3 ω2 _
  have hnm := hR.nm
  -- the first looks
  refine wq_seq (wq_if (vot_or (vot_b (vo_eq (k := 0) rfl rfl S2.a ⟨rfl, by show okTy 0 _ ((ω2.o[1]?).map _) = true; rw [S2.b]; rfl⟩ (eqP S2.a S2.b hnm hnm) ?_))))
  rw [decide_eq_true (⟨rfl, rfl⟩ : R0 = R0 ∧ (0 : Int) = 0)]
  refine vot_or (vot_b (vo_eq (k := 0) (y := .dat (TR R0)) rfl rfl S2.a ⟨rfl, rfl⟩ (eqPd S2.a (.inl rfl)) ?_))
  refine vot_or (vot_b (vo_eq (k := 0) (y := .dat (.int 5)) rfl rfl S2.a ⟨rfl, rfl⟩ (eqPd S2.a (.inr rfl)) ?_))
  have lR := hR.ln
  refine vot_b (vo_binW (vo_lenI (k := 0) rfl S2.a rfl (len_eq S2.a (by omega)) ⟨by omega, by omega⟩ (vo_lift ?_)))
  walk_at "lx"
  refine .of (lenTR R0) ⟨_, neD_int _ _, ?_⟩
  rw [decide_eq_true rfl]
  show WQ qNext _ _ _ _
  refine wq_next ?_
  rw [onQ_nx]
  refine wq_seq (wq_lift ?_)
  walk_at "lx"
  show onQ _ _ (.inr .nx) _ _ _
  rw [onQ_nx]
  refine wq_seq (wq_for (ds := (List.range 8).map fun (i : Nat) => .int (0 + (i : Int))) (δ1 := δ3) rfl (I := fun left ρ δ ω => ∃ (A : List Rw) (n : Int) (es : List (D × D)) (k : Nat) (t7 t8 t9 t11 t12 t14 t15 t17 : Sl), k + left.length = 8 ∧ 0 ≤ n ∧ n ≤ k ∧ DkOk (400 + 210 * k) δ ∧ RsOk A ∧ (∀ x ∈ nms A, x ∈ nn) ∧ (n = 0 → A = R0) ∧ St ω A R0 es fs n ∧ 2 ≤ ω.o.length ∧
    ρ = [.no, .deck, .val (.list (nn.map .str)), .val (TR A), .ob 0, .ob 1, .val (.int n), t7, t8, t9, .no, t11, t12, .no, t14, t15, .no, t17]) ?_ (fun d r ρ δ ω hI => ?_) (fun ρ δ ω hI => ?_))
  · exact ⟨R0, 0, es, 0, .no, .no, .no, .no, .no, .no, .no, .no, rfl, by omega, by omega, h3.mono (by omega), hR, fun x hx => (srt_perm nn).mem_iff.mp (hR0.subset hx), fun _ => rfl, S2, l2, rfl⟩
  · obtain ⟨A, n, es, k, t7, t8, t9, t11, t12, t14, t15, t17, hk, n0, nk, hD, hA, hAn, hz, S, ln, rfl⟩ := hI
    rw [List.length_cons] at hk
    refine ⟨_, rfl, ?_⟩
    refine wq_seq (wq_lift ?_)
    walk_at "lx"
    refine turned_wp hD (by omega) hnn hnl hA fun B δ4 hB0 h4 => ?_
    have hB := rs_ok hnn hnl hB0
    have hBn : ∀ x ∈ nms B, x ∈ nn := fun x hx => (srt_perm nn).mem_iff.mp (hB0.subset hx)
    show onQ _ _ (.inr .nx) _ _ _
    rw [onQ_nx]
    refine wq_seq (wq_lift ?_)
    walk_at "lx"
    refine .of (delta_eq hA hB) ?_
    show onQ _ _ (.inr .nx) _ _ _
    rw [onQ_nx]
    have hg0 : (goneL A B).map (fun r => PyData.str r.nm) = (nms (goneL A B)).map .str := (List.map_map ..).symm
    have hgs : (nms (goneL A B)).Sublist (nms A) := List.Sublist.map _ List.filter_sublist
    have hC : RsOk (comeL A B) := ⟨fun r hr => hB.nm r (List.mem_filter.mp hr).1, (List.Sublist.map _ List.filter_sublist).nodup hB.nd, Nat.le_trans (List.length_filter_le _ _) hB.ln⟩
    have hCn : ∀ x ∈ nms (comeL A B), x ∈ nn := fun x hx => hBn x ((List.Sublist.map _ List.filter_sublist).subset hx)
    unfold dlt
    rw [hg0]
    generalize nms (goneL A B) = g0 at hgs
    generalize comeL A B = C at hC hCn
    refine wq_seq (wq_lift ?_)
    refine WS.mono (P := fun f ρ δ => f = .nx ∧ ∃ gs : List Str, gs.Nodup ∧ (∀ x ∈ gs, NmOk x) ∧ gs.length ≤ 8 ∧ DkOk (400 + 210 * k + 50) δ ∧ ρ = [.no, .deck, .val (.list (nn.map .str)), .val (TR A), .ob 0, .ob 1, .val (.int n), .val d, .val (TR B), .val (.tuple [.tuple (gs.map .str), TR C]), .no, t11, t12, .no, t14, t15, .no, t17]) ?_ (fun f ρ δ h => ?_)
    · walk_at "lx"
      refine next_wp h4 (by omega) (by decide) (by decide) fun r δ5 r0 r1 h5 => ?_
      refine .of (eqD_int r 0) ⟨_, rfl, ?_⟩
      by_cases hr : r = 0
      · rw [decide_eq_true hr, if_pos rfl]
        have sl : (srt nn).length ≤ 8 := by rw [srt_len, hnl]; exact Nat.le_refl 8
        refine .of (sorted_eq (by omega)) ⟨_, rfl, rfl, pick_wp (m := 4) h5 sl (by omega) (by decide) (by decide) fun g1 δ6 hg1 h6 => ?_⟩
        have lg1 := hg1.length_le
        refine ⟨by rw [List.length_map]; omega, .of (z := .tuple (g1.map .str)) rfl (.of (ix1T _ _) ⟨by omega, g1, hg1.nodup (srt_ok hnn).nd, fun x hx => (srt_ok hnn).nm x (hg1.subset hx), by omega, h6.mono (by omega), rfl⟩)⟩
      · rw [decide_eq_false hr, if_neg Bool.false_ne_true]
        exact ⟨g0, hgs.nodup hA.nd, fun x hx => by
          obtain ⟨r, hr, rfl⟩ := List.mem_map.mp (hgs.subset hx)
          exact hA.nm r hr, Nat.le_trans hgs.length_le (by unfold nms; rw [List.length_map]; exact hA.ln), h5.mono (by omega), rfl⟩
    obtain ⟨rfl, gs, gnd, gnm, lg, h5, rfl⟩ := h
    show onQ _ _ (.inr .nx) _ _ _
    rw [onQ_nx]
    -- the number
    refine wq_seq (wq_lift ?_)
    walk_at "lx"
    refine ⟨by omega, next_wp h5 (by omega) (by decide) (by decide) fun i δ6 i0 i1 h6 => ?_⟩
    refine w_ixL i0 (by simpa using i1) fun dn hdn => ?_
    obtain ⟨j, rfl, j0, j1⟩ : ∃ j : Int, dn = .int j ∧ 0 ≤ j ∧ j ≤ n + 1 := by
      simp only [List.mem_cons, List.not_mem_nil, or_false] at hdn
      rcases hdn with rfl | rfl | rfl | rfl
      · exact ⟨_, rfl, by omega, by omega⟩
      · exact ⟨_, rfl, by omega, by omega⟩
      · exact ⟨_, rfl, by omega, by omega⟩
      · exact ⟨_, rfl, by omega, by omega⟩
    show onQ _ _ (.inr .nx) _ _ _
    rw [onQ_nx]
    -- whether it fits
    have lA : A.length ≤ 8 := hA.ln
    refine wq_seq (wq_lift ?_)
    walk_at "lx"
    refine .of (ix0T _ _) ⟨_, rfl, rfl, ?_⟩
    refine wc_filter (fun x : Str => PyData.str x) (fun x => decide (x ∉ nms A)) (fun x => .str x) gs (fun x hx => ?_) ?_
    · walk_at "lx"
      refine ⟨A.map er, rfl, rfl, ?_⟩
      refine wc_map er (fun r => PyData.str r.nm) A (fun r hr => ?_) ?_
      · walk_at "lx"
        exact .of (er0 r) rfl
      · rw [show A.map (fun r => PyData.str r.nm) = (nms A).map .str from (List.map_map ..).symm]
        refine ⟨by rw [List.length_map]; unfold nms; rw [List.length_map]; omega, ?_⟩
        refine .of (in_strs (gnm x hx).ok fun y hy => ?_) ⟨_, rfl, ⟨rfl, rfl⟩, fun _ => trivial⟩
        obtain ⟨r, hr, rfl⟩ := List.mem_map.mp hy
        exact (hA.nm r hr).ok
    · refine ⟨by rw [List.length_map]; exact Nat.le_trans (List.length_filter_le _ _) (by omega), Nat.zero_le _, .of (eq_nil fun x hx => (gnm x (List.mem_filter.mp hx).1).ok) ?_⟩
      show onQ _ _ (.inr .nx) _ _ _
      rw [onQ_nx]
      obtain ⟨fit, hfit⟩ : ∃ fit : Bool, decide (gs.filter (fun x => decide (x ∉ nms A)) = []) = fit := ⟨_, rfl⟩
      have hf : (∀ x ∈ gs, x ∈ nms A) ↔ fit = true := by
        rw [← hfit, decide_eq_true_iff, List.filter_eq_nil_iff]
        simp
      rw [hfit]
      -- what is kept
      have sw : Sw 12 141000 (.list [TR A, .tuple [.tuple (gs.map .str), TR C]]) := by
        refine Sw.mono (Sw.lst (m := 11) (k := 70000) fun d hd => ?_) (by decide) (by simp)
        simp only [List.mem_cons, List.not_mem_nil, or_false] at hd
        rcases hd with rfl | rfl
        · exact (sw_TR hA.nm lA).mono (by decide) (by decide)
        · refine Sw.mono (Sw.tup (m := 10) (k := 33000) fun d hd => ?_) (by decide) (by simp)
          simp only [List.mem_cons, List.not_mem_nil, or_false] at hd
          rcases hd with rfl | rfl
          · refine Sw.mono (Sw.tup (m := 0) (k := 82) fun d hd => ?_) (by decide) (by rw [List.length_map]; omega)
            obtain ⟨x, hx, rfl⟩ := List.mem_map.mp hd
            exact sw_nm (gnm x hx)
          · exact sw_TR hC.nm hC.ln
      refine wq_seq (wq_lift ?_)
      walk_at "lx"
      refine ⟨by omega, .of (repr_of sw) ⟨by omega, _, rfl, ?_⟩⟩
      show onQ _ _ (.inr .nx) _ _ _
      rw [onQ_nx]
      -- the delta is taken
      have hled := led_eq hA hC gnd
      obtain ⟨due, hdue⟩ : ∃ due : D, due = (if j = n then (if fit = true then .none else .bool true) else .tuple [.int n, .bool true]) := ⟨_, rfl⟩
      refine wq_seq (WQ.mono (C := fun r ρ' δ' ω' => r = .inr .nx ∧ ∃ (A' : List Rw) (n' : Int), δ' = δ6 ∧ ρ' = [.no, .deck, .val (.list (nn.map .str)), .val (TR A), .ob 0, .ob 1, .val (.int n), .val d, .val (TR B), .val (.tuple [.tuple (gs.map .str), TR C]), .no, .val (.int j), .val (.bool fit), .no, .val (.str (PyData.list [TR A, .tuple [.tuple (gs.map .str), TR C]]).shown), .val due, .no, t17] ∧
        St ω' A' R0 es fs n' ∧ 2 ≤ ω'.o.length ∧ ((due = .none ∧ A' = ledL A gs C ∧ n' = n + 1 ∧ fit = true) ∨ (due ≠ .none ∧ A' = A ∧ n' = n))) ?_ fun r ρ δ ω h => ?_)
      · refine wq_try (wq_expr ?_)
        by_cases hj : j = n
        · subst hj
          rw [if_pos rfl] at hdue
          cases fit with
          | true =>
            rw [if_pos (hf.mpr rfl)] at hled
            refine vo_meth (k := 0) rfl S.a ⟨rfl, rfl⟩ (voa_lift ?_)
            walk_at "lx"
            refine ⟨_, _, take_ok S.a hled, ledL A gs C, j + 1, by rw [hdue]; rfl, ⟨put_at S.a, by rw [put_ne (by decide)]; exact S.b⟩, by rw [put_len]; exact ln, .inl ⟨by rw [hdue]; rfl, rfl, rfl⟩⟩
          | false =>
            rw [if_neg (fun z => by rw [hf] at z; cases z)] at hled
            refine vo_meth (k := 0) rfl S.a ⟨rfl, rfl⟩ (voa_lift ?_)
            walk_at "lx"
            refine ⟨_, _, take_bad S.a hled, hd0 rfl ⟨rfl, _, _, rfl, by rw [hdue]; rfl, S, ln, .inr ⟨by rw [hdue]; exact (fun z => nomatch z), rfl, rfl⟩⟩⟩
        · rw [if_neg hj] at hdue
          refine vo_meth (k := 0) rfl S.a ⟨rfl, rfl⟩ (voa_lift ?_)
          walk_at "lx"
          refine ⟨_, _, take_ne S.a hj (intB n n0 (by omega)), hd1 rfl ⟨rfl, _, _, rfl, by rw [hdue]; rfl, S, ln, .inr ⟨by rw [hdue]; exact (fun z => nomatch z), rfl, rfl⟩⟩⟩
      obtain ⟨rfl, A', n', rfl, rfl, S', ln', hcase⟩ := h
      rw [onQ_nx]
      refine wq_seq (wq_lift ?_)
      walk_at "lx"
      refine ⟨by omega, .of (repr_of sw) ?_⟩
      walk_at "lx"
      show onQ _ _ (.inr .nx) _ _ _
      rw [onQ_nx]
      -- what is due
      refine wq_seq (WQ.mono (C := fun r ρ' δ' ω' => r = .inr .nx ∧ δ' = δ ∧ ω' = ω ∧ ρ' = [.no, .deck, .val (.list (nn.map .str)), .val (TR A), .ob 0, .ob 1, .val (.int n), .val d, .val (TR B), .val (.tuple [.tuple (gs.map .str), TR C]), .no, .val (.int j), .val (.bool fit), .no, .val (.str (PyData.list [TR A, .tuple [.tuple (gs.map .str), TR C]]).shown), .val due, .no, .val due]) ?_ fun r' ρ' δ' ω' h => ?_)
      · refine wq_lift ?_
        walk_at "lx"
        refine ⟨by omega, .of (z := if fit = true then .none else .bool true) (by cases fit <;> rfl) ⟨by omega, by omega, .of (z := due) ?_ ⟨rfl, rfl⟩⟩⟩
        by_cases hj : j = n
        · rw [hdue, if_pos hj, decide_eq_true hj]
          rfl
        · rw [hdue, if_neg hj, decide_eq_false hj]
          rfl
      obtain ⟨rfl, rfl, rfl, rfl⟩ := h
      rw [onQ_nx]
      have swd : Sw 12 1000 due := by
        rw [hdue]
        split
        · split
          · exact ⟨by decide, by decide, by simp [PyData.showable], by simp [PyData.hasDict], by simp [PyData.depth]⟩
          · exact ⟨by decide +kernel, by decide +kernel, by simp [PyData.showable], by simp [PyData.hasDict], by simp [PyData.depth]⟩
        · refine Sw.mono (Sw.tup (m := 0) (k := 400) fun d hd => ?_) (by decide) (by simp)
          simp only [List.mem_cons, List.not_mem_nil, or_false] at hd
          rcases hd with rfl | rfl
          · obtain ⟨q, rfl⟩ := Int.eq_ofNat_of_zero_le n0
            exact ((Nc.int (n := q) (by omega)).sw).mono (by decide) (by decide)
          · exact ⟨by decide +kernel, by decide +kernel, by simp [PyData.showable], by simp [PyData.hasDict], by simp [PyData.depth]⟩
      refine wq_seq (wq_lift ?_)
      walk_at "lx"
      refine .of (repr_of swd) (.of (repr_of swd) ?_)
      walk_at "lx"
      show onQ _ _ (.inr .nx) _ _ _
      rw [onQ_nx]
      have hA'n : RsOk A' ∧ (∀ x ∈ nms A', x ∈ nn) ∧ 0 ≤ n' ∧ n' ≤ ((k + 1 : Nat) : Int) ∧ (n' = 0 → A' = R0) := by
        rcases hcase with ⟨_, rfl, rfl, _⟩ | ⟨_, rfl, rfl⟩
        · obtain ⟨h1, h2⟩ := led_ok hA hC gnd hnl hAn hCn
          exact ⟨h1, h2, by omega, by omega, fun z => by omega⟩
        · exact ⟨hA, hAn, n0, by omega, hz⟩
      obtain ⟨hA', hAn', n0', nk', hz'⟩ := hA'n
      refine wq_seq (WQ.mono (C := fun r ρx δx ωx => r = .inr .nx ∧ δx = δ' ∧ ωx = ω' ∧ ρx = [.no, .deck, .val (.list (nn.map .str)), .val (TR A'), .ob 0, .ob 1, .val (.int n'), .val d, .val (TR B), .val (.tuple [.tuple (gs.map .str), TR C]), .no, .val (.int j), .val (.bool fit), .no, .val (.str (PyData.list [TR A, .tuple [.tuple (gs.map .str), TR C]]).shown), .val due, .no, .val due]) ?_ fun r' ρx δx ωx h => ?_)
      · rcases hcase with ⟨hd, hA1, hn1, hft⟩ | ⟨hd, rfl, rfl⟩
        · refine wq_if (vot_lift ?_)
          walk_at "lx"
          rw [hd]
          refine .of (z := .bool true) rfl ⟨true, rfl, ?_⟩
          refine wq_seq (wq_asg (vo_callV (voa_lift ?_)))
          walk_at "lx"
          refine ⟨_, rfl, ?_⟩
          rw [if_pos (hf.mpr hft), ← hA1] at hled
          rw [show fV_led [TR A, .tuple [.tuple (gs.map .str), TR C]] = some (.inr (TR A')) from by unfold fV_led rV; rw [hled]; rfl]
          show onQ _ _ (.inr .nx) _ _ _
          rw [onQ_nx]
          refine wq_lift ?_
          rw [hn1]
          walk_at "lx"
          exact ⟨rfl, rfl⟩
        · refine wq_if (vot_lift ?_)
          walk_at "lx"
          refine .of (z := .bool false) ?_ ⟨false, rfl, ?_⟩
          · rw [hdue] at hd ⊢
            split
            · rename_i hj
              rw [if_pos hj] at hd
              split
              · rename_i hft
                rw [if_pos hft] at hd
                exact absurd rfl hd
              · rfl
            · rfl
          · exact wq_next ⟨rfl, rfl, rfl, rfl⟩
      obtain ⟨rfl, rfl, rfl, rfl⟩ := h
      rw [onQ_nx]
      have lA' : A'.length ≤ 8 := hA'.ln
      have rA := repr_TR hA'.nm (by omega : A'.length ≤ 16)
      refine wq_seq (wq_if (vot_or (vot_b (vo_binW (vo_cb (voa_cons (vo_meth (k := 0) rfl S'.a ⟨rfl, rfl⟩ (voa_nil ⟨_, _, rows_eq S'.a, voa_nil ⟨_, _, rfl, rA, vo_lift ?_⟩⟩))))))))
      walk_at "lx"
      refine .of rA ⟨_, neS_same, ?_⟩
      refine vot_or (vot_b (vo_binW (vo_meth (k := 0) rfl S'.a ⟨rfl, rfl⟩ (voa_nil ⟨_, _, num_eq S'.a, vo_lift ?_⟩))))
      walk_at "lx"
      refine ⟨_, neD_int _ _, ?_⟩
      rw [decide_eq_true rfl]
      refine vot_b (vo_binW (vo_lenI (k := 0) rfl S'.a rfl (len_eq S'.a (by omega)) ⟨by omega, by omega⟩ (vo_lift ?_)))
      walk_at "lx"
      refine .of (lenTR A') ⟨_, neD_int _ _, ?_⟩
      rw [decide_eq_true rfl]
      refine wq_next ?_
      rw [onQ_nx]
      -- a new program
      refine wq_if (vot_b (vo_binW (vo_eqW (vo_ob (k := 0) rfl (vo_make (voa_lift ?_))))))
      walk_at "lx"
      refine some_wp h6 (by omega) fun es2 δ7 h7 => ?_
      refine ⟨_, init_eq add_new, ?_⟩
      obtain ⟨ω3, e3, S3, f3, l3⟩ : ∃ ω3, (ωx.add ⟨0, []⟩).put ωx.o.length (pr A' es2 0) = ω3 ∧ St ω3 A' R0 es fs n' ∧ ω3.o[ωx.o.length]? = some (pr A' es2 0) ∧ 2 ≤ ω3.o.length := by
        refine ⟨_, rfl, ⟨?_, ?_⟩, put_at add_new, ?_⟩
        · rw [put_ne (by omega)]
          exact add_old S'.a
        · rw [put_ne (by omega)]
          exact add_old S'.b
        · rw [put_len]
          unfold Os.add
          rw [List.length_append]
          omega
      rw [e3]
      refine ⟨_, _, _, S3.a, ⟨rfl, by show okTy 0 _ ((ω3.o[ωx.o.length]?).map _) = true; rw [f3]; rfl⟩, eqP S3.a f3 hA'.nm hA'.nm, vo_lift ?_⟩
      walk_at "lx"
      refine ⟨_, neB _ _, ?_⟩
      rw [Bool.false_xor, decide_eq_true rfl]
      refine wq_next ?_
      exact ⟨A', n', es, k + 1, _, _, _, _, _, _, _, _, by omega, n0', nk', h7.mono (by omega), hA', hAn', hz', S3, l3, rfl⟩
  · obtain ⟨A, n, es, k, t7, t8, t9, t11, t12, t14, t15, t17, hk, n0, nk, hD, hA, hAn, hz, S, ln, rfl⟩ := hI
    rw [onQ_nx]
    refine wq_ret (vo_and (vo_binW (vo_meth (k := 1) rfl S.b ⟨rfl, rfl⟩ (voa_nil ⟨_, _, num_eq S.b, vo_lift ?_⟩))))
    walk_at "lx"
    refine ⟨_, eqD_int _ _, ?_⟩
    rw [decide_eq_true rfl]
    refine vo_binW (vo_eqW (vo_ob (k := 0) rfl (vo_ob (k := 1) rfl ⟨_, _, _, S.a, ⟨rfl, by show okTy 0 _ ((ω.o[1]?).map _) = true; rw [S.b]; rfl⟩, eqP S.a S.b hA.nm hR.nm, vo_lift ?_⟩)))
    walk_at "lx"
    refine ⟨_, eqB _ _, ?_⟩
    have : decide (A = R0 ∧ n = 0) = decide (n = 0) := by
      rw [Bool.eq_iff_iff, decide_eq_true_iff, decide_eq_true_iff]
      exact ⟨fun z => z.2, fun z => ⟨hz z, z⟩⟩
    rw [Bool.false_xor, this, decide_eq_true rfl]
end K69
namespace K69
open PySem PySem.Spec PyProof.Rows L2 PD
set_option maxHeartbeats 0 in
theorem all_mk {l : PySem.W.OpenLaw} {w : World} {K : PySem.W.Frag} {h : Heap} {mg : Str → Option Value} {fa : Addr} (X : K.In h) (G : h.Ns mainGlobals mg) (hfa : mg "law" = some (.ref fa))
    (hm : ∀ ns : List Int, ns.length ≤ 63 → ∃ ρ' δ' ω', m_law (slots N_law.length [.no, .deck]) (deckOf ns) ω0 = some (.inr (.rt (.dat (.bool true))), ρ', δ', ω'))
    {f0 : Addr} {od0 an0 : Option Addr} {sl0 : Array (Option Value)} {oc0 kV0 dc0 pm0 cd0 ct0 : Value} {T0 : Addr} {oT0 : Obj} {nT0 : Nat} {tk0_0 tk0_1 : Tok}
    (a0 : PySem.W.nsIn K mainGlobals "is_number" = some (some (.ref f0))) (l0 : K.lookup f0 = some ⟨oc0, od0, .func (PySem.W.fnOf "is_number" "is_number" (defArgs s_is_number) (defBody s_is_number) (defScope s_is_number) (.ref T0) kV0 dc0 pm0 an0 cd0 ct0), sl0⟩) (t0 : K.lookup T0 = some oT0) (u0 : oT0.data = .seq (List.toArray [.int 0 tk0_0, .int 1000000000000 tk0_1]) nT0) (c0 : PySem.W.codeIn K cd0 "is_number" = true) (k0 : PySem.W.keepIn K (.ref f0) = true)
    {f1 : Addr} {od1 an1 : Option Addr} {sl1 : Array (Option Value)} {oc1 kV1 dc1 pm1 cd1 ct1 : Value}
    (a1 : PySem.W.nsIn K mainGlobals "rows_by_name" = some (some (.ref f1))) (l1 : K.lookup f1 = some ⟨oc1, od1, .func (PySem.W.fnOf "rows_by_name" "rows_by_name" (defArgs s_rows_by_name) (defBody s_rows_by_name) (defScope s_rows_by_name) .none kV1 dc1 pm1 an1 cd1 ct1), sl1⟩) (c1 : PySem.W.codeIn K cd1 "rows_by_name" = true) (k1 : PySem.W.keepIn K (.ref f1) = true)
    {f2 : Addr} {od2 an2 : Option Addr} {sl2 : Array (Option Value)} {oc2 kV2 dc2 pm2 cd2 ct2 : Value}
    (a2 : PySem.W.nsIn K mainGlobals "delta" = some (some (.ref f2))) (l2 : K.lookup f2 = some ⟨oc2, od2, .func (PySem.W.fnOf "delta" "delta" (defArgs s_delta) (defBody s_delta) (defScope s_delta) .none kV2 dc2 pm2 an2 cd2 ct2), sl2⟩) (c2 : PySem.W.codeIn K cd2 "delta" = true) (k2 : PySem.W.keepIn K (.ref f2) = true)
    {f3 : Addr} {od3 an3 : Option Addr} {sl3 : Array (Option Value)} {oc3 kV3 dc3 pm3 cd3 ct3 : Value}
    (a3 : PySem.W.nsIn K mainGlobals "led" = some (some (.ref f3))) (l3 : K.lookup f3 = some ⟨oc3, od3, .func (PySem.W.fnOf "led" "led" (defArgs s_led) (defBody s_led) (defScope s_led) .none kV3 dc3 pm3 an3 cd3 ct3), sl3⟩) (c3 : PySem.W.codeIn K cd3 "led" = true) (k3 : PySem.W.keepIn K (.ref f3) = true)
    {f4 : Addr} {od4 an4 : Option Addr} {sl4 : Array (Option Value)} {oc4 kV4 dc4 pm4 cd4 ct4 : Value}
    (a4 : PySem.W.nsIn K mainGlobals "_law_draws" = some (some (.ref f4))) (l4 : K.lookup f4 = some ⟨oc4, od4, .func (PySem.W.fnOf "_law_draws" "_law_draws" (defArgs s_l_draws) (defBody s_l_draws) (defScope s_l_draws) .none kV4 dc4 pm4 an4 cd4 ct4), sl4⟩) (c4 : PySem.W.codeIn K cd4 "_law_draws" = true) (k4 : PySem.W.keepIn K (.ref f4) = true)
    {f5 : Addr} {od5 an5 : Option Addr} {sl5 : Array (Option Value)} {oc5 kV5 dc5 pm5 cd5 ct5 : Value}
    (a5 : PySem.W.nsIn K mainGlobals "_law_next" = some (some (.ref f5))) (l5 : K.lookup f5 = some ⟨oc5, od5, .func (PySem.W.fnOf "_law_next" "_law_next" (defArgs s_l_next) (defBody s_l_next) (defScope s_l_next) .none kV5 dc5 pm5 an5 cd5 ct5), sl5⟩) (c5 : PySem.W.codeIn K cd5 "_law_next" = true) (k5 : PySem.W.keepIn K (.ref f5) = true)
    {f6 : Addr} {od6 an6 : Option Addr} {sl6 : Array (Option Value)} {oc6 kV6 dc6 pm6 cd6 ct6 : Value}
    (a6 : PySem.W.nsIn K mainGlobals "_law_names" = some (some (.ref f6))) (l6 : K.lookup f6 = some ⟨oc6, od6, .func (PySem.W.fnOf "_law_names" "_law_names" (defArgs s_l_names) (defBody s_l_names) (defScope s_l_names) .none kV6 dc6 pm6 an6 cd6 ct6), sl6⟩) (c6 : PySem.W.codeIn K cd6 "_law_names" = true) (k6 : PySem.W.keepIn K (.ref f6) = true)
    {f7 : Addr} {od7 an7 : Option Addr} {sl7 : Array (Option Value)} {oc7 kV7 dc7 pm7 cd7 ct7 : Value}
    (a7 : PySem.W.nsIn K mainGlobals "_law_forms" = some (some (.ref f7))) (l7 : K.lookup f7 = some ⟨oc7, od7, .func (PySem.W.fnOf "_law_forms" "_law_forms" (defArgs s_l_forms) (defBody s_l_forms) (defScope s_l_forms) .none kV7 dc7 pm7 an7 cd7 ct7), sl7⟩) (c7 : PySem.W.codeIn K cd7 "_law_forms" = true) (k7 : PySem.W.keepIn K (.ref f7) = true)
    {f8 : Addr} {od8 an8 : Option Addr} {sl8 : Array (Option Value)} {oc8 kV8 dc8 pm8 cd8 ct8 : Value}
    (a8 : PySem.W.nsIn K mainGlobals "_law_tongue" = some (some (.ref f8))) (l8 : K.lookup f8 = some ⟨oc8, od8, .func (PySem.W.fnOf "_law_tongue" "_law_tongue" (defArgs s_l_tongue) (defBody s_l_tongue) (defScope s_l_tongue) .none kV8 dc8 pm8 an8 cd8 ct8), sl8⟩) (c8 : PySem.W.codeIn K cd8 "_law_tongue" = true) (k8 : PySem.W.keepIn K (.ref f8) = true)
    {f9 : Addr} {od9 an9 : Option Addr} {sl9 : Array (Option Value)} {oc9 kV9 dc9 pm9 cd9 ct9 : Value}
    (a9 : PySem.W.nsIn K mainGlobals "_law_row" = some (some (.ref f9))) (l9 : K.lookup f9 = some ⟨oc9, od9, .func (PySem.W.fnOf "_law_row" "_law_row" (defArgs s_l_row) (defBody s_l_row) (defScope s_l_row) .none kV9 dc9 pm9 an9 cd9 ct9), sl9⟩) (c9 : PySem.W.codeIn K cd9 "_law_row" = true) (k9 : PySem.W.keepIn K (.ref f9) = true)
    {f10 : Addr} {od10 an10 : Option Addr} {sl10 : Array (Option Value)} {oc10 kV10 dc10 pm10 cd10 ct10 : Value}
    (a10 : PySem.W.nsIn K mainGlobals "_law_list" = some (some (.ref f10))) (l10 : K.lookup f10 = some ⟨oc10, od10, .func (PySem.W.fnOf "_law_list" "_law_list" (defArgs s_l_list) (defBody s_l_list) (defScope s_l_list) .none kV10 dc10 pm10 an10 cd10 ct10), sl10⟩) (c10 : PySem.W.codeIn K cd10 "_law_list" = true) (k10 : PySem.W.keepIn K (.ref f10) = true)
    {f11 : Addr} {od11 an11 : Option Addr} {sl11 : Array (Option Value)} {oc11 kV11 dc11 pm11 cd11 ct11 : Value}
    (a11 : PySem.W.nsIn K mainGlobals "_law_turned" = some (some (.ref f11))) (l11 : K.lookup f11 = some ⟨oc11, od11, .func (PySem.W.fnOf "_law_turned" "_law_turned" (defArgs s_l_turned) (defBody s_l_turned) (defScope s_l_turned) .none kV11 dc11 pm11 an11 cd11 ct11), sl11⟩) (c11 : PySem.W.codeIn K cd11 "_law_turned" = true) (k11 : PySem.W.keepIn K (.ref f11) = true)
    {f12 : Addr} {od12 an12 : Option Addr} {sl12 : Array (Option Value)} {oc12 kV12 dc12 pm12 cd12 ct12 : Value}
    (a12 : PySem.W.nsIn K mainGlobals "_law_some_tongues" = some (some (.ref f12))) (l12 : K.lookup f12 = some ⟨oc12, od12, .func (PySem.W.fnOf "_law_some_tongues" "_law_some_tongues" (defArgs s_l_some_tongues) (defBody s_l_some_tongues) (defScope s_l_some_tongues) .none kV12 dc12 pm12 an12 cd12 ct12), sl12⟩) (c12 : PySem.W.codeIn K cd12 "_law_some_tongues" = true) (k12 : PySem.W.keepIn K (.ref f12) = true)
    {f13 : Addr} {od13 an13 : Option Addr} {sl13 : Array (Option Value)} {oc13 kV13 dc13 pm13 cd13 ct13 : Value}
    (a13 : PySem.W.nsIn K mainGlobals "law" = some (some (.ref f13))) (l13 : K.lookup f13 = some ⟨oc13, od13, .func (PySem.W.fnOf "law" "law" (defArgs s_law) (defBody s_law) (defScope s_law) .none kV13 dc13 pm13 an13 cd13 ct13), sl13⟩) (c13 : PySem.W.codeIn K cd13 "law" = true) (k13 : PySem.W.keepIn K (.ref f13) = true)
    (z_bool : PySem.W.nsIn K mainGlobals "bool" = some none)
    (z_dict : PySem.W.nsIn K mainGlobals "dict" = some none)
    (z_int : PySem.W.nsIn K mainGlobals "int" = some none)
    (z_isinstance : PySem.W.nsIn K mainGlobals "isinstance" = some none)
    (z_len : PySem.W.nsIn K mainGlobals "len" = some none)
    (z_list : PySem.W.nsIn K mainGlobals "list" = some none)
    (z_range : PySem.W.nsIn K mainGlobals "range" = some none)
    (z_repr : PySem.W.nsIn K mainGlobals "repr" = some none)
    (z_sorted : PySem.W.nsIn K mainGlobals "sorted" = some none)
    (z_super : PySem.W.nsIn K mainGlobals "super" = some none)
    (z_tuple : PySem.W.nsIn K mainGlobals "tuple" = some none)
    {x_a y_a : Addr} (x_g : PySem.W.nsIn K mainGlobals "NoFit" = some (some (.ref x_a))) (y_g : PySem.W.nsIn K mainGlobals "HouseError" = some (some (.ref y_a)))
    (x_k : PySem.W.keepIn K (.ref x_a) = true)
    (x_x : PySem.W.excIn K x_a [.type "ValueError", .type "Exception", .type "BaseException", .type "object"] "ValueError.__new__" = true)
    (x_s : PySem.W.subIn K (.ref x_a) (.type "BaseException") = some true)
    (x_t : PySem.W.typeIn K (.ref x_a) = some (.type "type"))
    (x_c : ExcC K x_a)
    (x_m : PySem.W.exmOne K (.ref x_a) (.ref x_a) = some true)
    (x_i : PySem.W.kitOne K (.ref x_a) (.ref y_a) = some true)
    {c0_a : Addr}
    (c0_g : PySem.W.nsIn K mainGlobals "Program" = some (some (.ref c0_a)))
    (c0_c : Cls K c0_a)
    (c0_n_rows : PySem.W.findIn K (.ref c0_a) "rows" = some none)
    (c0_n_tongues : PySem.W.findIn K (.ref c0_a) "tongues" = some none)
    (c0_n_number : PySem.W.findIn K (.ref c0_a) "number" = some none)
    {fq0 : Addr} {odq0 anq0 : Option Addr} {slq0 : Array (Option Value)} {ocq0 kVq0 dcq0 pmq0 cdq0 ctq0 : Value}
    (aq0 : PySem.W.findIn K (.ref c0_a) "__init__" = some (some (.ref fq0))) (lq0 : K.lookup fq0 = some ⟨ocq0, odq0, .func (PySem.W.fnOf "__init__" "Program.__init__" (defArgs s_Program___init__) (defBody s_Program___init__) (defScope s_Program___init__) .none kVq0 dcq0 pmq0 anq0 cdq0 ctq0), slq0⟩) (cq0 : PySem.W.codeIn K cdq0 "Program.__init__" = true) (kq0 : PySem.W.keepIn K (.ref fq0) = true) (iq0 : PySem.W.isFn K (.ref fq0) = true)
    (mkq0 : PySem.W.makesIn K c0_a = true) (kcq0 : PySem.W.keepIn K (.ref c0_a) = true)
    {fq1 : Addr} {odq1 anq1 : Option Addr} {slq1 : Array (Option Value)} {ocq1 kVq1 dcq1 pmq1 cdq1 ctq1 : Value}
    (aq1 : PySem.W.findIn K (.ref c0_a) "its_number" = some (some (.ref fq1))) (lq1 : K.lookup fq1 = some ⟨ocq1, odq1, .func (PySem.W.fnOf "its_number" "Program.its_number" (defArgs s_Program_its_number) (defBody s_Program_its_number) (defScope s_Program_its_number) .none kVq1 dcq1 pmq1 anq1 cdq1 ctq1), slq1⟩) (cq1 : PySem.W.codeIn K cdq1 "Program.its_number" = true) (kq1 : PySem.W.keepIn K (.ref fq1) = true) (iq1 : PySem.W.isFn K (.ref fq1) = true)
    {fq2 : Addr} {odq2 anq2 : Option Addr} {slq2 : Array (Option Value)} {ocq2 kVq2 dcq2 pmq2 cdq2 ctq2 : Value}
    (aq2 : PySem.W.findIn K (.ref c0_a) "take_delta" = some (some (.ref fq2))) (lq2 : K.lookup fq2 = some ⟨ocq2, odq2, .func (PySem.W.fnOf "take_delta" "Program.take_delta" (defArgs s_Program_take_delta) (defBody s_Program_take_delta) (defScope s_Program_take_delta) .none kVq2 dcq2 pmq2 anq2 cdq2 ctq2), slq2⟩) (cq2 : PySem.W.codeIn K cdq2 "Program.take_delta" = true) (kq2 : PySem.W.keepIn K (.ref fq2) = true) (iq2 : PySem.W.isFn K (.ref fq2) = true)
    {fq3 : Addr} {odq3 anq3 : Option Addr} {slq3 : Array (Option Value)} {ocq3 kVq3 dcq3 pmq3 cdq3 ctq3 : Value}
    (aq3 : PySem.W.findIn K (.ref c0_a) "its_rows" = some (some (.ref fq3))) (lq3 : K.lookup fq3 = some ⟨ocq3, odq3, .func (PySem.W.fnOf "its_rows" "Program.its_rows" (defArgs s_Program_its_rows) (defBody s_Program_its_rows) (defScope s_Program_its_rows) .none kVq3 dcq3 pmq3 anq3 cdq3 ctq3), slq3⟩) (cq3 : PySem.W.codeIn K cdq3 "Program.its_rows" = true) (kq3 : PySem.W.keepIn K (.ref fq3) = true) (iq3 : PySem.W.isFn K (.ref fq3) = true)
    {fq4 : Addr} {odq4 anq4 : Option Addr} {slq4 : Array (Option Value)} {ocq4 kVq4 dcq4 pmq4 cdq4 ctq4 : Value}
    (aq4 : PySem.W.findIn K (.ref c0_a) "__len__" = some (some (.ref fq4))) (lq4 : K.lookup fq4 = some ⟨ocq4, odq4, .func (PySem.W.fnOf "__len__" "Program.__len__" (defArgs s_Program___len__) (defBody s_Program___len__) (defScope s_Program___len__) .none kVq4 dcq4 pmq4 anq4 cdq4 ctq4), slq4⟩) (cq4 : PySem.W.codeIn K cdq4 "Program.__len__" = true) (kq4 : PySem.W.keepIn K (.ref fq4) = true) (iq4 : PySem.W.isFn K (.ref fq4) = true)
    {fq5 : Addr} {odq5 anq5 : Option Addr} {slq5 : Array (Option Value)} {ocq5 kVq5 dcq5 pmq5 cdq5 ctq5 : Value}
    (aq5 : PySem.W.findIn K (.ref c0_a) "__eq__" = some (some (.ref fq5))) (lq5 : K.lookup fq5 = some ⟨ocq5, odq5, .func (PySem.W.fnOf "__eq__" "Program.__eq__" (defArgs s_Program___eq__) (defBody s_Program___eq__) (defScope s_Program___eq__) .none kVq5 dcq5 pmq5 anq5 cdq5 ctq5), slq5⟩) (cq5 : PySem.W.codeIn K cdq5 "Program.__eq__" = true) (kq5 : PySem.W.keepIn K (.ref fq5) = true) (iq5 : PySem.W.isFn K (.ref fq5) = true)
    (neq5 : PySem.W.findIn K (.ref c0_a) "__ne__" = some (some (.builtin "object.__ne__"))) (obq5 : PySem.W.subIn K (.ref c0_a) (.type "object") = some true)
    (nf0 : PySem.W.notFirst K c0_a (.type "tuple") = true)
    (nf1 : PySem.W.notFirst K c0_a (.type "int") = true)
    (kt0 : PySem.W.kitOne K (.ref c0_a) (.ref c0_a) = some true)
    (kt1 : PySem.W.kitOne K (.type "tuple") (.ref c0_a) = some false)
    (kt2 : PySem.W.kitOne K (.type "int") (.ref c0_a) = some false)
    (ic_ha : PySem.W.findIn K (.ref c0_a) "__class__" = some (some (.builtin "object.__class__")))
    (ic_hn : PySem.W.specialIn K (.builtin "object.__class__") "__get__" = some (some (.builtin "getset_descriptor.__get__")))
    (ic_ht : PySem.W.takesIn K (.builtin "object.__class__") = some true)
    (ic_hm : PySem.W.mroIn K c0_a (.type "object") = some true)
    {x1_a x1_I xN icc icda : Addr} {xnm xq : Str} {xbs xbm xsub : List Value} {xsn : List Str} {xab : Bool} {xcol : Option Bool} {xdd iod ian icld : Option Addr} {xk0 xk1 xk2 xk3 xk5 : Option Value} {ioc ikV idc ipm ict icl : Value} {isl icsl : Array (Option Value)} {ioC : Obj} {icvs : Array Value} {ifile : Str} {itf : Tok} {icd : ClassData}
    (x1_g : PySem.W.nsIn K mainGlobals "Behind" = some (some (.ref x1_a))) (x1_l : K.lookup x1_a = some (excClassObj xnm xq x1_a xN xbs xbm true xsn xsub xab xcol xdd xk0 xk1 xk2 xk3 xk5 "ValueError.__new__")) (x1_r : PySem.HandSPX.refsVE xbm = true)
    (x1_sa : PySem.W.findIn K (.ref x1_a) "__setattr__" = some (some (.builtin "object.__setattr__"))) (x1_s : PySem.W.subIn K (.ref x1_a) (.type "BaseException") = some true) (x1_t : PySem.W.typeIn K (.ref x1_a) = some (.type "type")) (x1_k : PySem.W.keepIn K (.ref x1_a) = true)
    (x1_ini : PySem.W.findIn K (.ref x1_a) "__init__" = some (some (.ref x1_I))) (x1_li : K.lookup x1_I = some ⟨ioc, iod, .func (PySem.W.fnX "__init__" "Behind.__init__" (defArgs s_ini1) (defBody s_ini1) (defScope s_ini1) [("__class__", icc)] .none ikV idc ipm ian (.ref icda) ict), isl⟩) (x1_ic : PySem.W.codeIn K (.ref icda) "Behind.__init__" = true)
    (x1_co : K.lookup icda = some ioC) (x1_cd : ioC.data = .fields icvs) (x1_cf : icvs[2]? = some (.str ifile itf)) (x1_fi : ((l.prog.main.file : Str) == ifile) = true) (x1_tp : (l.prog.main.scope.names.lookup ("super" : Str)).isSome = false) (x1_cc : K.lookup icc = some ⟨icl, icld, .cell (some (.ref x1_a)), icsl⟩) (x1_cl : PySem.W.clsIn K x1_a = some icd)
    (x1_mr : PySem.W.mroIn K x1_a (.ref x1_a) = some true) (x1_su : PySem.W.ks_superIn K x1_a x1_a "__init__" = some (some (.builtin "ValueError.__init__"))) (x1_B : PySem.W.subIn K (.ref x1_a) (.type "ValueError") = some true) (x1_op : PySem.W.nsIn K PySem.cStatics "thirdparty.any" = some none) (x1_ti : PySem.W.typeIn K (.ref x1_I) = some (.type "function"))
    (x1_f0 : PySem.W.findIn K (.ref x1_a) "number" = some none) (x1_c : ExcC K x1_a) (x1_x : XfC K x1_a) (x1_h : PySem.W.kitOne K (.ref x1_a) (.ref y_a) = some true) (xm_01 : PySem.W.exmOne K (.ref x_a) (.ref x1_a) = some false) (xm_11 : PySem.W.exmOne K (.ref x1_a) (.ref x1_a) = some true) (xm_10 : PySem.W.exmOne K (.ref x1_a) (.ref x_a) = some false)
    : ∃ fd : FuncData, (∀ (s : Shared) (v : Value), BindsTo s fd ⟨[v], []⟩ [("_law_script", v)]) ∧ ∀ base : Heap, K.In base → base.Ns mainGlobals mg → FnG l.prog w K mg base 7 fa fd ["_law_script"] (spLaw K) := by
  have e := hfa.symm.trans (PySem.W.mg_of X G a13)
  cases e
  have F0 : FunD K "is_number" "is_number" (defArgs s_is_number) (defBody s_is_number) (defScope s_is_number) [.int 0, .int 1000000000000] [] _ _ := ⟨⟨_, _, _, _, _, _, _, _, _, _, rfl, l0, c0, .inr ⟨by simp, _, _, _, _, rfl, t0, u0, (.cons ⟨_, rfl⟩ (.cons ⟨_, rfl⟩ .nil))⟩, .inl rfl⟩, k0⟩
  have F1 := fun_mk (st := s_rows_by_name) l1 c1 k1
  have F2 := fun_mk (st := s_delta) l2 c2 k2
  have F3 := fun_mk (st := s_led) l3 c3 k3
  have F4 := fun_mk (st := s_l_draws) l4 c4 k4
  have F5 := fun_mk (st := s_l_next) l5 c5 k5
  have F6 := fun_mk (st := s_l_names) l6 c6 k6
  have F7 := fun_mk (st := s_l_forms) l7 c7 k7
  have F8 := fun_mk (st := s_l_tongue) l8 c8 k8
  have F9 := fun_mk (st := s_l_row) l9 c9 k9
  have F10 := fun_mk (st := s_l_list) l10 c10 k10
  have F11 := fun_mk (st := s_l_turned) l11 c11 k11
  have F12 := fun_mk (st := s_l_some_tongues) l12 c12 k12
  have F13 := fun_mk (st := s_law) l13 c13 k13
  obtain ⟨ds0, v0, b0⟩ := F0.binds1 (ps := ["thing", "low", "high"]) 3 2 (by simp) rfl fun _ _ _ _ _ _ _ us its h1 h2 => match us, its, h1, h2 with | [_, _, _], [_, _], _, _ => ⟨_, rfl, rfl⟩
  replace v0 : Vals [] ds0 := v0
  cases v0
  have b1 := F1.binds (ps := ["rows"]) fun _ _ _ _ _ _ us hl => match us, hl with | [_], _ => rfl
  have b2 := F2.binds (ps := ["one", "other"]) fun _ _ _ _ _ _ us hl => match us, hl with | [_, _], _ => rfl
  have b3 := F3.binds (ps := ["rows", "delta"]) fun _ _ _ _ _ _ us hl => match us, hl with | [_, _], _ => rfl
  have b4 := F4.binds (ps := ["_law_script"]) fun _ _ _ _ _ _ us hl => match us, hl with | [_], _ => rfl
  have b5 := F5.binds (ps := ["_law_drawn", "_law_many"]) fun _ _ _ _ _ _ us hl => match us, hl with | [_, _], _ => rfl
  have b6 := F6.binds (ps := ["_law_drawn", "_law_many"]) fun _ _ _ _ _ _ us hl => match us, hl with | [_, _], _ => rfl
  have b7 := F7.binds (ps := ["_law_drawn"]) fun _ _ _ _ _ _ us hl => match us, hl with | [_], _ => rfl
  have b8 := F8.binds (ps := ["_law_drawn"]) fun _ _ _ _ _ _ us hl => match us, hl with | [_], _ => rfl
  have b9 := F9.binds (ps := ["_law_drawn", "_law_name"]) fun _ _ _ _ _ _ us hl => match us, hl with | [_, _], _ => rfl
  have b10 := F10.binds (ps := ["_law_drawn", "_law_names_here"]) fun _ _ _ _ _ _ us hl => match us, hl with | [_, _], _ => rfl
  have b11 := F11.binds (ps := ["_law_drawn", "_law_rows", "_law_names_here"]) fun _ _ _ _ _ _ us hl => match us, hl with | [_, _, _], _ => rfl
  have b12 := F12.binds (ps := ["_law_drawn"]) fun _ _ _ _ _ _ us hl => match us, hl with | [_], _ => rfl
  have b13 := F13.binds (ps := ["_law_script"]) fun _ _ _ _ _ _ us hl => match us, hl with | [_], _ => rfl
  have Fq0 := fun_mk (st := s_Program___init__) lq0 cq0 kq0
  have bq0 := Fq0.binds (ps := ["self", "rows", "tongues"]) fun _ _ _ _ _ _ us hl => match us, hl with | [_, _, _], _ => rfl
  have Fq1 := fun_mk (st := s_Program_its_number) lq1 cq1 kq1
  have bq1 := Fq1.binds (ps := ["self"]) fun _ _ _ _ _ _ us hl => match us, hl with | [_], _ => rfl
  have Fq2 := fun_mk (st := s_Program_take_delta) lq2 cq2 kq2
  have bq2 := Fq2.binds (ps := ["self", "number", "delta"]) fun _ _ _ _ _ _ us hl => match us, hl with | [_, _, _], _ => rfl
  have Fq3 := fun_mk (st := s_Program_its_rows) lq3 cq3 kq3
  have bq3 := Fq3.binds (ps := ["self"]) fun _ _ _ _ _ _ us hl => match us, hl with | [_], _ => rfl
  have Fq4 := fun_mk (st := s_Program___len__) lq4 cq4 kq4
  have bq4 := Fq4.binds (ps := ["self"]) fun _ _ _ _ _ _ us hl => match us, hl with | [_], _ => rfl
  have Fq5 := fun_mk (st := s_Program___eq__) lq5 cq5 kq5
  have bq5 := Fq5.binds (ps := ["self", "other"]) fun _ _ _ _ _ _ us hl => match us, hl with | [_, _], _ => rfl
  let T : Tx l.prog K mg := ⟨f0, _, F0, PySem.W.mg_of X G a0, b0, f1, _, F1, PySem.W.mg_of X G a1, b1, f2, _, F2, PySem.W.mg_of X G a2, b2, f3, _, F3, PySem.W.mg_of X G a3, b3, f4, _, F4, PySem.W.mg_of X G a4, b4, f5, _, F5, PySem.W.mg_of X G a5, b5, f6, _, F6, PySem.W.mg_of X G a6, b6, f7, _, F7, PySem.W.mg_of X G a7, b7, f8, _, F8, PySem.W.mg_of X G a8, b8, f9, _, F9, PySem.W.mg_of X G a9, b9, f10, _, F10, PySem.W.mg_of X G a10, b10, f11, _, F11, PySem.W.mg_of X G a11, b11, f12, _, F12, PySem.W.mg_of X G a12, b12, fa, _, F13, PySem.W.mg_of X G a13, b13, PySem.W.mg_none_of X G z_bool, PySem.W.mg_none_of X G z_dict, PySem.W.mg_none_of X G z_int, PySem.W.mg_none_of X G z_isinstance, PySem.W.mg_none_of X G z_len, PySem.W.mg_none_of X G z_list, PySem.W.mg_none_of X G z_range, PySem.W.mg_none_of X G z_repr, PySem.W.mg_none_of X G z_sorted, PySem.W.mg_none_of X G z_super, PySem.W.mg_none_of X G z_tuple, x_a, PySem.W.mg_of X G x_g, x_k, x_x, x_s, x_t, x_c, x_m, y_a, PySem.W.mg_of X G y_g, x_i, c0_a, PySem.W.mg_of X G c0_g, c0_c, c0_n_rows, c0_n_tongues, c0_n_number, fq0, _, Fq0, bq0, ⟨mkq0, aq0, iq0, kcq0⟩, fq1, _, Fq1, bq1, ⟨aq1, iq1, kq1⟩, fq2, _, Fq2, bq2, ⟨aq2, iq2, kq2⟩, fq3, _, Fq3, bq3, ⟨aq3, iq3, kq3⟩, fq4, _, Fq4, bq4, aq4, iq4, fq5, _, Fq5, bq5, ⟨aq5, iq5, neq5, obq5⟩, nf0, nf1, kt0, kt1, kt2, ic_ha, ic_hn, ic_ht, ic_hm, x1_a, x1_I, _, PySem.W.mg_of X G x1_g, ⟨⟨ioc, icl, .none, ikV, idc, ipm, ict, ian, iod, icld, icc, icda, isl, icsl, ioC, icvs, ifile, itf, icd, rfl, x1_li, x1_ic, x1_co, x1_cd, x1_cf, x1_fi, x1_cc, x1_cl⟩, x1_tp, ⟨_, rfl, rfl⟩, x1_mr, ⟨⟨xnm, xq, xN, xbs, xbm, xsn, xsub, xab, xcol, xdd, xk0, xk1, xk2, xk3, xk5, x1_l, x1_r⟩, x1_sa, x1_s, x1_t, x1_k⟩, x1_su, x1_B, x1_op, x1_ini, x1_ti⟩, .all fun us hl => match us, hl with | [_, _], _ => rfl, x1_f0, x1_c, x1_x, x1_h, xm_01, xm_11, xm_10⟩
  exact ⟨PySem.W.fnOf "law" "law" (defArgs s_law) (defBody s_law) (defScope s_law) .none kV13 dc13 pm13 an13 cd13 ct13, fun s v => .of_eq rfl, fun base _ _ => ok_law T hm⟩
end K69
open PySem PySem.W PyProof.Rows
set_option maxHeartbeats 0 in
theorem PySem.Challenge.cw_tonguehouse_k69_programs_and_deltas_holds : PySem.Challenge.rw_tonguehouse_k69_programs_and_deltas.Holds := by
  w_on; o_law; k_head; (case hw => w_witness2)
  k_fill
  refine PD.walkG (l := PySem.Challenge.rw_tonguehouse_k69_programs_and_deltas) (m := 63) (n := 7) (nm := "_law_script") (π := fun w => PD.spLaw _) rfl (by decide) rfl ⟨rfl, by decide, by decide⟩ (fun w h Y => PySem.W.kIn_of Y) ?F (fun _ _ a ns hl _ hS => ⟨a, ns, rfl, hS, hl, fun _ => rfl⟩)
  case F =>
    intro w mg fa h KX G hmg
    refine' K69.all_mk KX G hmg K69.main ?a0 ?l0 ?t0 ?u0 ?c0 ?k0 ?a1 ?l1 ?c1 ?k1 ?a2 ?l2 ?c2 ?k2 ?a3 ?l3 ?c3 ?k3 ?a4 ?l4 ?c4 ?k4 ?a5 ?l5 ?c5 ?k5 ?a6 ?l6 ?c6 ?k6 ?a7 ?l7 ?c7 ?k7 ?a8 ?l8 ?c8 ?k8 ?a9 ?l9 ?c9 ?k9 ?a10 ?l10 ?c10 ?k10 ?a11 ?l11 ?c11 ?k11 ?a12 ?l12 ?c12 ?k12 ?a13 ?l13 ?c13 ?k13 ?z_bool ?z_dict ?z_int ?z_isinstance ?z_len ?z_list ?z_range ?z_repr ?z_sorted ?z_super ?z_tuple ?x_g ?y_g ?x_k ?x_x ?x_s ?x_t ?x_c ?x_m ?x_i ?c0_g ?c0_c ?c0_n_rows ?c0_n_tongues ?c0_n_number ?aq0 ?lq0 ?cq0 ?kq0 ?iq0 ?mkq0 ?kcq0 ?aq1 ?lq1 ?cq1 ?kq1 ?iq1 ?aq2 ?lq2 ?cq2 ?kq2 ?iq2 ?aq3 ?lq3 ?cq3 ?kq3 ?iq3 ?aq4 ?lq4 ?cq4 ?kq4 ?iq4 ?aq5 ?lq5 ?cq5 ?kq5 ?iq5 ?neq5 ?obq5 ?nf0 ?nf1 ?kt0 ?kt1 ?kt2 ?ic_ha ?ic_hn ?ic_ht ?ic_hm ?x1_g ?x1_l ?x1_r ?x1_sa ?x1_s ?x1_t ?x1_k ?x1_ini ?x1_li ?x1_ic ?x1_co ?x1_cd ?x1_cf ?x1_fi ?x1_tp ?x1_cc ?x1_cl ?x1_mr ?x1_su ?x1_B ?x1_op ?x1_ti ?x1_f0 ?x1_c ?x1_x ?x1_h ?xm_01 ?xm_11 ?xm_10
    (case a0 => k_is); (case l0 => k_is); (case t0 => k_is); (case u0 => rfl); (case c0 => k_is); (case k0 => k_is); (case a1 => k_is); (case l1 => k_is); (case c1 => k_is); (case k1 => k_is); (case a2 => k_is); (case l2 => k_is); (case c2 => k_is); (case k2 => k_is); (case a3 => k_is); (case l3 => k_is); (case c3 => k_is); (case k3 => k_is); (case a4 => k_is); (case l4 => k_is); (case c4 => k_is); (case k4 => k_is); (case a5 => k_is); (case l5 => k_is); (case c5 => k_is); (case k5 => k_is); (case a6 => k_is); (case l6 => k_is); (case c6 => k_is); (case k6 => k_is); (case a7 => k_is); (case l7 => k_is); (case c7 => k_is); (case k7 => k_is); (case a8 => k_is); (case l8 => k_is); (case c8 => k_is); (case k8 => k_is); (case a9 => k_is); (case l9 => k_is); (case c9 => k_is); (case k9 => k_is); (case a10 => k_is); (case l10 => k_is); (case c10 => k_is); (case k10 => k_is); (case a11 => k_is); (case l11 => k_is); (case c11 => k_is); (case k11 => k_is); (case a12 => k_is); (case l12 => k_is); (case c12 => k_is); (case k12 => k_is); (case a13 => k_is); (case l13 => k_is); (case c13 => k_is); (case k13 => k_is); (case z_bool => k_is); (case z_dict => k_is); (case z_int => k_is); (case z_isinstance => k_is); (case z_len => k_is); (case z_list => k_is); (case z_range => k_is); (case z_repr => k_is); (case z_sorted => k_is); (case z_super => k_is); (case z_tuple => k_is); (case x_g => k_is); (case y_g => k_is); (case x_k => k_is); (case x_x => k_exc); (case x_s => k_is); (case x_t => k_is); (case x_c => constructor <;> k_is); (case x_m => kts_exm); (case x_i => kit_is); (case c0_g => k_is); (case c0_c => constructor <;> k_is); (case c0_n_rows => k_is); (case c0_n_tongues => k_is); (case c0_n_number => k_is); (case aq0 => k_is); (case lq0 => k_is); (case cq0 => k_is); (case kq0 => k_is); (case iq0 => k_is); (case mkq0 => k_is); (case kcq0 => k_is); (case aq1 => k_is); (case lq1 => k_is); (case cq1 => k_is); (case kq1 => k_is); (case iq1 => k_is); (case aq2 => k_is); (case lq2 => k_is); (case cq2 => k_is); (case kq2 => k_is); (case iq2 => k_is); (case aq3 => k_is); (case lq3 => k_is); (case cq3 => k_is); (case kq3 => k_is); (case iq3 => k_is); (case aq4 => k_is); (case lq4 => k_is); (case cq4 => k_is); (case kq4 => k_is); (case iq4 => k_is); (case aq5 => k_is); (case lq5 => k_is); (case cq5 => k_is); (case kq5 => k_is); (case iq5 => k_is); (case neq5 => k_is); (case obq5 => k_is); (case nf0 => k_is); (case nf1 => k_is); (case kt0 => kit_is); (case kt1 => kit_is); (case kt2 => kit_is); (case ic_ha => k_is); (case ic_hn => k_is); (case ic_ht => k_is); (case ic_hm => k_is); (case x1_g => k_is); (case x1_l => k_is); (case x1_r => rfl); (case x1_sa => k_is); (case x1_s => k_is); (case x1_t => k_is); (case x1_k => k_is); (case x1_ini => k_is); (case x1_li => k_is); (case x1_ic => k_is); (case x1_co => k_is); (case x1_cd => rfl); (case x1_cf => rfl); (case x1_fi => rfl); (case x1_tp => rfl); (case x1_cc => k_is); (case x1_cl => k_is); (case x1_mr => k_is); (case x1_su => ks_is); (case x1_B => k_is); (case x1_op => k_is); (case x1_ti => k_is); (case x1_f0 => k_is); (case x1_c => constructor <;> k_is); (case x1_x => constructor <;> k_is); (case x1_h => kit_is); (case xm_01 => kts_exm); (case xm_11 => kts_exm); (case xm_10 => kts_exm)
